/-
  What the statement's proof leans on: the ways of walking, mM mathematics, and what the program's functions return; each theorem says on what conditions.
-/
import Derived.Lib.SplitLaws
import Derived.Lib.TrimByte
import Derived.Lib.Join
import Derived.Lib.MakeNoZero
import Derived.Laws.IdiomCopy
import Derived.Shelf.Strings.SplitCore
import Derived.Test.YtkljdpiaghepfaaGreatDoorMC6
set_option maxRecDepth 1000000
set_option maxHeartbeats 8000000
set_option linter.unusedVariables false
set_option linter.unusedSimpArgs false
set_option linter.unnecessarySimpa false
namespace Go.Proofs.YtkljdpiaghepfaaGreatDoor
open Go.RowKit

section
theorem fI {c : Cu} (h : c.short) : (kJ c).short := by
  unfold kJ
  split
  · exact h
  · split
    · unfold pB
      split
      · exact next_short _
      · exact ⟨by simp [zX, Ver.zero], by simp [zX, Ver.zero]⟩
    · unfold bV
      split
      · exact ⟨by simp [zX, Ver.zero], by simp [zX, Ver.zero]⟩
      · exact fP _
def pF (l : List Sp) (k : Nat) : List Sp := ((l.take k).map uC).filter (·.may)
theorem turnL_step {l : List Sp} {k : Nat} (hk : k < l.length) {s : Sp} (hs : l[k] = s) : pF l (k + 1) = pF l k ++ (if (uC s).may then [uC s] else []) := by
  unfold pF
  rw [List.take_succ_eq_append_getElem hk, List.map_append, List.filter_append, hs]
  congr 1
  show List.filter _ [uC s] = _
  cases h : (uC s).may <;> simp [h]
theorem bA (l : List Sp) (k : Nat) : (pF l k).length ≤ k := by
  unfold pF
  refine Nat.le_trans (List.length_filter_le _ _) ?_
  rw [List.length_map, List.length_take]; omega
structure MkI (l : List Sp) (k : Nat) (u : Value) (acc : List Sp) (ob : List Blk) : Prop where
  le : k ≤ l.length
  sl : SlS u acc ob
  eq : acc = pF l k
theorem MkI.keep {l : List Sp} {k : Nat} {u : Value} {acc : List Sp} {ob : List Blk} (h : MkI l k u acc ob) (hk : k < l.length) {s : Sp} {x y : Cu} (hs : l[k] = s) (hx : kJ s.lo = x) (hy : kJ s.hi = y) (hm : (Sp.mk x y).may = false) : MkI l (k + 1) u acc ob :=
  ⟨hk, h.sl, by rw [turnL_step hk hs, show uC s = ⟨x, y⟩ from by unfold uC; rw [hx, hy], hm, h.eq]; simp⟩
theorem MkI.grow {l : List Sp} {k : Nat} {u u2 : Value} {acc : List Sp} {ob ob2 : List Blk} (h : MkI l k u acc ob) (hk : k < l.length) {s : Sp} {x y : Cu} (hs : l[k] = s) (hx : kJ s.lo = x) (hy : kJ s.hi = y) (hm : (Sp.mk x y).may = true) (h2 : Sl 80 14 u2 (acc.length + 1) (acc.flatMap yR ++ yR ⟨x, y⟩) ob2) : MkI l (k + 1) u2 (acc ++ [⟨x, y⟩]) ob2 :=
  ⟨hk, h2.to (by simp) (by simp), by rw [turnL_step hk hs, show uC s = ⟨x, y⟩ from by unfold uC; rw [hx, hy], hm, ← h.eq, if_pos rfl]⟩
theorem turnL_may (l : List Sp) (k : Nat) : ∀ s ∈ pF l k, s.may = true := fun s hs => by
  unfold pF at hs
  exact (List.mem_filter.1 hs).2
theorem own_mk {M : List Nat} {W w : World} {x : Blk} {A B C : List Blk} (h : Own M W w ([] ++ A ++ (B ++ (C ++ [x])))) : Own M W w (x :: (A ++ B)) := by
  have h1 : Own M W w (A ++ (B ++ (C ++ [x]))) := h
  have h2 : Own M W w (A ++ (B ++ [x])) := h1.sublist ((List.Sublist.refl A).append ((List.Sublist.refl B).append (List.sublist_append_right C [x])))
  exact h2.perm (by rw [← List.append_assoc]; exact List.perm_append_comm)
theorem own_mid0 {M : List Nat} {W w : World} {x : Blk} {A : List Blk} (h : Own M W w (x :: A)) : Own M W w A := h.sublist (List.sublist_cons_self x A)
theorem own_drop {M : List Nat} {W w : World} {x y z : Blk} {A : List Blk} (h : Own M W w ([x, y] ++ A ++ [z])) : Own M W w (A ++ [z]) := h.sublist (by rw [List.append_assoc]; exact List.sublist_append_right [x, y] _)
theorem rsetMake_any (A B : Option Addr) (c d : Nat) (l q : List Sp) (W : World) (hv : Reads yR W W.heap.size A l) (hu : Reads yR W W.heap.size B q) (hn : l.length ≤ 100000) (hk : q.length ≤ 100000) (hl : x8 l) (hm : x8 q) :
    Calls Tryz.prog 89 #[.slice A l.length c, .slice B q.length d] W fun e w' => ∃ v' ob', e = .returned (.tuple #[v', .bool (zR l && zR q)]) ∧ SetO v' (if zR l && zR q then ⟨kB l, q⟩ else gH) ob' ∧ Own [] W w' ob' := by
  refine Z2 (n := 54) Tryz.func89 rfl (ZO (Za (.agg ZM) (fun b1 => Zv Z5 (ZN (z7 (ZO (Zv (.slice A l.length c) (Zc (k := 54) (args := #[.slice A l.length c]) (.bool (zR l)) (fun w hO => gM A c l w (hv.on hO.below hO.below.size) (Nat.le_trans hn (by decide)) hl) ?_))))))))
  cases h1 : zR l with
  | true =>
    refine Zv Z5 (Zv Z5 (Zv (.slice B q.length d) (Zc (k := 54) (args := #[.slice B q.length d]) (.bool (zR q)) (fun w hO => gM B d q w (hu.on hO.below hO.below.size) (Nat.le_trans hk (by decide)) hm) ?_)))
    cases h2 : zR q with
    | true =>
      refine Zv Z5 (Zv Z5 (ZX (ZB (ZO (Zv (.slice none 0 0) (zP (z8 ?_)))))))
      refine z7 (ZO (Zv (.int .i64 0) (ZN (zL (qE (L' := [] ++ [⟨b1, ZM, 31⟩]) rfl (yL (fun L f m => ∃ (k : Nat) (u : Value) (acc : List Sp) (ob : List Blk) (j : Nat → Value), (MkI l k u acc ob) ∧ L = ob ++ [⟨b1, ZM, 31⟩] ∧ f = xF j [(0, .slice A l.length c), (1, .slice B q.length d), (4, Zp b1 0), (6, u), (7, .int .i64 (k : Int))] ∧ m = l.length - k) (l.length - 0) ⟨0, _, [], [], _, ⟨Nat.zero_le _, Sl.nil _ _, rfl⟩, rfl, ZU, rfl⟩ ?_))))))
      rintro L f m ⟨k, u, acc, ob, j, hrel, rfl, rfl, rfl⟩
      have hkl := hrel.le
      refine z7 (ZO (Zv (.int .i64 (k : Int)) (Zv (.slice A l.length c) (Zv (.int .i64 (l.length : Int)) ?_))))
      by_cases h3 : (k : Int) < (l.length : Int)
      · have hlk : k < l.length := by omega
        obtain ⟨b, off, hA, hlt, hcell⟩ := hv (by omega)
        obtain ⟨s, he⟩ : ∃ s, l[k] = s := ⟨_, rfl⟩
        have hsk : s.short := he ▸ hl _ (List.getElem_mem _)
        obtain ⟨x, hx⟩ : ∃ x, kJ s.lo = x := ⟨_, rfl⟩
        obtain ⟨y, hy⟩ : ∃ y, kJ s.hi = y := ⟨_, rfl⟩
        have hxS : x.short := hx ▸ fI hsk.1
        have hyS : y.short := hy ▸ fI hsk.2
        refine Zg h3 (ZY (ZB (z7 (zL (z7 (uF (by kernel_rfl) (ZT 0 [] _ (.slice A l.length c) (zG (zJ (zG (yA (zJ (zG zI)))))) rfl (ZT 1 [] _ (.int .i64 (k : Int)) (zG (zJ (zG (yA (zJ (zG zI)))))) rfl ?_))))))))
        refine uK 2 [] _ (Zp b (off + k * 14)) rfl (by kernel_rfl) (by kernel_rfl) (by kernel_rfl) (zG (zJ (zG (yA (zJ (zG zI)))))) (by kernel_rfl) (fun w _ => qJ (b := b) (off := off) (c := c) (n := l.length) (k := .i64) (j := (k : Int)) (e := 80) (sz := 14) rfl (by kernel_rfl) hA (by kernel_rfl) (by kernel_rfl) (by kernel_rfl) (by omega) (by omega) (by omega) w) (ZT 3 [] _ (Zp b (off + k * 14 + 0)) (zG (zJ (zG (yA (zJ (zG zI)))))) rfl (hJ 4 _ (a := ⟨b, off + k * 14 + 0, none⟩) (zC s.lo) rfl (by kernel_rfl) (by kernel_rfl) (by kernel_rfl) (zG (zJ (zG (yA (zJ (zG zI)))))) (fun w hO => Own.sub [] hO) (by kernel_rfl) rfl (by kernel_rfl) (fun w hO => y6 y9 (fun j u h => (hO.below.cell (p := ⟨b, off + j, none⟩) hlt).trans (hcell j u h)) k 0 hlk (by omega) _ (by rw [he]; kernel_rfl)) (ZT 6 [] _ (.slice A l.length c) (zG (zJ (zG (yA (zJ (zG zI)))))) rfl (ZT 7 [] _ (.int .i64 (k : Int)) (zG (zJ (zG (yA (zJ (zG zI)))))) rfl (uK 8 [] _ (Zp b (off + k * 14)) rfl (by kernel_rfl) (by kernel_rfl) (by kernel_rfl) (zG (zJ (zG (yA (zJ (zG zI)))))) (by kernel_rfl) (fun w _ => qJ (b := b) (off := off) (c := c) (n := l.length) (k := .i64) (j := (k : Int)) (e := 80) (sz := 14) rfl (by kernel_rfl) hA (by kernel_rfl) (by kernel_rfl) (by kernel_rfl) (by omega) (by omega) (by omega) w) (ZT 9 [] _ (Zp b (off + k * 14 + 7)) (zG (zJ (zG (yA (zJ (zG zI)))))) rfl (hJ 10 _ (a := ⟨b, off + k * 14 + 7, none⟩) (zC s.hi) rfl (by kernel_rfl) (by kernel_rfl) (by kernel_rfl) (zG (zJ (zG (yA (zJ (zG zI)))))) (fun w hO => Own.sub [] hO) (by kernel_rfl) rfl (by kernel_rfl) (fun w hO => y6 y9 (fun j u h => (hO.below.cell (p := ⟨b, off + j, none⟩) hlt).trans (hcell j u h)) k 7 hlk (by omega) _ (by rw [he]; kernel_rfl)) (wS 5 13 (by kernel_rfl) ?_ ?_))))))))
        · refine Zx [] _ (k := 143) (args := #[zC s.lo]) (zC x) rfl (fun w _ => jA (by rw [hx]) (wE s.lo w hsk.1)) (wS 11 13 (by kernel_rfl) ?_ ?_)
          · refine Zx [] _ (k := 143) (args := #[zC s.hi]) (zC y) rfl (fun w _ => jA (by rw [hy]) (wE s.hi w hsk.2)) (ZT 12 [] _ (.agg (ZJ2 x y)) (zG (zJ (zG (yA (zJ (zG zI)))))) rfl (Zz 13 (Zy [] _ (.agg Z6) rfl rfl (fun b2 => Zz 14 (ZS [⟨b2, Z6, 80⟩] _ 0 ⟨b2, Z6, 80⟩ (off := 0) (.agg (ZJ2 x y)) rfl rfl (ZZ (z8 (ZO (Zl 0 ⟨b2, (ZJ2 x y), 80⟩ (off := 0) (.agg (ZJ2 x y)) (Zc (k := 96) (args := #[.agg (ZJ2 x y)]) (.bool ((⟨x, y⟩ : Sp).may)) (fun w _ => j4 ⟨x, y⟩ w ⟨hxS, hyS⟩) ?_))))))))))
            refine zP (z8 ?_)
            cases h4 : (⟨x, y⟩ : Sp).may with
            | true =>
              refine Zt (zA (Zv (u) (Zl 0 ⟨b2, (ZJ2 x y), 80⟩ (off := 0) (.agg (ZJ2 x y)) (qC 80 (ZJ2 x y) (by kernel_rfl) rfl (fun _ => by kernel_rfl) (fun b3 => ?_)))))
              obtain ⟨i0, z0, e1, e2, e3, e4, e5⟩ := kX
              have hln : acc.length ≤ k := by rw [hrel.eq]; exact bA l k
              refine xT (L' := [⟨b3, (ZJ2 x y), 80⟩, ⟨b2, (ZJ2 x y), 80⟩] ++ ob ++ [⟨b1, ZM, 31⟩]) (by rw [List.append_assoc]; kernel_rfl) (kR (sz := 14) (by kernel_rfl) rfl Tryz.underlying29 e1 e2 e3 e4 (by kernel_rfl) hrel.sl (a := ⟨b3, 0, none⟩) (m := 1) (c := 1) (news := yR ⟨x, y⟩) (by kernel_rfl) rfl (fun w hO j u hj => ?_) (xX _) (by unfold maxLen; omega) (by rw [e5]; omega) (fun u2 ob2 hu2 => ?_))
              · rw [yW, cell_of_row w b3 (0 + j) (yR ⟨x, y⟩).toArray 80 _ (hO.held ⟨b3, (yR ⟨x, y⟩).toArray, 80⟩ (List.mem_append_left _ (List.mem_append_left _ (List.mem_cons_self ..))))]; simpa using hj
              exact Zv (u2) (zP (zQ (z8 (zA (Zv (.int .i64 (k : Int)) (Zu (k := .i64) (((k + 1 : Nat) : Int)) (IntWalk.i64_in _ (by omega)) (Zv (.int .i64 ((k + 1 : Nat) : Int)) (zP (xM (L' := ob2 ++ [⟨b1, ZM, 31⟩]) (fun w hO => own_drop hO) (zT (m' := l.length - (k + 1)) (by omega) ⟨k + 1, u2, _, ob2, _, hrel.grow hlk he hx hy (by assumption) hu2, rfl, ZU, rfl⟩))))))))))
            | false =>
              exact Zf (yC (zQ (z8 (zA (Zv (.int .i64 (k : Int)) (Zu (k := .i64) (((k + 1 : Nat) : Int)) (IntWalk.i64_in _ (by omega)) (Zv (.int .i64 ((k + 1 : Nat) : Int)) (zP (xM (L' := ob ++ [⟨b1, ZM, 31⟩]) (fun w hO => Own.sub [_] hO) (zT (m' := l.length - (k + 1)) (by omega) ⟨k + 1, u, acc, ob, _, hrel.keep hlk he hx hy (by assumption), rfl, ZU, rfl⟩))))))))))
          refine Zy [] _ (.agg Z6) rfl rfl (fun b2 => Zz 11 (Zx [⟨b2, Z6, 80⟩] _ (k := 143) (args := #[zC s.hi]) (zC y) rfl (fun w _ => jA (by rw [hy]) (wE s.hi w hsk.2)) (ZT 12 [⟨b2, Z6, 80⟩] _ (.agg (ZJ2 x y)) (zG (zJ (zG (yA (zJ (zG zI)))))) rfl (Zz 14 (ZS [⟨b2, Z6, 80⟩] _ 0 ⟨b2, Z6, 80⟩ (off := 0) (.agg (ZJ2 x y)) rfl rfl (ZZ (z8 (ZO (Zl 0 ⟨b2, (ZJ2 x y), 80⟩ (off := 0) (.agg (ZJ2 x y)) (Zc (k := 96) (args := #[.agg (ZJ2 x y)]) (.bool ((⟨x, y⟩ : Sp).may)) (fun w _ => j4 ⟨x, y⟩ w ⟨hxS, hyS⟩) ?_))))))))))
          refine zP (z8 ?_)
          cases h5 : (⟨x, y⟩ : Sp).may with
          | true =>
            refine Zt (zA (Zv (u) (Zl 0 ⟨b2, (ZJ2 x y), 80⟩ (off := 0) (.agg (ZJ2 x y)) (qC 80 (ZJ2 x y) (by kernel_rfl) rfl (fun _ => by kernel_rfl) (fun b3 => ?_)))))
            obtain ⟨i0, z0, e1, e2, e3, e4, e5⟩ := kX
            have hln : acc.length ≤ k := by rw [hrel.eq]; exact bA l k
            refine xT (L' := [⟨b3, (ZJ2 x y), 80⟩, ⟨b2, (ZJ2 x y), 80⟩] ++ ob ++ [⟨b1, ZM, 31⟩]) (by rw [List.append_assoc]; kernel_rfl) (kR (sz := 14) (by kernel_rfl) rfl Tryz.underlying29 e1 e2 e3 e4 (by kernel_rfl) hrel.sl (a := ⟨b3, 0, none⟩) (m := 1) (c := 1) (news := yR ⟨x, y⟩) (by kernel_rfl) rfl (fun w hO j u hj => ?_) (xX _) (by unfold maxLen; omega) (by rw [e5]; omega) (fun u2 ob2 hu2 => ?_))
            · rw [yW, cell_of_row w b3 (0 + j) (yR ⟨x, y⟩).toArray 80 _ (hO.held ⟨b3, (yR ⟨x, y⟩).toArray, 80⟩ (List.mem_append_left _ (List.mem_append_left _ (List.mem_cons_self ..))))]; simpa using hj
            exact Zv (u2) (zP (zQ (z8 (zA (Zv (.int .i64 (k : Int)) (Zu (k := .i64) (((k + 1 : Nat) : Int)) (IntWalk.i64_in _ (by omega)) (Zv (.int .i64 ((k + 1 : Nat) : Int)) (zP (xM (L' := ob2 ++ [⟨b1, ZM, 31⟩]) (fun w hO => own_drop hO) (zT (m' := l.length - (k + 1)) (by omega) ⟨k + 1, u2, _, ob2, _, hrel.grow hlk he hx hy (by assumption) hu2, rfl, ZU, rfl⟩))))))))))
          | false =>
            exact Zf (yC (zQ (z8 (zA (Zv (.int .i64 (k : Int)) (Zu (k := .i64) (((k + 1 : Nat) : Int)) (IntWalk.i64_in _ (by omega)) (Zv (.int .i64 ((k + 1 : Nat) : Int)) (zP (xM (L' := ob ++ [⟨b1, ZM, 31⟩]) (fun w hO => Own.sub [_] hO) (zT (m' := l.length - (k + 1)) (by omega) ⟨k + 1, u, acc, ob, _, hrel.keep hlk he hx hy (by assumption), rfl, ZU, rfl⟩))))))))))
        refine Zy [] _ (.agg Z6) rfl rfl (fun b2 => Zz 5 (Zx [⟨b2, Z6, 80⟩] _ (k := 143) (args := #[zC s.lo]) (zC x) rfl (fun w _ => jA (by rw [hx]) (wE s.lo w hsk.1)) (Zz 11 (Zx [⟨b2, Z6, 80⟩] _ (k := 143) (args := #[zC s.hi]) (zC y) rfl (fun w _ => jA (by rw [hy]) (wE s.hi w hsk.2)) (ZT 12 [⟨b2, Z6, 80⟩] _ (.agg (ZJ2 x y)) (zG (zJ (zG (yA (zJ (zG zI)))))) rfl (Zz 14 (ZS [⟨b2, Z6, 80⟩] _ 0 ⟨b2, Z6, 80⟩ (off := 0) (.agg (ZJ2 x y)) rfl rfl (ZZ (z8 (z7 (zA ?_)))))))))))
        refine Zl 0 ⟨b2, (ZJ2 x y), 80⟩ (off := 0) (.agg (ZJ2 x y)) (Zc (k := 96) (args := #[.agg (ZJ2 x y)]) (.bool ((⟨x, y⟩ : Sp).may)) (fun w _ => j4 ⟨x, y⟩ w ⟨hxS, hyS⟩) (zP (z8 ?_)))
        cases h6 : (⟨x, y⟩ : Sp).may with
        | true =>
          refine Zt (zA (Zv (u) (Zl 0 ⟨b2, (ZJ2 x y), 80⟩ (off := 0) (.agg (ZJ2 x y)) (qC 80 (ZJ2 x y) (by kernel_rfl) rfl (fun _ => by kernel_rfl) (fun b3 => ?_)))))
          obtain ⟨i0, z0, e1, e2, e3, e4, e5⟩ := kX
          have hln : acc.length ≤ k := by rw [hrel.eq]; exact bA l k
          refine xT (L' := [⟨b3, (ZJ2 x y), 80⟩, ⟨b2, (ZJ2 x y), 80⟩] ++ ob ++ [⟨b1, ZM, 31⟩]) (by rw [List.append_assoc]; kernel_rfl) (kR (sz := 14) (by kernel_rfl) rfl Tryz.underlying29 e1 e2 e3 e4 (by kernel_rfl) hrel.sl (a := ⟨b3, 0, none⟩) (m := 1) (c := 1) (news := yR ⟨x, y⟩) (by kernel_rfl) rfl (fun w hO j u hj => ?_) (xX _) (by unfold maxLen; omega) (by rw [e5]; omega) (fun u2 ob2 hu2 => ?_))
          · rw [yW, cell_of_row w b3 (0 + j) (yR ⟨x, y⟩).toArray 80 _ (hO.held ⟨b3, (yR ⟨x, y⟩).toArray, 80⟩ (List.mem_append_left _ (List.mem_append_left _ (List.mem_cons_self ..))))]; simpa using hj
          exact Zv (u2) (zP (zQ (z8 (zA (Zv (.int .i64 (k : Int)) (Zu (k := .i64) (((k + 1 : Nat) : Int)) (IntWalk.i64_in _ (by omega)) (Zv (.int .i64 ((k + 1 : Nat) : Int)) (zP (xM (L' := ob2 ++ [⟨b1, ZM, 31⟩]) (fun w hO => own_drop hO) (zT (m' := l.length - (k + 1)) (by omega) ⟨k + 1, u2, _, ob2, _, hrel.grow hlk he hx hy (by assumption) hu2, rfl, ZU, rfl⟩))))))))))
        | false =>
          exact Zf (yC (zQ (z8 (zA (Zv (.int .i64 (k : Int)) (Zu (k := .i64) (((k + 1 : Nat) : Int)) (IntWalk.i64_in _ (by omega)) (Zv (.int .i64 ((k + 1 : Nat) : Int)) (zP (xM (L' := ob ++ [⟨b1, ZM, 31⟩]) (fun w hO => Own.sub [_] hO) (zT (m' := l.length - (k + 1)) (by omega) ⟨k + 1, u, acc, ob, _, hrel.keep hlk he hx hy (by assumption), rfl, ZU, rfl⟩))))))))))
      refine Zh h3 (ZX (y5 (zD (zN (zH (z8 (ZO (Zv (u) ?_))))))))
      have hke : acc = (l.map uC).filter (·.may) := by have h := hrel.eq; unfold pF at h; rwa [List.take_of_length_le (by omega)] at h
      have hall : k8 acc = true := allMay_mem.2 (by rw [hrel.eq]; exact turnL_may l k)
      have hsh : x8 acc := fun s hs => tV (allMay_mem.1 hall s hs)
      have hln : acc.length ≤ k := by rw [hrel.eq]; exact bA l k
      have hsl := hrel.sl
      clear hrel
      obtain ⟨C, cc, rfl⟩ := hsl.form
      refine Zr (k := 103) (args := #[.slice C acc.length cc]) (fun v' L' => ∃ mv ob', v' = .tuple #[mv, .bool true] ∧ L' = ob' ++ (ob ++ ([⟨b1, ZM, 31⟩])) ∧ SlS mv (kB l) ob') (fun w hO => (rmake_any C cc acc w (Sl.reads hsl rfl hO (fun x hx => by simp [hx])) (by omega) hsh).mono fun e w' ⟨v', ob', k1, k2, k3⟩ => ⟨_, _, k1, ⟨v', ob', by rw [hall], rfl, by rw [hall, if_pos rfl, hke] at k2; exact k2⟩, Own.joinN hO k3⟩) (fun tv L2 hv2 => ?_)
      obtain ⟨v2, o2, rfl, rfl, hr2⟩ := hv2
      obtain ⟨V2, c2, rfl⟩ := hr2.form
      refine Zv (.tuple #[.slice V2 ((kB l).length) c2, .bool true]) (Zv (.slice V2 ((kB l).length) c2) (Zv Z4 (Zv (.slice V2 ((kB l).length) c2) (Zv Z4 (ZR (Zv (.slice V2 ((kB l).length) c2) (Zv (.slice B q.length d) ?_)))))))
      obtain ⟨i, z, e1, e2, e3, e4, e5⟩ := kX
      refine xT (L' := [] ++ [] ++ (o2 ++ (ob ++ ([⟨b1, ZM, 31⟩] : List Blk)))) rfl (jQ (E := []) (ob := []) (L0 := o2 ++ (ob ++ ([⟨b1, ZM, 31⟩] : List Blk))) (sz := 14) (l := q) (A := B) (c := d) y9 (by kernel_rfl) rfl Tryz.underlying29 e1 e2 e3 e4 (by kernel_rfl) (Sl.nil 80 14) (by kernel_rfl) (fun w hO => hu.on hO.below hO.size) xX (by unfold maxLen; omega) (by rw [e5]; omega) (fun v3 o3 hv3 => ?_))
      have hr3 : SlS v3 q o3 := hv3.to (by simp) (by simp)
      clear hv3
      obtain ⟨V3, c3, rfl⟩ := hr3.form
      exact gJ (L' := ⟨b1, ZM, 31⟩ :: (o3 ++ o2)) (fun w hO => own_mk hO) (Zv (.agg #[.slice V2 ((kB l).length) c2, .slice V3 q.length c3]) (Zs 0 ⟨b1, ZM, 31⟩ (off := 0) (.agg #[.slice V2 ((kB l).length) c2, .slice V3 q.length c3]) (Zv Z4 (ZN (zB (ZD 0 ⟨b1, #[.slice V2 ((kB l).length) c2, .slice V3 q.length c3], 31⟩ (off := 0) (.agg #[.slice V2 ((kB l).length) c2, .slice V3 q.length c3]) Z4 Tryz.results89 (fun w hO => ⟨_, _, rfl, by rw [if_pos (by simp [h1, h2])]; exact ⟨_, _, o2, o3, rfl, rfl, hr2, hr3⟩, own_mid0 hO⟩)))))))
    | false =>
      refine Zv Z4 (Zv Z4 (ZY (ZO (Zc (k := 34) (args := #[]) (.agg ZM) (fun w _ => bD w) (Zs 0 ⟨b1, ZM, 31⟩ (off := 0) (.agg ZM) (Zv Z5 (zP (z8 ?_))))))))
      exact zB (z6 (ZD 0 ⟨b1, ZM, 31⟩ (off := 0) (.agg ZM) Z5 Tryz.results89 (fun w hO => ⟨_, [], by first | rfl | (simp [h1, h2]; done), by rw [if_neg (by simp [h1, h2])]; exact SetO.none, kF hO⟩)))
  | false =>
    refine Zv Z4 (Zv Z4 (Zk (Zk (Zk (Zv Z4 (ZY (ZO (Zc (k := 34) (args := #[]) (.agg ZM) (fun w _ => bD w) ?_))))))))
    exact Zs 0 ⟨b1, ZM, 31⟩ (off := 0) (.agg ZM) (Zv Z5 (ZN (zB (z6 (ZD 0 ⟨b1, ZM, 31⟩ (off := 0) (.agg ZM) Z5 Tryz.results89 (fun w hO => ⟨_, [], by first | rfl | (simp [h1]; done), by rw [if_neg (by simp [h1])]; exact SetO.none, kF hO⟩))))))
end
section
theorem altRel_next {l : List Co} {k : Nat} (hk : k < l.length) {c : Co} (hc : l[k] = c) : x7 (l.take (k + 1)) = wP (x7 (l.take k)) c.region := by
  rw [List.take_succ_eq_append_getElem hk, hc, mX]
theorem altZone_next {l : List Co} {k : Nat} (hk : k < l.length) {c : Co} (hc : l[k] = c) : x5 (l.take (k + 1)) = orL (x5 (l.take k)) c.zone := by
  rw [List.take_succ_eq_append_getElem hk, hc, mA]
theorem t6 {r : List (List Co)} {i : Nat} (hi : i < r.length) {a : List Co} (ha : r[i] = a) : xQ (r.take (i + 1)) = orT (xQ (r.take i)) (yF a) := by
  rw [List.take_succ_eq_append_getElem hi, ha, pZ]
theorem qB (l : List Co) (k : Nat) (h : l.length ≤ 1000) : RF (x7 (l.take k)) 4000 := (u9 _).le (by rw [List.length_take]; omega)
theorem gR (l : List Co) (k : Nat) (h : l.length ≤ 1000) : RF (x5 (l.take k)) 4000 := (bU _).le (by rw [List.length_take]; omega)
theorem orAll_le {r : List (List Co)} (h : fewR r = true) (i : Nat) : SF (xQ (r.take i)) 198 := by
  obtain ⟨h1, h2⟩ := fewR.facts h
  refine (orAll_sf (n := 6) _ fun a ha => ((fewA.facts (h2 a (List.mem_of_mem_take ha))).1).2).le ?_
  rw [List.length_take]
  show min i r.length * 33 ≤ 198
  omega
section
variable {M : List Nat} {W w : World}
theorem own_tail {A B C : List Blk} (h : Own M W w ((A ++ B) ++ C)) : Own M W w (B ++ C) := by
  rw [List.append_assoc] at h
  exact Own.sub A h
theorem own_alt {O Z A R o1 o2 : List Blk} {b : Blk} (h : Own M W w (O ++ (Z ++ (A ++ (R ++ (o1 ++ (o2 ++ [b]))))))) : Own M W w (A ++ (O ++ [b])) := by
  have h1 : Own M W w (O ++ (A ++ [b])) := h.sublist (List.Sublist.append (List.Sublist.refl O) (((List.Sublist.refl A).append (((List.sublist_append_right o2 [b]).trans (List.sublist_append_right o1 _)).trans (List.sublist_append_right R _))).trans (List.sublist_append_right Z _)))
  refine h1.perm ?_
  rw [← List.append_assoc, ← List.append_assoc]
  exact List.Perm.append_right _ List.perm_append_comm
theorem own_last {K N o1 o2 : List Blk} {b : Blk} (h : Own M W w (K ++ (N ++ (o1 ++ (o2 ++ [b]))))) : Own M W w (b :: K) := by
  have h1 : Own M W w (K ++ [b]) := h.sublist (List.Sublist.append (List.Sublist.refl K) (((List.sublist_append_right o2 [b]).trans (List.sublist_append_right o1 _)).trans (List.sublist_append_right N _)))
  exact h1.perm List.perm_append_comm
theorem own_sets {x y z : Blk} {A B C : List Blk} (h : Own M W w ((x :: (A ++ (B ++ ([] : List Blk)))) ++ (y :: z :: C))) : Own M W w (x :: y :: z :: A) := by
  have h1 : Own M W w (x :: (A ++ [y, z])) := h.sublist (by
    rw [List.append_nil, List.cons_append]
    refine List.Sublist.cons_cons _ ?_
    rw [List.append_assoc]
    exact List.Sublist.append (List.Sublist.refl A) ((List.Sublist.cons_cons _ (List.Sublist.cons_cons _ (List.nil_sublist C))).trans (List.sublist_append_right B _)))
  exact h1.perm (List.Perm.cons _ List.perm_append_comm)
theorem own_swap1 {x : Blk} {A : List Blk} (h : Own M W w (A ++ [x])) : Own M W w (x :: A) := h.perm List.perm_append_comm
theorem own_keep1 {x y : Blk} {A B : List Blk} (h : Own M W w (A ++ (x :: y :: B))) : Own M W w (y :: A) := by
  have h1 : Own M W w (A ++ [y]) := h.sublist (List.Sublist.append (List.Sublist.refl A) ((List.Sublist.cons_cons y (List.nil_sublist B)).cons x))
  exact h1.perm List.perm_append_comm
end
theorem rsetMake_ok (A B : Option Addr) (c d : Nat) (l q : List Sp) (W : World) (hv : Reads yR W W.heap.size A l) (hu : Reads yR W W.heap.size B q) {n m : Nat} (hl : RF l n) (hm : RF q m) (hn : n ≤ 100000) (hk : m ≤ 100000) :
    Calls Tryz.prog 89 #[.slice A l.length c, .slice B q.length d] W fun e w' => ∃ v' ob', e = .returned v' ∧ (∃ mv, v' = Value.tuple #[mv, .bool true] ∧ SetO mv ⟨kB l, q⟩ ob') ∧ Own [] W w' ob' :=
  (rsetMake_any A B c d l q W hv hu (Nat.le_trans hl.len hn) (Nat.le_trans hm.len hk) hl.short hm.short).mono fun e w' ⟨v', ob', k1, k2, k3⟩ => by
    have hb : (zR l && zR q) = true := by rw [hl.may, hm.may]; rfl
    rw [hb] at k1
    rw [if_pos hb] at k2
    exact ⟨_, ob', k1, ⟨v', rfl, k2⟩, k3⟩
theorem rwhole_any (W : World) : Calls Tryz.prog 141 #[] W fun e w' => ∃ v' ob', e = .returned v' ∧ SlS v' vO ob' ∧ Own [] W w' ob' := by
  refine Z2 (n := 5) Tryz.func141 rfl (ZO (Zv (.slice none 0 0) (ZR (Zc (k := 147) (args := #[]) (zC (zX (-1))) (fun w _ => uT w) (Zc (k := 148) (args := #[]) (zC (zX 1)) (fun w _ => uS w) (Zv (.agg #[.int .i64 ((zX (-1)).e), .int .i64 ((zX (-1)).v.maj), .int .i64 ((zX (-1)).v.min), .int .i64 ((zX (-1)).v.pat), .string (mkS (zX (-1)).v.pre), .string (mkS (zX (-1)).v.build), .bool ((zX (-1)).aft), .int .i64 ((zX 1).e), .int .i64 ((zX 1).v.maj), .int .i64 ((zX 1).v.min), .int .i64 ((zX 1).v.pat), .string (mkS (zX 1).v.pre), .string (mkS (zX 1).v.build), .bool ((zX 1).aft)]) (qC 80 #[.int .i64 ((zX (-1)).e), .int .i64 ((zX (-1)).v.maj), .int .i64 ((zX (-1)).v.min), .int .i64 ((zX (-1)).v.pat), .string (mkS (zX (-1)).v.pre), .string (mkS (zX (-1)).v.build), .bool ((zX (-1)).aft), .int .i64 ((zX 1).e), .int .i64 ((zX 1).v.maj), .int .i64 ((zX 1).v.min), .int .i64 ((zX 1).v.pat), .string (mkS (zX 1).v.pre), .string (mkS (zX 1).v.build), .bool ((zX 1).aft)] (by kernel_rfl) rfl (fun _ => by kernel_rfl) (fun b1 => ?_))))))))
  exact Zv (.slice (some ⟨b1, 0, none⟩) 1 1) (ZN (zB (ZF (.slice (some ⟨b1, 0, none⟩) 1 1) Tryz.results141 (fun w hO => ⟨_, _, rfl, sls_lit ⟨zX (-1), zX 1⟩ b1 _ (by kernel_rfl), hO⟩))))
theorem rsetAll_any (W : World) : Calls Tryz.prog 87 #[] W fun e w' => ∃ v' ob', e = .returned v' ∧ SetO v' allT ob' ∧ Own [] W w' ob' := by
  refine Z2 (n := 4) Tryz.func87 rfl (ZO (Za (.agg ZM) (fun b1 => ZR (Zr (k := 141) (args := #[]) (fun v' L' => ∃ ob', L' = ob' ++ ([⟨b1, ZM, 31⟩]) ∧ SlS v' vO ob') (fun w hO => (rwhole_any w).mono fun e w' ⟨v', ob', k1, k2, k3⟩ => ⟨v', _, k1, ⟨ob', rfl, k2⟩, Own.joinN hO k3⟩) (fun x1 Lx hvx => ?_)))))
  obtain ⟨o1, rfl, hr1⟩ := hvx
  obtain ⟨V1, c1, rfl⟩ := hr1.form
  refine Zr (k := 141) (args := #[]) (fun v' L' => ∃ ob', L' = ob' ++ (o1 ++ ([⟨b1, ZM, 31⟩])) ∧ SlS v' vO ob') (fun w hO => (rwhole_any w).mono fun e w' ⟨v', ob', k1, k2, k3⟩ => ⟨v', _, k1, ⟨ob', rfl, k2⟩, Own.joinN hO k3⟩) (fun x2 Lx hvx => ?_)
  obtain ⟨o2, rfl, hr2⟩ := hvx
  obtain ⟨V2, c2, rfl⟩ := hr2.form
  exact Zv (.agg #[.slice V1 ((vO).length) c1, .slice V2 ((vO).length) c2]) (gJ (L' := ⟨b1, ZM, 31⟩ :: (o2 ++ o1)) (fun w hO => own_swap1 (by rw [List.append_assoc]; exact hO)) (Zs 0 ⟨b1, ZM, 31⟩ (off := 0) (.agg #[.slice V1 ((vO).length) c1, .slice V2 ((vO).length) c2]) (ZN (zB (ZC 0 ⟨b1, #[.slice V1 ((vO).length) c1, .slice V2 ((vO).length) c2], 31⟩ (off := 0) (.agg #[.slice V1 ((vO).length) c1, .slice V2 ((vO).length) c2]) Tryz.results87 (fun w hO => ⟨_, o2 ++ o1, rfl, ⟨_, _, o1, o2, rfl, rfl, hr1, hr2⟩, Own.sub [_] hO⟩))))))
theorem rsalt_any (A : Option Addr) (cap : Nat) (a : List Co) (W : World) (hv : Reads coC W W.heap.size A a) (hn : a.length ≤ 1000) (hsh : ShortA a) : Calls Tryz.prog 50 #[.slice A a.length cap] W fun e w' => ∃ v' ob', e = .returned v' ∧ SetO v' (yF a) ob' ∧ Own [] W w' ob' := by
  refine Z2 (n := 39) Tryz.func50 rfl (ZO (Za (.agg ZM) (fun b1 => ZR (Zr (k := 87) (args := #[]) (fun v' L' => ∃ ob', L' = ob' ++ ([⟨b1, ZM, 31⟩]) ∧ SetO v' allT ob') (fun w hO => (rsetAll_any w).mono fun e w' ⟨v', ob', k1, k2, k3⟩ => ⟨v', _, k1, ⟨ob', rfl, k2⟩, Own.joinN hO k3⟩) (fun v0 Lx hvx => ?_)))))
  obtain ⟨o0, rfl, h0⟩ := hvx
  obtain ⟨_, _, p1, p2, rfl, rfl, hq1, hq2⟩ := h0
  obtain ⟨V0, c0, rfl⟩ := hq1.form
  obtain ⟨V9, c9, rfl⟩ := hq2.form
  refine gJ (L' := p1 ++ ([⟨b1, ZM, 31⟩])) (fun w hO => own_tail hO) (Zv (.slice V0 allT.rel.length c0) (Zv (.slice V0 allT.rel.length c0) (ZR (Zv (.slice none 0 0) (ZN (z7 (z7 ?_)))))))
  refine zA (Zv (.int .i64 0) (ZN (zL (yL (fun L f m => ∃ (k : Nat) (V1 : Option Addr) (c1 : Nat) (o1 : List Blk) (V2 : Option Addr) (c2 : Nat) (o2 : List Blk) (j : Nat → Value), (k ≤ a.length ∧ SlS (.slice V1 (x7 (a.take k)).length c1) (x7 (a.take k)) o1 ∧ SlS (.slice V2 (x5 (a.take k)).length c2) (x5 (a.take k)) o2) ∧ L = o1 ++ (o2 ++ [⟨b1, ZM, 31⟩]) ∧ f = xF j [(0, .slice A a.length cap), (2, Zp b1 0), (3, .slice V1 ((x7 (a.take k)).length) c1), (4, .slice V2 ((x5 (a.take k)).length) c2), (5, .int .i64 (k : Int))] ∧ m = a.length - k) (a.length - 0) ⟨0, V0, c0, p1, none, 0, [], _, ⟨Nat.zero_le _, hq1, Sl.nil _ _⟩, rfl, ZU, rfl⟩ ?_))))
  rintro L f m ⟨k, V1, c1, o1, V2, c2, o2, j, hrel, rfl, rfl, rfl⟩
  have hkl := hrel.1
  refine z7 (ZO (Zv (.int .i64 (k : Int)) (Zv (.slice A a.length cap) (Zv (.int .i64 (a.length : Int)) ?_))))
  by_cases h1 : (k : Int) < (a.length : Int)
  · have hk : k < a.length := by omega
    obtain ⟨b, off, hA, hlt, hcell⟩ := hv (by omega)
    obtain ⟨c, hc⟩ : ∃ c, a[k] = c := ⟨_, rfl⟩
    have hcS : c.short := hsh c (hc ▸ List.getElem_mem hk)
    refine Zg h1 (ZY (ZB (z7 (zL (ZO (Zv (.slice V1 ((x7 (a.take k)).length) c1) (Zv (.slice A a.length cap) ?_)))))))
    refine Zv (.int .i64 (k : Int)) (zU (Zp b (off + k * 7)) (by kernel_rfl) (ZA (b := b) (off := off) (c := cap) (n := a.length) (k := .i64) (j := (k : Int)) (e := 51) (sz := 7) hA) (Zo (coV c) (a := ⟨b, off + k * 7, none⟩) (fun w hO => y6 uM (fun j u h => (hO.below.cell (p := ⟨b, off + j, none⟩) hlt).trans (hcell j u h)) k 0 hk (by omega) _ (by rw [hc]; kernel_rfl)) (Zr (k := 53) (args := #[coV c]) (fun v' L' => ∃ ob', L' = ob' ++ (o1 ++ (o2 ++ ([⟨b1, ZM, 31⟩]))) ∧ SlS v' c.region ob') (fun w hO => (rcRegion_any c w hcS).mono fun e w' ⟨v', ob', k1, k2, k3⟩ => ⟨v', _, k1, ⟨ob', rfl, k2⟩, Own.joinN hO k3⟩) (fun vr Lx hvx => ?_))))
    obtain ⟨oR, rfl, hR⟩ := hvx
    obtain ⟨VR, cR, rfl⟩ := hR.form
    refine Zr (k := 57) (args := #[.slice V1 ((x7 (a.take k)).length) c1, .slice VR ((c.region).length) cR]) (fun v' L' => ∃ ob', L' = ob' ++ (oR ++ (o1 ++ (o2 ++ ([⟨b1, ZM, 31⟩])))) ∧ SlS v' (x7 (a.take (k + 1))) ob') (fun w hO => (rand_any V1 VR c1 cR (x7 (a.take k)) c.region w (Sl.reads hrel.2.1 rfl hO (fun x hx => by simp [hx])) (Sl.reads hR rfl hO (fun x hx => by simp [hx])) (Nat.le_trans (qB a k hn).len (by decide)) (Nat.le_trans (j5 c).len (by decide)) (qB a k hn).short (j5 c).short).mono fun e w' ⟨v', ob', k1, k2, k3⟩ => ⟨v', _, k1, ⟨ob', rfl, by rw [if_pos (by rw [(qB a k hn).may, (j5 c).may]; rfl), ← altRel_next hk hc] at k2; exact k2⟩, Own.joinN hO k3⟩) (fun va Lx hvx => ?_)
    obtain ⟨oA, rfl, hA2⟩ := hvx
    obtain ⟨VA, cA, rfl⟩ := hA2.form
    refine Zv (.slice VA ((x7 (a.take (k + 1))).length) cA) (ZN (zA (Zv (.slice V2 ((x5 (a.take k)).length) c2) (Zv (.slice A a.length cap) (Zv (.int .i64 (k : Int)) (zU (Zp b (off + k * 7)) (by kernel_rfl) (ZA (b := b) (off := off) (c := cap) (n := a.length) (k := .i64) (j := (k : Int)) (e := 51) (sz := 7) hA) (Zo (coV c) (a := ⟨b, off + k * 7, none⟩) (fun w hO => y6 uM (fun j u h => (hO.below.cell (p := ⟨b, off + j, none⟩) hlt).trans (hcell j u h)) k 0 hk (by omega) _ (by rw [hc]; kernel_rfl)) (Zr (k := 88) (args := #[coV c]) (fun v' L' => ∃ ob', L' = ob' ++ (oA ++ (oR ++ (o1 ++ (o2 ++ ([⟨b1, ZM, 31⟩]))))) ∧ SlS v' c.zone ob') (fun w hO => (rcZone_any c w hcS).mono fun e w' ⟨v', ob', k1, k2, k3⟩ => ⟨v', _, k1, ⟨ob', rfl, k2⟩, Own.joinN hO k3⟩) (fun vz Lx hvx => ?_)))))))))
    obtain ⟨oZ, rfl, hZ⟩ := hvx
    obtain ⟨VZ, cZ, rfl⟩ := hZ.form
    refine Zr (k := 58) (args := #[.slice V2 ((x5 (a.take k)).length) c2, .slice VZ ((c.zone).length) cZ]) (fun v' L' => ∃ ob', L' = ob' ++ (oZ ++ (oA ++ (oR ++ (o1 ++ (o2 ++ ([⟨b1, ZM, 31⟩])))))) ∧ SlS v' (x5 (a.take (k + 1))) ob') (fun w hO => (ror_any V2 VZ c2 cZ (x5 (a.take k)) c.zone w (Sl.reads hrel.2.2 rfl hO (fun x hx => by simp [hx])) (Sl.reads hZ rfl hO (fun x hx => by simp [hx])) (Nat.le_trans (gR a k hn).len (by decide)) (Nat.le_trans (wT c).len (by decide)) (gR a k hn).short (wT c).short).mono fun e w' ⟨v', ob', k1, k2, k3⟩ => ⟨v', _, k1, ⟨ob', rfl, by rw [if_pos (by rw [(gR a k hn).may, (wT c).may]; rfl), ← altZone_next hk hc] at k2; exact k2⟩, Own.joinN hO k3⟩) (fun vo Lx hvx => ?_)
    obtain ⟨oO, rfl, hO2⟩ := hvx
    obtain ⟨VO, cO, rfl⟩ := hO2.form
    exact Zv (.slice VO ((x5 (a.take (k + 1))).length) cO) (zP (zQ (z8 (zA (Zv (.int .i64 (k : Int)) (Zu (k := .i64) (((k + 1 : Nat) : Int)) (IntWalk.i64_in _ (by omega)) (Zv (.int .i64 ((k + 1 : Nat) : Int)) (zP (xM (L' := oA ++ (oO ++ [⟨b1, ZM, 31⟩])) (fun w hO => own_alt hO) (zT (m' := a.length - (k + 1)) (by omega) ⟨k + 1, VA, cA, oA, VO, cO, oO, _, ⟨by omega, hA2, hO2⟩, rfl, ZU, rfl⟩))))))))))
  refine Zh h1 (ZX (y5 (zD (zN (zH (z8 (ZO (Zv (.slice V1 ((x7 (a.take k)).length) c1) ?_))))))))
  refine Zv (.slice V1 ((x7 (a.take k)).length) c1) (Zv (.slice V2 ((x5 (a.take k)).length) c2) (Zr (k := 57) (args := #[.slice V1 ((x7 (a.take k)).length) c1, .slice V2 ((x5 (a.take k)).length) c2]) (fun v' L' => ∃ ob', L' = ob' ++ (o1 ++ (o2 ++ ([⟨b1, ZM, 31⟩]))) ∧ SlS v' (wP (x7 (a.take k)) (x5 (a.take k))) ob') (fun w hO => (rand_any V1 V2 c1 c2 (x7 (a.take k)) (x5 (a.take k)) w (Sl.reads hrel.2.1 rfl hO (fun x hx => by simp [hx])) (Sl.reads hrel.2.2 rfl hO (fun x hx => by simp [hx])) (Nat.le_trans (qB a k hn).len (by decide)) (Nat.le_trans (gR a k hn).len (by decide)) (qB a k hn).short (gR a k hn).short).mono fun e w' ⟨v', ob', k1, k2, k3⟩ => ⟨v', _, k1, ⟨ob', rfl, by rw [if_pos (by rw [(qB a k hn).may, (gR a k hn).may]; rfl)] at k2; exact k2⟩, Own.joinN hO k3⟩) (fun vm Lx hvx => ?_)))
  obtain ⟨oM, rfl, hM⟩ := hvx
  obtain ⟨VM, cM, rfl⟩ := hM.form
  have hmf := (qB a k hn).and1 (gR a k hn)
  refine Zr (k := 89) (args := #[.slice V1 ((x7 (a.take k)).length) c1, .slice VM ((wP (x7 (a.take k)) (x5 (a.take k))).length) cM]) (fun v' L' => ∃ ob', L' = ob' ++ (oM ++ (o1 ++ (o2 ++ ([⟨b1, ZM, 31⟩])))) ∧ ∃ mv, v' = .tuple #[mv, .bool true] ∧ SetO mv (yF (a.take k)) ob') (fun w hO => (rsetMake_ok V1 VM c1 cM (x7 (a.take k)) (wP (x7 (a.take k)) (x5 (a.take k))) w (Sl.reads hrel.2.1 rfl hO (fun x hx => by simp [hx])) (Sl.reads hM rfl hO (fun x hx => by simp [hx])) (qB a k hn) hmf (by decide) (by decide)).mono fun e w' ⟨v', ob', k1, k2, k3⟩ => ⟨v', _, k1, ⟨ob', rfl, k2⟩, Own.joinN hO k3⟩) (fun vk Lx hvx => ?_)
  obtain ⟨oK, rfl, hK⟩ := hvx
  obtain ⟨kv, rfl, hK⟩ := hK
  obtain ⟨VK, UK, cK, dK, rfl⟩ := hK.form
  refine gJ (L' := ⟨b1, ZM, 31⟩ :: (oK)) (fun w hO => own_last hO) (Zv (.tuple #[.agg #[.slice VK ((yF (a.take k)).rel.length) cK, .slice UK ((yF (a.take k)).pre.length) dK], .bool true]) (Zv (.agg #[.slice VK ((yF (a.take k)).rel.length) cK, .slice UK ((yF (a.take k)).pre.length) dK]) (Zv Z4 (Za (.agg ZM) (fun b2 => Zs 0 ⟨b2, ZM, 31⟩ (off := 0) (.agg #[.slice VK ((yF (a.take k)).rel.length) cK, .slice UK ((yF (a.take k)).pre.length) dK]) (Zv Z4 (ZR (Zl 0 ⟨b2, #[.slice VK ((yF (a.take k)).rel.length) cK, .slice UK ((yF (a.take k)).pre.length) dK], 31⟩ (off := 0) (.agg #[.slice VK ((yF (a.take k)).rel.length) cK, .slice UK ((yF (a.take k)).pre.length) dK]) ?_))))))))
  exact Zs 1 ⟨b1, ZM, 31⟩ (off := 0) (.agg #[.slice VK ((yF (a.take k)).rel.length) cK, .slice UK ((yF (a.take k)).pre.length) dK]) (ZN (zB (ZC 1 ⟨b1, #[.slice VK ((yF (a.take k)).rel.length) cK, .slice UK ((yF (a.take k)).pre.length) dK], 31⟩ (off := 0) (.agg #[.slice VK ((yF (a.take k)).rel.length) cK, .slice UK ((yF (a.take k)).pre.length) dK]) Tryz.results50 (fun w hO => ⟨_, oK, rfl, by rw [List.take_of_length_le (by omega)] at hK ⊢; exact hK, own_two hO⟩))))
theorem rsSet_any (A : Option Addr) (cap : Nat) (xs : List Al) (W : World) (hv : RgIn W W.heap.size A xs) : Calls Tryz.prog 24 #[.agg #[.slice A xs.length cap]] W fun e w' => ∃ v' ob', e = .returned v' ∧ SetO v' (yT (yU xs)) ob' ∧ Own [] W w' ob' := by
  have hn := hv.n
  refine Z2 (n := 26) Tryz.func24 rfl (ZO (Zb (.agg #[.slice A xs.length cap]) (fun b1 => Za (.agg ZM) (fun b2 => ZR (Zc (k := 34) (args := #[]) (.agg ZM) (fun w _ => bD w) (Za (.agg ZM) (fun b3 => Zs 0 ⟨b3, ZM, 31⟩ (off := 0) (.agg ZM) ?_)))))))
  refine ZN (z7 (ZO (Zl 2 ⟨b1, #[.slice A xs.length cap], 25⟩ (off := 0) (.agg #[.slice A xs.length cap]) (Zc (k := 20) (args := #[.agg #[.slice A xs.length cap]]) (.bool (rgMay (yU xs))) (fun w hO => rsMay_any A cap xs w (hv.on hO.below hO.below.size)) ?_))))
  cases h1 : rgMay (yU xs) with
  | true =>
    refine Zv Z5 (ZX (ZB (z7 (ZO (Zv (.int .i64 0) (zP (z8 ?_)))))))
    refine zL (yL (fun L f m => ∃ (i : Nat) (V : Option Addr) (U : Option Addr) (c : Nat) (d : Nat) (s : St) (os : List Blk) (j : Nat → Value), (i ≤ xs.length ∧ s = xQ ((yU xs).take i) ∧ SetO (.agg #[.slice V s.rel.length c, .slice U s.pre.length d]) s os) ∧ L = ⟨b3, #[.slice V s.rel.length c, .slice U s.pre.length d], 31⟩ :: ⟨b2, ZM, 31⟩ :: ⟨b1, #[.slice A xs.length cap], 25⟩ :: os ∧ f = xF j [(1, Zp b1 0), (2, Zp b2 0), (3, Zp b3 0), (4, .int .i64 (i : Int))] ∧ m = xs.length - i) (xs.length - 0) ⟨0, none, none, 0, 0, gH, [], _, ⟨Nat.zero_le _, rfl, SetO.none⟩, rfl, ZU, rfl⟩ ?_)
    rintro L f m ⟨i, V, U, c, d, s, os, j, hrel, rfl, rfl, rfl⟩
    have hil := hrel.1; have hsf : SF s 198 := hrel.2.1 ▸ orAll_le (rgMay.facts h1).1 i
    refine z7 (ZO (Zv (.int .i64 (i : Int)) (Zv (Zp b1 0) (Zl 2 ⟨b1, #[.slice A xs.length cap], 25⟩ (off := 0) (.slice A xs.length cap) (Zv (.int .i64 (xs.length : Int)) ?_)))))
    by_cases h2 : (i : Int) < (xs.length : Int)
    · have hi : i < xs.length := by omega
      obtain ⟨b, off, hA, hlt, hcell⟩ := hv.top (by omega)
      obtain ⟨x, hx⟩ : ∃ x, xs[i] = x := ⟨_, rfl⟩
      have hxm : x ∈ xs := hx ▸ List.getElem_mem hi
      have hxn := hv.m x hxm
      refine Zg h2 (ZY (ZB (z7 (zL (xO (⟨b2, ZM, 31⟩ :: (⟨b1, #[.slice A xs.length cap], 25⟩ :: (os))) (by kernel_rfl) (fun w hO => Own.sub [⟨b3, #[.slice V s.rel.length c, .slice U s.pre.length d], 31⟩] hO) (ZT 1 [⟨b3, #[.slice V s.rel.length c, .slice U s.pre.length d], 31⟩] _ (Zp b1 0) (zJ (zG (yA (zJ (zG zI))))) rfl (ZL 2 [⟨b3, #[.slice V s.rel.length c, .slice U s.pre.length d], 31⟩] _ 1 ⟨b1, #[.slice A xs.length cap], 25⟩ (off := 0) (.slice A xs.length cap) (zJ (zG (yA (zJ (zG zI))))) rfl rfl (ZT 3 [⟨b3, #[.slice V s.rel.length c, .slice U s.pre.length d], 31⟩] _ (.int .i64 (i : Int)) (zJ (zG (yA (zJ (zG zI))))) rfl ?_))))))))
      refine uK 4 [⟨b3, #[.slice V s.rel.length c, .slice U s.pre.length d], 31⟩] _ (Zp b (off + i * 1)) rfl (by kernel_rfl) (by kernel_rfl) (by kernel_rfl) (zJ (zG (yA (zJ (zG zI))))) (by kernel_rfl) (fun w _ => qJ (b := b) (off := off) (c := cap) (n := xs.length) (k := .i64) (j := (i : Int)) (e := 47) (sz := 1) rfl (by kernel_rfl) hA (by kernel_rfl) (by kernel_rfl) (by kernel_rfl) (by omega) (by omega) (by omega) w) (hJ 5 _ (a := ⟨b, off + i * 1, none⟩) (.slice x.A x.l.length x.cap) rfl (by kernel_rfl) (by kernel_rfl) (by kernel_rfl) (zJ (zG (yA (zJ (zG zI))))) (fun w hO => Own.sub [⟨b3, #[.slice V s.rel.length c, .slice U s.pre.length d], 31⟩] hO) (by kernel_rfl) rfl (by kernel_rfl) (fun w hO => y6 gS (fun j u h => (hO.below.cell (p := ⟨b, off + j, none⟩) hlt).trans (hcell j u h)) i 0 hi (by omega) _ (by rw [hx]; kernel_rfl)) (wS 0 6 (by kernel_rfl) ?_ ?_))
      · refine hs_val [⟨b3, #[.slice V s.rel.length c, .slice U s.pre.length d], 31⟩] _ (.agg #[.slice V s.rel.length c, .slice U s.pre.length d]) rfl (by kernel_rfl) (fun w hO => gL (a := ⟨b3, 0, none⟩) rfl (by kernel_rfl) (gP (off := 0) (cs := (⟨b3, #[.slice V s.rel.length c, .slice U s.pre.length d], 31⟩ : Blk).cs) (by kernel_rfl) (hO.held ⟨b3, #[.slice V s.rel.length c, .slice U s.pre.length d], 31⟩ (by simp)))) (Zz 6 (g6 _ (k := 50) (args := #[.slice x.A x.l.length x.cap]) (fun v' L' => ∃ ob', L' = ob' ++ ([⟨b3, #[.slice V s.rel.length c, .slice U s.pre.length d], 31⟩] ++ (⟨b2, ZM, 31⟩ :: (⟨b1, #[.slice A xs.length cap], 25⟩ :: (os)))) ∧ SetO v' (yF x.l) ob') rfl (by kernel_rfl) (fun _ => by kernel_rfl) (fun w hO => (rsalt_any x.A x.cap x.l w ((hv.each x hxm).on hO.below hO.below.size) hxn (hv.short x hxm)).mono fun e w' ⟨v', ob', k1, k2, k3⟩ => ⟨v', _, k1, ⟨ob', rfl, k2⟩, Own.joinN hO k3⟩) (fun v' L' ⟨ob', e, _⟩ w hO => by subst e; exact Own.sub [⟨b3, #[.slice V s.rel.length c, .slice U s.pre.length d], 31⟩] (Own.sub ob' hO)) (fun va L2 hv2 => ?_)))
        obtain ⟨oa, rfl, ha⟩ := hv2
        obtain ⟨V1, U1, c1, d1, rfl⟩ := ha.form
        refine vD (L' := (oa ++ ([⟨b3, #[.slice V s.rel.length c, .slice U s.pre.length d], 31⟩] : List Blk)) ++ (⟨b2, ZM, 31⟩ :: (⟨b1, #[.slice A xs.length cap], 25⟩ :: (os)))) (List.append_assoc _ _ _).symm (Zz 7 (g6 _ (k := 35) (args := #[.agg #[.slice V s.rel.length c, .slice U s.pre.length d], .agg #[.slice V1 ((yF x.l).rel.length) c1, .slice U1 ((yF x.l).pre.length) d1]]) (fun v' L' => ∃ ob', L' = ob' ++ ((oa ++ ([⟨b3, #[.slice V s.rel.length c, .slice U s.pre.length d], 31⟩] : List Blk)) ++ (⟨b2, ZM, 31⟩ :: (⟨b1, #[.slice A xs.length cap], 25⟩ :: (os)))) ∧ SetO v' (orT s (yF x.l)) ob') rfl (by kernel_rfl) (fun _ => by kernel_rfl) (fun w hO => (rsetOr_any V U V1 U1 c d c1 d1 s (yF x.l) w (SetO.inn hrel.2.2 hO (fun x hx => by simp [hx]) hsf (by decide)) (SetO.inn ha hO (fun x hx => by simp [hx]) ((u7 x.l).le (by omega : _ ≤ 100000)) (Nat.le_refl _))).mono fun e w' ⟨v', ob', k1, k2, k3⟩ => ⟨v', _, k1, ⟨ob', rfl, by rw [if_pos (by rw [hsf.may, (u7 x.l).may]; rfl)] at k2; exact k2⟩, Own.joinN hO k3⟩) (fun v' L' ⟨ob', e, _⟩ w hO => by subst e; exact Own.sub (oa ++ ([⟨b3, #[.slice V s.rel.length c, .slice U s.pre.length d], 31⟩] : List Blk)) (Own.sub ob' hO)) (fun vb L2 hv2 => ?_)))
        obtain ⟨ob, rfl, hb⟩ := hv2
        obtain ⟨V2, U2, c2, d2, rfl⟩ := hb.form
        refine vD (L' := (ob ++ (oa ++ ([⟨b3, #[.slice V s.rel.length c, .slice U s.pre.length d], 31⟩] : List Blk))) ++ (⟨b2, ZM, 31⟩ :: (⟨b1, #[.slice A xs.length cap], 25⟩ :: (os)))) (List.append_assoc _ _ _).symm (Zz 8 (mQ (E' := (⟨b3, #[.slice V s.rel.length c, .slice U s.pre.length d], 31⟩ :: (ob ++ (oa ++ ([] : List Blk))))) (by simpa [List.append_assoc] using (List.perm_middle (a := ⟨b3, #[.slice V s.rel.length c, .slice U s.pre.length d], 31⟩) (l₁ := (ob ++ (oa ++ ([] : List Blk)))) (l₂ := []))) (ZS (⟨b3, #[.slice V s.rel.length c, .slice U s.pre.length d], 31⟩ :: (ob ++ (oa ++ ([] : List Blk)))) _ 0 ⟨b3, #[.slice V s.rel.length c, .slice U s.pre.length d], 31⟩ (off := 0) (.agg #[.slice V2 ((orT s (yF x.l)).rel.length) c2, .slice U2 ((orT s (yF x.l)).pre.length) d2]) rfl rfl (ZZ (zQ (z8 (zA (Zv (.int .i64 (i : Int)) (Zu (k := .i64) (((i + 1 : Nat) : Int)) (IntWalk.i64_in _ (by omega)) (Zv (.int .i64 ((i + 1 : Nat) : Int)) (zP ?_)))))))))))
        exact xM (L' := ⟨b3, #[.slice V2 ((orT s (yF x.l)).rel.length) c2, .slice U2 ((orT s (yF x.l)).pre.length) d2], 31⟩ :: ⟨b2, ZM, 31⟩ :: ⟨b1, #[.slice A xs.length cap], 25⟩ :: ob) (fun w hO => own_sets hO) (zT (m' := xs.length - (i + 1)) (by omega) ⟨i + 1, V2, U2, c2, d2, _, ob, _, ⟨by omega, by rw [t6 (by rw [xK]; exact hi) (jD hi hx), ← hrel.2.1], hb⟩, rfl, ZU, rfl⟩)
      refine g6 _ (k := 50) (args := #[.slice x.A x.l.length x.cap]) (fun v' L' => ∃ ob', L' = ob' ++ ([⟨b3, #[.slice V s.rel.length c, .slice U s.pre.length d], 31⟩] ++ (⟨b2, ZM, 31⟩ :: (⟨b1, #[.slice A xs.length cap], 25⟩ :: (os)))) ∧ SetO v' (yF x.l) ob') rfl (by kernel_rfl) (fun _ => by kernel_rfl) (fun w hO => (rsalt_any x.A x.cap x.l w ((hv.each x hxm).on hO.below hO.below.size) hxn (hv.short x hxm)).mono fun e w' ⟨v', ob', k1, k2, k3⟩ => ⟨v', _, k1, ⟨ob', rfl, k2⟩, Own.joinN hO k3⟩) (fun v' L' ⟨ob', e, _⟩ w hO => by subst e; exact Own.sub [⟨b3, #[.slice V s.rel.length c, .slice U s.pre.length d], 31⟩] (Own.sub ob' hO)) (fun va L2 hv2 => ?_)
      obtain ⟨oa, rfl, ha⟩ := hv2
      obtain ⟨V1, U1, c1, d1, rfl⟩ := ha.form
      refine vD (L' := (oa ++ ([⟨b3, #[.slice V s.rel.length c, .slice U s.pre.length d], 31⟩] : List Blk)) ++ (⟨b2, ZM, 31⟩ :: (⟨b1, #[.slice A xs.length cap], 25⟩ :: (os)))) (List.append_assoc _ _ _).symm (Zz 0 (hs_val (oa ++ ([⟨b3, #[.slice V s.rel.length c, .slice U s.pre.length d], 31⟩] : List Blk)) _ (.agg #[.slice V s.rel.length c, .slice U s.pre.length d]) rfl (by kernel_rfl) (fun w hO => gL (a := ⟨b3, 0, none⟩) rfl (by kernel_rfl) (gP (off := 0) (cs := (⟨b3, #[.slice V s.rel.length c, .slice U s.pre.length d], 31⟩ : Blk).cs) (by kernel_rfl) (hO.held ⟨b3, #[.slice V s.rel.length c, .slice U s.pre.length d], 31⟩ (by simp)))) (Zz 7 (g6 _ (k := 35) (args := #[.agg #[.slice V s.rel.length c, .slice U s.pre.length d], .agg #[.slice V1 ((yF x.l).rel.length) c1, .slice U1 ((yF x.l).pre.length) d1]]) (fun v' L' => ∃ ob', L' = ob' ++ ((oa ++ ([⟨b3, #[.slice V s.rel.length c, .slice U s.pre.length d], 31⟩] : List Blk)) ++ (⟨b2, ZM, 31⟩ :: (⟨b1, #[.slice A xs.length cap], 25⟩ :: (os)))) ∧ SetO v' (orT s (yF x.l)) ob') rfl (by kernel_rfl) (fun _ => by kernel_rfl) (fun w hO => (rsetOr_any V U V1 U1 c d c1 d1 s (yF x.l) w (SetO.inn hrel.2.2 hO (fun x hx => by simp [hx]) hsf (by decide)) (SetO.inn ha hO (fun x hx => by simp [hx]) ((u7 x.l).le (by omega : _ ≤ 100000)) (Nat.le_refl _))).mono fun e w' ⟨v', ob', k1, k2, k3⟩ => ⟨v', _, k1, ⟨ob', rfl, by rw [if_pos (by rw [hsf.may, (u7 x.l).may]; rfl)] at k2; exact k2⟩, Own.joinN hO k3⟩) (fun v' L' ⟨ob', e, _⟩ w hO => by subst e; exact Own.sub (oa ++ ([⟨b3, #[.slice V s.rel.length c, .slice U s.pre.length d], 31⟩] : List Blk)) (Own.sub ob' hO)) (fun vb L2 hv2 => ?_)))))
      obtain ⟨ob, rfl, hb⟩ := hv2
      obtain ⟨V2, U2, c2, d2, rfl⟩ := hb.form
      refine vD (L' := (ob ++ (oa ++ ([⟨b3, #[.slice V s.rel.length c, .slice U s.pre.length d], 31⟩] : List Blk))) ++ (⟨b2, ZM, 31⟩ :: (⟨b1, #[.slice A xs.length cap], 25⟩ :: (os)))) (List.append_assoc _ _ _).symm (Zz 8 (mQ (E' := (⟨b3, #[.slice V s.rel.length c, .slice U s.pre.length d], 31⟩ :: (ob ++ (oa ++ ([] : List Blk))))) (by simpa [List.append_assoc] using (List.perm_middle (a := ⟨b3, #[.slice V s.rel.length c, .slice U s.pre.length d], 31⟩) (l₁ := (ob ++ (oa ++ ([] : List Blk)))) (l₂ := []))) (ZS (⟨b3, #[.slice V s.rel.length c, .slice U s.pre.length d], 31⟩ :: (ob ++ (oa ++ ([] : List Blk)))) _ 0 ⟨b3, #[.slice V s.rel.length c, .slice U s.pre.length d], 31⟩ (off := 0) (.agg #[.slice V2 ((orT s (yF x.l)).rel.length) c2, .slice U2 ((orT s (yF x.l)).pre.length) d2]) rfl rfl (ZZ (zQ (z8 (zA (Zv (.int .i64 (i : Int)) (Zu (k := .i64) (((i + 1 : Nat) : Int)) (IntWalk.i64_in _ (by omega)) (Zv (.int .i64 ((i + 1 : Nat) : Int)) (zP ?_)))))))))))
      exact xM (L' := ⟨b3, #[.slice V2 ((orT s (yF x.l)).rel.length) c2, .slice U2 ((orT s (yF x.l)).pre.length) d2], 31⟩ :: ⟨b2, ZM, 31⟩ :: ⟨b1, #[.slice A xs.length cap], 25⟩ :: ob) (fun w hO => own_sets hO) (zT (m' := xs.length - (i + 1)) (by omega) ⟨i + 1, V2, U2, c2, d2, _, ob, _, ⟨by omega, by rw [t6 (by rw [xK]; exact hi) (jD hi hx), ← hrel.2.1], hb⟩, rfl, ZU, rfl⟩)
    refine Zh h2 (ZX (y5 (zD (zN (zH (z8 (ZO (Zl 0 ⟨b3, #[.slice V s.rel.length c, .slice U s.pre.length d], 31⟩ (off := 0) (.agg #[.slice V s.rel.length c, .slice U s.pre.length d]) ?_))))))))
    exact Zs 1 ⟨b2, ZM, 31⟩ (off := 0) (.agg #[.slice V s.rel.length c, .slice U s.pre.length d]) (ZN (zB (ZC 1 ⟨b2, #[.slice V s.rel.length c, .slice U s.pre.length d], 31⟩ (off := 0) (.agg #[.slice V s.rel.length c, .slice U s.pre.length d]) Tryz.results24 (fun w hO => ⟨_, os, rfl, by unfold yT; rw [if_pos h1]; have q := hrel.2.1; rw [List.take_of_length_le (by rw [xK]; omega)] at q; rw [← q]; exact hrel.2.2, Own.sub [_, _, _] hO⟩))))
  | false =>
    refine Zv Z4 (ZY (ZO (Zl 0 ⟨b3, ZM, 31⟩ (off := 0) (.agg ZM) (Zs 1 ⟨b2, ZM, 31⟩ (off := 0) (.agg ZM) (ZN (zB (z6 ?_)))))))
    exact ZC 1 ⟨b2, ZM, 31⟩ (off := 0) (.agg ZM) Tryz.results24 (fun w hO => ⟨_, [], rfl, by unfold yT; rw [if_neg (by simp [h1])]; exact SetO.none, kF hO⟩)
theorem fine_get {s : List UInt8} (h : xP s = 0) : FineR ((yE s).getD []) := by
  cases hp : yE s with
  | none => rcases err_none hp with e | e <;> rw [e] at h <;> exact absurd h (by decide)
  | some r => exact fine_few (rgMay.facts (f9 hp).2.1).1
theorem get_err {s : List UInt8} (h : ¬ xP s = 0) : yT ((yE s).getD []) = gH := by
  cases hp : yE s with
  | none => rfl
  | some r => exact absurd (f9 hp).1 h
theorem rsParse_tup (s : List UInt8) (W : World) (hs : s.length ≤ 1000000) : Calls Tryz.prog 13 #[.string (mkS s)] W fun e w' => ∃ v' ob', e = .returned v' ∧ (∃ rv, v' = Value.tuple #[rv, .int .i64 (xP s)] ∧ RgO rv ((yE s).getD []) ob') ∧ Own [] W w' ob' :=
  (rsParse_any s W hs).mono fun e w' ⟨v', ob', k1, k2, k3⟩ => ⟨_, ob', k1, ⟨v', rfl, k2⟩, k3⟩
theorem rsOf_any (s : List UInt8) (W : World) (hs : s.length ≤ 1000000) : Calls Tryz.prog 15 #[.string (mkS s)] W fun e w' => ∃ v' ob', e = .returned (.tuple #[v', .int .i64 (xP s)]) ∧ SetO v' (yT ((yE s).getD [])) ob' ∧ Own [] W w' ob' := by
  refine Z2 (n := 17) Tryz.func15 rfl (ZO (Za (.agg ZM) (fun b1 => Zv (.int .i64 0) (ZR (Zv (.string (mkS s)) (Zr (k := 13) (args := #[.string (mkS s)]) (fun v' L' => ∃ ob', L' = ob' ++ ([⟨b1, ZM, 31⟩]) ∧ ∃ rv, v' = .tuple #[rv, .int .i64 (xP s)] ∧ RgO rv ((yE s).getD []) ob') (fun w hO => (rsParse_tup s w hs).mono fun e w' ⟨v', ob', k1, k2, k3⟩ => ⟨v', _, k1, ⟨ob', rfl, k2⟩, Own.joinN hO k3⟩) (fun vp Lx hvx => ?_)))))))
  obtain ⟨op, rfl, hp⟩ := hvx
  obtain ⟨rv, rfl, hp⟩ := hp
  obtain ⟨xs, u, o1, o2, rfl, rfl, hxs, hra⟩ := hp
  obtain ⟨A, cap, rfl⟩ := Sl.form hra.top
  refine gJ (L' := ⟨b1, ZM, 31⟩ :: ((o1 ++ o2))) (fun w hO => own_swap1 hO) (Zv (.tuple #[.agg #[.slice A xs.length cap], .int .i64 (xP s)]) (Zv (.agg #[.slice A xs.length cap]) (Zv (.int .i64 (xP s)) (Za (.agg #[.slice none 0 0]) (fun b2 => Zs 0 ⟨b2, #[.slice none 0 0], 25⟩ (off := 0) (.agg #[.slice A xs.length cap]) (Zv (.int .i64 (xP s)) (ZN (z7 (z7 (zA ?_))))))))))
  refine Zv (.int .i64 (xP s)) ?_
  by_cases h1 : (xP s : Int) = 0
  · refine Zn (p := (xP s : Int) = 0) true (decide_eq_true (h1)) (ZX (ZB (ZO (Zl 0 ⟨b2, #[.slice A xs.length cap], 25⟩ (off := 0) (.agg #[.slice A xs.length cap]) (Zr (k := 24) (args := #[.agg #[.slice A xs.length cap]]) (fun v' L' => ∃ ob', L' = ob' ++ (⟨b2, #[.slice A xs.length cap], 25⟩ :: (⟨b1, ZM, 31⟩ :: ((o1 ++ o2)))) ∧ SetO v' (yT (yU xs)) ob') (fun w hO => (rsSet_any A cap xs w (hra.inn rfl hO (fun x hx => by simp [hx]) (fun x hx => by simp [hx]) (by rw [hxs]; exact fine_get (by assumption)))).mono fun e w' ⟨v', ob', k1, k2, k3⟩ => ⟨v', _, k1, ⟨ob', rfl, k2⟩, Own.joinN hO k3⟩) (fun vs Lx hvx => ?_))))))
    obtain ⟨oS, rfl, hS⟩ := hvx
    obtain ⟨V1, U1, c1, d1, rfl⟩ := hS.form
    exact gJ (L' := ⟨b1, ZM, 31⟩ :: (oS)) (fun w hO => own_keep1 hO) (Zs 0 ⟨b1, ZM, 31⟩ (off := 0) (.agg #[.slice V1 ((yT (yU xs)).rel.length) c1, .slice U1 ((yT (yU xs)).pre.length) d1]) (Zv (.int .i64 0) (ZN (zB (ZD 0 ⟨b1, #[.slice V1 ((yT (yU xs)).rel.length) c1, .slice U1 ((yT (yU xs)).pre.length) d1], 31⟩ (off := 0) (.agg #[.slice V1 ((yT (yU xs)).rel.length) c1, .slice U1 ((yT (yU xs)).pre.length) d1]) (.int .i64 0) Tryz.results15 (fun w hO => ⟨_, oS, by rw [show xP s = 0 by assumption], by rw [← hxs]; exact hS, Own.sub [_] hO⟩))))))
  refine Zn (p := (xP s : Int) = 0) false (decide_eq_false (h1)) (ZY (ZO (Zc (k := 34) (args := #[]) (.agg ZM) (fun w _ => bD w) (Zv (.int .i64 (xP s)) (Zs 1 ⟨b1, ZM, 31⟩ (off := 0) (.agg ZM) (Zv (.int .i64 (xP s)) (zP (z8 ?_))))))))
  exact zB (z6 (ZD 1 ⟨b1, ZM, 31⟩ (off := 0) (.agg ZM) (.int .i64 (xP s)) Tryz.results15 (fun w hO => ⟨_, [], rfl, by rw [get_err (by assumption)]; exact SetO.none, kF hO⟩)))
end
section
def wideG : List UInt8 → List UInt8
  | [] => []
  | b :: t => (if b = 44 then [32] else []) ++ b :: ((if b = 44 ∨ (b = 124 ∧ t ≠ [] ∧ ¬ t.head? = some 124) then [32, 32] else []) ++ wideG t)
def wideA : List Co → List UInt8
  | [] => []
  | [c] => c.print
  | c :: d :: a => c.print ++ ([32, 44, 32, 32, 32] ++ wideA (d :: a))
def genA (l : List Int) (i a : Nat) : List Co := (List.range ((plc (atL l (i + 1 + a)) 3).toNat + 1)).map fun k => genCo l (i + 4 + 21 * a + 7 * k)
def genR0 (l : List Int) (i : Nat) : List (List Co) := (List.range ((plc (atL l i) 3).toNat + 1)).map fun a => genA l i a
def genRg (l : List Int) (i : Nat) : List (List Co) := if rgMay (genR0 l i) then genR0 l i else [[genCo l (i + 4)]]
end
section
instance : DecidableEq St := fun a b => decidable_of_iff (a.rel = b.rel ∧ a.pre = b.pre) ⟨fun h => St.eq h.1 h.2, fun h => by rw [h]; exact ⟨rfl, rfl⟩⟩
theorem same_g (a b : St) : (decide (a.rel = b.rel) && decide (a.pre = b.pre)) = decide (a = b) := by
  rw [← Bool.decide_and]; exact decide_eq_decide.2 ⟨fun h => St.eq h.1 h.2, fun h => by rw [h]; exact ⟨rfl, rfl⟩⟩
theorem op_ne_co {ρ : Operand → Value} {o : Oper} {t' : TypeId} {x y : Operand} {u v : Co} {b : Bool} (ho : o.op = .binOp .neq 51 x y t') (hx : ρ x = coV u) (hy : ρ y = coV v) (hb : decide (u = v) = b) (w : World) : (execOp ρ o).run Tryz.prog w = .ok (.value (.bool (!b))) w :=
  run_ne_op ho hx hy guard_co (fun w => hb ▸ eq_co u v 9997 w) w
theorem rg_take_eq {xs ys : List Al} (hl : xs.length = ys.length) {i : Nat} (hi : i < xs.length) {x y : Al} (hx : xs[i] = x) (hy : ys[i]'(by omega) = y) (h : (yU xs).take i = (yU ys).take i) (he : x.l = y.l) : (yU xs).take (i + 1) = (yU ys).take (i + 1) := by
  rw [List.take_succ_eq_append_getElem (by rw [xK]; exact hi), List.take_succ_eq_append_getElem (by rw [xK]; omega), h, jD hi hx, jD (by omega) hy, he]
theorem rg_end {xs ys : List Al} (hl : xs.length = ys.length) {i : Nat} (hi : ¬ i < xs.length) (h : (yU xs).take i = (yU ys).take i) : yU xs = yU ys := by
  rwa [List.take_of_length_le (by rw [xK]; omega), List.take_of_length_le (by rw [xK]; omega)] at h
theorem rg_differ {xs ys : List Al} (hl : xs.length = ys.length) {i : Nat} (hi : i < xs.length) {x y : Al} (hx : xs[i] = x) (hy : ys[i]'(by omega) = y) (h : ¬ x.l = y.l) : ¬ yU xs = yU ys := fun e => h (by
  rw [← jD hi hx, ← jD (by omega) hy]
  exact List.getElem_of_eq e _)
theorem co_take_eq {l m : List Co} (hl : l.length = m.length) {k : Nat} (hk : k < l.length) {c d : Co} (hc : l[k] = c) (hd : m[k]'(by omega) = d) (h : l.take k = m.take k) (he : c = d) : l.take (k + 1) = m.take (k + 1) := by
  rw [List.take_succ_eq_append_getElem hk, List.take_succ_eq_append_getElem (by omega), h, hc, hd, he]
theorem co_end {l m : List Co} (hl : l.length = m.length) {k : Nat} (hk : ¬ k < l.length) (h : l.take k = m.take k) : l = m := by
  rwa [List.take_of_length_le (by omega), List.take_of_length_le (by omega)] at h
theorem co_differ {l m : List Co} (hl : l.length = m.length) {k : Nat} (hk : k < l.length) {c d : Co} (hc : l[k] = c) (hd : m[k]'(by omega) = d) (h : ¬ c = d) : ¬ l = m := fun e => h (by
  rw [← hc, ← hd]
  exact List.getElem_of_eq e _)
theorem same7_any (A B : Option Addr) (cap capb : Nat) (xs ys : List Al) (W : World) (hv : RgIn W W.heap.size A xs) (hu : RgIn W W.heap.size B ys) : Calls Tryz.prog 16 #[.agg #[.slice A xs.length cap], .agg #[.slice B ys.length capb]] W fun e w' => e = .returned (.bool (decide (yU xs = yU ys))) ∧ Below W.heap.size W w' := by
  have hn := hv.n
  have hm := hu.n
  refine Z2 (n := 61) Tryz.func16 rfl (ZO (Zb (.agg #[.slice A xs.length cap]) (fun b1 => Zb (.agg #[.slice B ys.length capb]) (fun b2 => Zv Z5 (ZN (z7 (ZO (Zv (Zp b1 0) ?_))))))))
  refine Zl 1 ⟨b1, #[.slice A xs.length cap], 25⟩ (off := 0) (.slice A xs.length cap) (Zv (.int .i64 (xs.length : Int)) (Zv (Zp b2 0) (Zl 0 ⟨b2, #[.slice B ys.length capb], 25⟩ (off := 0) (.slice B ys.length capb) (Zv (.int .i64 (ys.length : Int)) ?_))))
  by_cases h1 : (xs.length : Int) = (ys.length : Int)
  · refine Zn (p := (xs.length : Int) = (ys.length : Int)) true (decide_eq_true (h1)) (ZX (ZB (z7 (ZO (Zv (.int .i64 0) (zP (z8 ?_)))))))
    refine zL (yL (fun L f m => ∃ (i : Nat) (j : Nat → Value), (i ≤ xs.length ∧ (yU xs).take i = (yU ys).take i) ∧ L = [⟨b2, #[.slice B ys.length capb], 25⟩, ⟨b1, #[.slice A xs.length cap], 25⟩] ∧ f = xF j [(2, Zp b1 0), (3, Zp b2 0), (5, .int .i64 (i : Int))] ∧ m = xs.length - i) (xs.length - 0) ⟨0, _, ⟨Nat.zero_le _, rfl⟩, rfl, ZU, rfl⟩ ?_)
    rintro L f m ⟨i, j, hrel, rfl, rfl, rfl⟩
    have hrel0 := hrel; have hil := hrel.1
    refine z7 (ZO (Zv (.int .i64 (i : Int)) (Zv (Zp b1 0) (Zl 1 ⟨b1, #[.slice A xs.length cap], 25⟩ (off := 0) (.slice A xs.length cap) (Zv (.int .i64 (xs.length : Int)) ?_)))))
    by_cases h2 : (i : Int) < (xs.length : Int)
    · have hi : i < xs.length := by omega
      have hiy : i < ys.length := by omega
      obtain ⟨ba, oa, hA, hlta, hcella⟩ := hv.top (by omega)
      obtain ⟨bb, ob, hB, hltb, hcellb⟩ := hu.top (by omega)
      obtain ⟨x, hx⟩ : ∃ x, xs[i] = x := ⟨_, rfl⟩
      obtain ⟨y, hy⟩ : ∃ y, ys[i] = y := ⟨_, rfl⟩
      have hxm : x ∈ xs := hx ▸ List.getElem_mem hi
      have hym : y ∈ ys := hy ▸ List.getElem_mem hiy
      have hxn := hv.m x hxm
      have hyn := hu.m y hym
      refine Zg h2 (ZY (ZB (z7 (zL (z7 (z7 (kM (by kernel_rfl) (by kernel_rfl) (Zw (Zp b1 0) ?_))))))))
      refine Zm 1 ⟨b1, #[.slice A xs.length cap], 25⟩ (off := 0) (.slice A xs.length cap) (Zw (.int .i64 (i : Int)) (xH (Zp ba (oa + i * 1)) (by kernel_rfl) (ZA (b := ba) (off := oa) (c := cap) (n := xs.length) (k := .i64) (j := (i : Int)) (e := 47) (sz := 1) hA) (wR (.slice x.A x.l.length x.cap) (a := ⟨ba, oa + i * 1, none⟩) (by kernel_rfl) rfl (by kernel_rfl) (fun w hO => y6 gS (fun j u h => (hO.below.cell (p := ⟨ba, oa + j, none⟩) hlta).trans (hcella j u h)) i 0 hi (by omega) _ (by rw [hx]; kernel_rfl)) (Zw (.int .i64 (x.l.length : Int)) (Zw (Zp b2 0) (Zm 0 ⟨b2, #[.slice B ys.length capb], 25⟩ (off := 0) (.slice B ys.length capb) (Zw (.int .i64 (i : Int)) (xH (Zp bb (ob + i * 1)) (by kernel_rfl) (ZA (b := bb) (off := ob) (c := capb) (n := ys.length) (k := .i64) (j := (i : Int)) (e := 47) (sz := 1) hB) (wR (.slice y.A y.l.length y.cap) (a := ⟨bb, ob + i * 1, none⟩) (by kernel_rfl) rfl (by kernel_rfl) (fun w hO => y6 gS (fun j u h => (hO.below.cell (p := ⟨bb, ob + j, none⟩) hltb).trans (hcellb j u h)) i 0 hiy (by omega) _ (by rw [hy]; kernel_rfl)) (Zw (.int .i64 (y.l.length : Int)) ?_))))))))))
      by_cases h3 : (x.l.length : Int) = (y.l.length : Int)
      · refine q_ndec (p := (x.l.length : Int) = (y.l.length : Int)) true (by kernel_rfl) (fun _ => by kernel_rfl) (decide_eq_true (h3)) (xU (z8 (Zf (ZB (ZO (Zv (.int .i64 0) (ZN (zL ?_))))))))
        refine yL (fun L f m => ∃ (k : Nat) (j : Nat → Value), (k ≤ x.l.length ∧ x.l.take k = y.l.take k) ∧ L = [⟨b2, #[.slice B ys.length capb], 25⟩, ⟨b1, #[.slice A xs.length cap], 25⟩] ∧ f = xF j [(2, Zp b1 0), (3, Zp b2 0), (5, .int .i64 (i : Int)), (6, .int .i64 (k : Int))] ∧ m = x.l.length - k) (x.l.length - 0) ⟨0, _, ⟨Nat.zero_le _, rfl⟩, rfl, ZU, rfl⟩ ?_
        rintro L f m ⟨k, j, hrel, rfl, rfl, rfl⟩
        have hkl := hrel.1
        refine z7 (ZO (Zv (.int .i64 (k : Int)) (Zv (Zp b1 0) (Zl 1 ⟨b1, #[.slice A xs.length cap], 25⟩ (off := 0) (.slice A xs.length cap) (Zv (.int .i64 (i : Int)) (zU (Zp ba (oa + i * 1)) (by kernel_rfl) (ZA (b := ba) (off := oa) (c := cap) (n := xs.length) (k := .i64) (j := (i : Int)) (e := 47) (sz := 1) hA) (Zo (.slice x.A x.l.length x.cap) (a := ⟨ba, oa + i * 1, none⟩) (fun w hO => y6 gS (fun j u h => (hO.below.cell (p := ⟨ba, oa + j, none⟩) hlta).trans (hcella j u h)) i 0 hi (by omega) _ (by rw [hx]; kernel_rfl)) (Zv (.int .i64 (x.l.length : Int)) ?_))))))))
        by_cases h4 : (k : Int) < (x.l.length : Int)
        · have hk : k < x.l.length := by omega
          have hky : k < y.l.length := by omega
          obtain ⟨bc, oc, hC, hltc, hcellc⟩ := hv.each x hxm (by omega)
          obtain ⟨bd, od, hD, hltd, hcelld⟩ := hu.each y hym (by omega)
          obtain ⟨c, hc⟩ : ∃ c, x.l[k] = c := ⟨_, rfl⟩
          obtain ⟨d, hd⟩ : ∃ d, y.l[k] = d := ⟨_, rfl⟩
          refine Zg h4 (ZY (ZB (z7 (zL (z7 (kM (by kernel_rfl) (by kernel_rfl) (Zw (Zp b1 0) (Zm 1 ⟨b1, #[.slice A xs.length cap], 25⟩ (off := 0) (.slice A xs.length cap) ?_))))))))
          refine Zw (.int .i64 (i : Int)) (xH (Zp ba (oa + i * 1)) (by kernel_rfl) (ZA (b := ba) (off := oa) (c := cap) (n := xs.length) (k := .i64) (j := (i : Int)) (e := 47) (sz := 1) hA) (wR (.slice x.A x.l.length x.cap) (a := ⟨ba, oa + i * 1, none⟩) (by kernel_rfl) rfl (by kernel_rfl) (fun w hO => y6 gS (fun j u h => (hO.below.cell (p := ⟨ba, oa + j, none⟩) hlta).trans (hcella j u h)) i 0 hi (by omega) _ (by rw [hx]; kernel_rfl)) (Zw (.int .i64 (k : Int)) (xH (Zp bc (oc + k * 7)) (by kernel_rfl) (ZA (b := bc) (off := oc) (c := x.cap) (n := x.l.length) (k := .i64) (j := (k : Int)) (e := 51) (sz := 7) hC) (wR (coV c) (a := ⟨bc, oc + k * 7, none⟩) (by kernel_rfl) rfl (by kernel_rfl) (fun w hO => y6 uM (fun j u h => (hO.below.cell (p := ⟨bc, oc + j, none⟩) hltc).trans (hcellc j u h)) k 0 hk (by omega) _ (by rw [hc]; kernel_rfl)) (Zw (Zp b2 0) (Zm 0 ⟨b2, #[.slice B ys.length capb], 25⟩ (off := 0) (.slice B ys.length capb) (Zw (.int .i64 (i : Int)) (xH (Zp bb (ob + i * 1)) (by kernel_rfl) (ZA (b := bb) (off := ob) (c := capb) (n := ys.length) (k := .i64) (j := (i : Int)) (e := 47) (sz := 1) hB) (wR (.slice y.A y.l.length y.cap) (a := ⟨bb, ob + i * 1, none⟩) (by kernel_rfl) rfl (by kernel_rfl) (fun w hO => y6 gS (fun j u h => (hO.below.cell (p := ⟨bb, ob + j, none⟩) hltb).trans (hcellb j u h)) i 0 hiy (by omega) _ (by rw [hy]; kernel_rfl)) (Zw (.int .i64 (k : Int)) ?_)))))))))))
          refine xH (Zp bd (od + k * 7)) (by kernel_rfl) (ZA (b := bd) (off := od) (c := y.cap) (n := y.l.length) (k := .i64) (j := (k : Int)) (e := 51) (sz := 7) hD) (wR (coV d) (a := ⟨bd, od + k * 7, none⟩) (by kernel_rfl) rfl (by kernel_rfl) (fun w hO => y6 uM (fun j u h => (hO.below.cell (p := ⟨bd, od + j, none⟩) hltd).trans (hcelld j u h)) k 0 hky (by omega) _ (by rw [hd]; kernel_rfl)) ?_)
          by_cases h5 : c = d
          · refine xH Z5 (by kernel_rfl) (op_ne_co (u := c) (v := d) rfl (by kernel_rfl) (by kernel_rfl) (decide_eq_true (h5))) (xU (z8 (Zf (yC (zQ (z8 (zA (Zv (.int .i64 (k : Int)) (Zu (k := .i64) (((k + 1 : Nat) : Int)) (IntWalk.i64_in _ (by omega)) (Zv (.int .i64 ((k + 1 : Nat) : Int)) (zP ?_)))))))))))
            exact zT (m' := x.l.length - (k + 1)) (by omega) ⟨k + 1, _, ⟨by omega, co_take_eq (by omega) hk hc hd hrel.2 (by assumption)⟩, rfl, ZU, rfl⟩
          refine xH Z4 (by kernel_rfl) (op_ne_co (u := c) (v := d) rfl (by kernel_rfl) (by kernel_rfl) (decide_eq_false (h5))) (xU (z8 (Zt (ZO (Zv Z5 (ZN (zB (zF (z6 ?_)))))))))
          exact zW (zF (zF (z6 (zW (zF (z6 (ZF Z5 Tryz.results16 (fun w hO => ⟨by rw [decide_eq_false (rg_differ (by omega) hi hx hy (co_differ (by omega) hk hc hd (by assumption)))], hO.below⟩))))))))
        refine Zh h4 (ZX (y5 (zD (zN (zH (zQ (z8 (zA (Zv (.int .i64 (i : Int)) ?_)))))))))
        exact Zu (k := .i64) (((i + 1 : Nat) : Int)) (IntWalk.i64_in _ (by omega)) (Zv (.int .i64 ((i + 1 : Nat) : Int)) (zP (zT (m' := xs.length - (i + 1)) (by omega) ⟨i + 1, _, ⟨by omega, rg_take_eq (by omega) hi hx hy hrel0.2 (co_end (by omega) (by omega) hrel.2)⟩, rfl, ZU, rfl⟩)))
      refine q_ndec (p := (x.l.length : Int) = (y.l.length : Int)) false (by kernel_rfl) (fun _ => by kernel_rfl) (decide_eq_false (h3)) (xU (z8 (Zt (ZO (Zv Z5 (ZN (zB (z6 (zF ?_)))))))))
      exact z6 (zW (zF (z6 (ZF Z5 Tryz.results16 (fun w hO => ⟨by rw [decide_eq_false (rg_differ (by omega) hi hx hy (fun q0 => by have := congrArg List.length q0; omega))], hO.below⟩)))))
    refine Zh h2 (ZX (y5 (zD (zN (zH (z8 (ZO (Zv Z4 ?_))))))))
    exact ZN (zB (ZF Z4 Tryz.results16 (fun w hO => ⟨by rw [decide_eq_true (rg_end (by omega) (by omega) hrel0.2)], hO.below⟩)))
  refine Zn (p := (xs.length : Int) = (ys.length : Int)) false (decide_eq_false (h1)) (ZY (ZO (Zv Z5 (ZN (zB (z6 (ZF Z5 Tryz.results16 ?_)))))))
  exact fun w hO => ⟨by rw [decide_eq_false (fun q0 => by have q1 := congrArg List.length q0; rw [xK, xK] at q1; omega)], hO.below⟩
end
section
theorem altsL_index : ∀ (s acc : List UInt8), kS acc s = if Lib.index s [124, 124] = -1 then [acc ++ s] else (acc ++ s.take (Lib.index s [124, 124]).toNat) :: kS [] (s.drop ((Lib.index s [124, 124]).toNat + 2))
  | [], acc => by simp [kS, Lib.index]
  | [c], acc => by simp [kS, Lib.index, List.isPrefixOf]
  | c :: d :: r, acc => by
    by_cases h : c = 124 ∧ d = 124
    · obtain ⟨rfl, rfl⟩ := h
      have e : Lib.index (124 :: 124 :: r) [124, 124] = 0 := by simp [Lib.index, List.isPrefixOf]
      rw [e, kS, if_pos ⟨rfl, rfl⟩, if_neg (by decide)]; simp
    · have hp : List.isPrefixOf ([124, 124] : List UInt8) (c :: d :: r) = false := by
        rw [List.isPrefixOf, List.isPrefixOf, List.isPrefixOf]
        by_cases hc : c = 124
        · have hd : ¬ d = 124 := fun q => h ⟨hc, q⟩
          have : ((124 : UInt8) == d) = false := beq_eq_false_iff_ne.2 (Ne.symm hd)
          simp [this]
        · have : ((124 : UInt8) == c) = false := beq_eq_false_iff_ne.2 (Ne.symm hc)
          simp [this]
      have ge := Lib.index_ge (d :: r) [124, 124]
      rw [kS, if_neg h, altsL_index (d :: r) (acc ++ [c])]
      have e : Lib.index (c :: d :: r) [124, 124] = if Lib.index (d :: r) [124, 124] = -1 then -1 else Lib.index (d :: r) [124, 124] + 1 := by
        conv => lhs; rw [Lib.index]
        rw [hp, if_neg (by decide)]
        simp
      rw [e]
      generalize Lib.index (d :: r) [124, 124] = n at ge
      by_cases hn : n = -1
      · subst hn; simp
      · rw [if_neg hn, if_neg hn, if_neg (by omega)]
        have e2 : (n + 1).toNat = n.toNat + 1 := by omega
        rw [e2, List.take_succ_cons, show n.toNat + 1 + 2 = (n.toNat + 2) + 1 from by omega, List.drop_succ_cons]
        simp
theorem splitK_from (sep : List UInt8) : ∀ (f : Nat) (s : List UInt8), s.length < f → Lib.splitK sep 0 (Lib.countFrom sep f s) s = if Lib.index s sep = -1 then [s] else s.take (Lib.index s sep).toNat :: Lib.splitK sep 0 (Lib.countFrom sep (f - 1) (s.drop ((Lib.index s sep).toNat + sep.length))) (s.drop ((Lib.index s sep).toNat + sep.length))
  | f + 1, s, h => by
    rw [Lib.countFrom]
    by_cases q : Lib.index s sep = -1
    · rw [if_pos (by simp [q]), if_pos q, Lib.splitK]
    · rw [if_neg (by simp [q]), if_neg q, Nat.add_comm 1, Lib.splitK, if_neg (by simp [q]), Nat.add_zero]; rfl
theorem alts_from : ∀ (f : Nat) (s : List UInt8), s.length < f → Lib.splitK [124, 124] 0 (Lib.countFrom [124, 124] f s) s = kS [] s
  | f + 1, s, h => by
    rw [splitK_from _ _ _ h, altsL_index s []]
    by_cases q : Lib.index s [124, 124] = -1
    · rw [if_pos q, if_pos q]; rfl
    · have hr := Lib.index_room s [124, 124] (by have := Lib.index_ge s [124, 124]; omega)
      rw [if_neg q, if_neg q]
      show _ :: Lib.splitK [124, 124] 0 (Lib.countFrom [124, 124] f _) _ = _
      rw [alts_from f _ (by rw [List.length_drop]; simp only [List.length_cons, List.length_nil]; simp only [List.length_cons, List.length_nil] at hr; have := Lib.index_ge s [124, 124]; omega)]
      rfl
theorem split_alts (s : List UInt8) : Lib.splitK [124, 124] 0 (Lib.count s [124, 124]) s = kS [] s := alts_from _ s (Nat.lt_succ_self _)
theorem cut_index (b : UInt8) (s : List UInt8) : x4 b [] s = if Lib.index s [b] = -1 then [s] else s.take (Lib.index s [b]).toNat :: x4 b [] (s.drop ((Lib.index s [b]).toNat + 1)) := by
  have hc := cutAt_cut b s
  have hge := Lib.index_ge s [b]
  rw [wJ, ← hc]
  unfold Lib.cut
  by_cases h : Lib.index s [b] = -1
  · have h2 : ¬ 0 ≤ Lib.index s [b] := by omega
    simp [h]
  · have h2 : 0 ≤ Lib.index s [b] := by omega
    simp [h, h2]
theorem cuts_from (b : UInt8) : ∀ (f : Nat) (s : List UInt8), s.length < f → Lib.splitK [b] 0 (Lib.countFrom [b] f s) s = x4 b [] s
  | f + 1, s, h => by
    rw [splitK_from _ _ _ h, cut_index b s]
    by_cases q : Lib.index s [b] = -1
    · rw [if_pos q, if_pos q]
    · have hr := Lib.index_room s [b] (by have := Lib.index_ge s [b]; omega)
      rw [if_neg q, if_neg q]
      show _ :: Lib.splitK [b] 0 (Lib.countFrom [b] f _) _ = _
      rw [cuts_from b f _ (by rw [List.length_drop]; simp only [List.length_cons, List.length_nil]; simp only [List.length_cons, List.length_nil] at hr; have := Lib.index_ge s [b]; omega)]
      rfl
theorem split_cuts (b : UInt8) (s : List UInt8) : Lib.splitK [b] 0 (Lib.count s [b]) s = x4 b [] s := cuts_from b _ s (Nat.lt_succ_self _)
theorem splitB_list (sep : List UInt8) (k : Nat) (s : List UInt8) : Lib.splitB (mkS sep) 0 k (mkS s) = (Lib.splitK sep 0 k s).map mkS := by
  have h := Lib.splitB_data (mkS sep) 0 k (mkS s)
  rw [mk_data, mk_data] at h
  rw [← h, List.map_map]
  refine ((List.map_congr_left fun x _ => ?_).trans (List.map_id _)).symm
  exact Lib.mk_data x
theorem splitB_alts (s : List UInt8) : Lib.splitB (mkS [124, 124]) 0 (Lib.countB (mkS s) (mkS [124, 124])) (mkS s) = (kS [] s).map mkS := by
  rw [splitB_list, show Lib.countB (mkS s) (mkS [124, 124]) = Lib.count s [124, 124] from by unfold Lib.countB; rw [mk_data, mk_data], split_alts]
theorem splitB_cuts (b : UInt8) (s : List UInt8) : Lib.splitB (mkS [b]) 0 (Lib.countB (mkS s) (mkS [b])) (mkS s) = (x4 b [] s).map mkS := by
  rw [splitB_list, show Lib.countB (mkS s) (mkS [b]) = Lib.count s [b] from by unfold Lib.countB; rw [mk_data, mk_data], split_cuts]
theorem tR : ∀ (s : List UInt8), Lib.trimLeftB s 32 = xI s
  | [] => rfl
  | c :: l => by
    unfold Lib.trimLeftB
    rw [xI, List.dropWhile_cons]
    by_cases h : c = 32
    · subst h
      rw [if_pos (by decide), if_pos rfl]; exact tR l
    · rw [if_neg (by simp [h]), if_neg h]
def bareR (s : List UInt8) : List UInt8 := (xI s.reverse).reverse
theorem bareF_snoc {c : UInt8} (h : c ≠ 32) : ∀ (x : List UInt8), xI (x ++ [c]) = xI x ++ [c]
  | [] => by
    show xI [c] = [c]
    rw [xI]; exact if_neg h
  | d :: x => by
    rw [List.cons_append, xI, xI]
    by_cases q : d = 32
    · rw [if_pos q, if_pos q, bareF_snoc h x]
    · rw [if_neg q, if_neg q]; rfl
theorem bareF_snoc32 : ∀ (x : List UInt8), xI (x ++ [32]) = if xI x = [] then [] else xI x ++ [32]
  | [] => by simp [xI]
  | d :: x => by
    rw [List.cons_append, xI, xI]
    by_cases q : d = 32
    · rw [if_pos q, if_pos q, bareF_snoc32 x]
    · rw [if_neg q, if_neg q, if_neg (by simp)]; rfl
theorem bare_swap : ∀ (s : List UInt8), xI (bareR s) = bareR (xI s)
  | [] => rfl
  | c :: l => by
    have ih := bare_swap l
    by_cases h : c = 32
    · subst h
      rw [show xI (32 :: l) = xI l from by rw [xI, if_pos rfl], ← ih]
      unfold bareR
      rw [List.reverse_cons, bareF_snoc32]
      by_cases q : xI l.reverse = []
      · rw [if_pos q, q]
      · rw [if_neg q, List.reverse_append]
        show xI (32 :: (xI l.reverse).reverse) = _
        rw [xI, if_pos rfl]
    · rw [show xI (c :: l) = c :: l from by rw [xI, if_neg h]]
      unfold bareR
      rw [List.reverse_cons, bareF_snoc h, List.reverse_append]
      show xI (c :: (xI l.reverse).reverse) = c :: (xI l.reverse).reverse
      rw [xI, if_neg h]
theorem trim_bare (s : List UInt8) : Lib.trimB s 32 = yS s := by
  unfold Lib.trimB Lib.trimRightB
  have e : ∀ l : List UInt8, l.dropWhile (· == 32) = xI l := tR
  rw [e, tR]
  exact bare_swap s
def bX (r : List (List Co)) : List UInt8 := if fewR r then kH r else []
theorem altText_ne {a : List Co} (h : fewA a = true) : xR a ≠ [] := by
  obtain ⟨h1, h2⟩ := fewA.facts h
  cases a with
  | nil => exact absurd h1.1 (by decide)
  | cons c l =>
    have hc : c.print ≠ [] := by
      rw [qW (h2 c (List.mem_cons_self ..))]
      exact text_ne (h2 c (List.mem_cons_self ..))
    unfold xR
    cases l with
    | nil => exact hc
    | cons d l => 
      rw [List.map_cons, List.map_cons, nM]
      intro e
      exact hc (List.append_eq_nil_iff.1 (List.append_eq_nil_iff.1 e).1).1
theorem rgText_ne {r : List (List Co)} (h : fewR r = true) : kH r ≠ [] := by
  obtain ⟨h1, h2⟩ := fewR.facts h
  cases r with
  | nil => exact absurd h1.1 (by decide)
  | cons a l =>
    have hc := altText_ne (h2 a (List.mem_cons_self ..))
    unfold kH
    cases l with
    | nil => exact hc
    | cons d l =>
      rw [List.map_cons, List.map_cons, nM]
      intro e
      exact hc (List.append_eq_nil_iff.1 (List.append_eq_nil_iff.1 e).1).1
theorem textR_nil {r : List (List Co)} : bX r = [] ↔ fewR r = false := by
  unfold bX
  cases h : fewR r with
  | false => simp
  | true => simp [rgText_ne h]
theorem print_text (r : List (List Co)) : fN r = if 96 < (bX r).length then [] else bX r := by
  unfold fN rgMay bX
  cases fewR r with
  | false => simp
  | true =>
    by_cases h : (kH r).length ≤ 96
    · simp [h, Nat.not_lt.2 h]
    · simp [h, Nat.lt_of_not_le h]
theorem print_nil (r : List (List Co)) : fN r = [] ↔ rgMay r = false := by
  unfold fN
  cases h : rgMay r with
  | false => simp
  | true => simp [rgText_ne (rgMay.facts h).1]
end
section
theorem grow_inner (B b n : Nat) (w : World) (hB : B ≤ b) (hbk : w.heap[b]? = some (.cells #[.pointer (some ⟨b, 0, none⟩), .slice none 0 0] 139 (0, 0))) (hBw : B ≤ w.heap.size) (hn : n ≤ 281474976710656) :
    Calls Tryz.prog 169 #[.pointer (some ⟨b, 0, none⟩), .int .i64 n] w fun e w' => e = .returned (.tuple #[]) ∧ (Lib.BuilderAt 139 5 B b (.pointer (some ⟨b, 0, none⟩)) [] w' ∧ Below B w w') := by
  obtain ⟨cs, hrun, hle, hmax⟩ := Lib.run_makeNoZero (P := Tryz.prog) w.drew #[3] 137 5 Tryz.underlying137 n hn
  have hlt : b < w.heap.size := by
    rcases Nat.lt_or_ge b w.heap.size with h | h
    · exact h
    · simp [Array.getElem?_eq_none h] at hbk
  have hw : IntKind.i64.wrap (IntKind.i64.wrap 0 + (n : Int)) = n := by
    rw [IntKind.wrap_i64, IntKind.wrap_i64]; omega
  have hcall : (callFunc 199 #[.int .i64 (IntKind.i64.wrap (IntKind.i64.wrap 0 + (n : Int)))]).run Tryz.prog w.drew = .ok (.value (.slice (some ⟨w.drew.heap.size, 0, none⟩) n cs.size)) (w.drew.drew.drew.alloc (.cells cs 5)) := by
    rw [hw, run_callFunc_extern Tryz.func199 (by kernel_rfl) (by kernel_rfl) (by kernel_rfl) (e := Extern.BytealgMakeNoZero.makeNoZero #[3] #[137]) (by kernel_rfl), hrun]
    rfl
  have c1 : w.drew.cell? ⟨b, 1, none⟩ = some (.slice none 0 0) := by
    have : w.drew.heap[b]? = _ := hbk
    rw [Lib.cell_of_heap this]; rfl
  have hb2 : (w.alloc (.cells cs 5)).heap[b]? = _ := (Lib.alloc_old w _ b hlt).trans hbk
  have c2 : (w.alloc (.cells cs 5)).cell? ⟨b, 1, none⟩ = some (.slice none 0 0) := by rw [Lib.cell_of_heap hb2]; rfl
  have f2 : (w.alloc (.cells cs 5)).frozen? ⟨b, 1, none⟩ = false := Lib.frozen_of_heap hb2 1
  have hcopy : ∀ W : World, (Builtin.copy_ #[137, 137] 3 #[.slice (some ⟨w.heap.size, 0, none⟩) 0 cs.size, .slice none 0 0]).run Tryz.prog W = .ok (goInt 0) W :=
    fun W => run_copy_none W 137 137 3 5 _ _ 0 cs.size 0 0 Tryz.underlying137 (by kernel_rfl) rfl
  clear hw hlt hb2
  have mixed : Tryz.prog.follows .mixedOrders = true := by kernel_rfl
  go_enter Tryz.func169, Tryz.ntmps169
  go_wp2
  have hfin := Lib.grown_fresh (T := 139) (e := 5) (cs := cs) hB hbk hBw (hmax (by unfold maxLen; omega)) (by decide)
  have hbel : Below B w ((w.alloc (.cells cs 5)).setCell ⟨b, 1, none⟩ (.slice (some ⟨w.heap.size, 0, none⟩) 0 cs.size)).drew.drew.drew := ((((Below.refl B w).alloc hBw _).setCell (p := ⟨b, 1, none⟩) hB _).drew).drew.drew
  go_region_o
  all_goals (go_wp2; go_end0; exact ⟨rfl, hfin.1, hbel⟩)
theorem grow_fresh (B b n : Nat) (w : World) (hB : B ≤ b) (hbk : w.heap[b]? = some (.cells #[.pointer none, .slice none 0 0] 139 (0, 0))) (hBw : B ≤ w.heap.size) (hn : n ≤ 281474976710656) :
    Calls Tryz.prog 120 #[.pointer (some ⟨b, 0, none⟩), .int .i64 n] w fun e w' => e = .returned (.tuple #[]) ∧ (Lib.BuilderAt 139 5 B b (.pointer (some ⟨b, 0, none⟩)) [] w' ∧ Below B w w') := by
  obtain ⟨w1, hw1⟩ : ∃ x, x = w.setCell ⟨b, 0, none⟩ (.pointer (some ⟨b, 0, none⟩)) := ⟨_, rfl⟩
  have hbk1 : w1.heap[b]? = some (.cells #[.pointer (some ⟨b, 0, none⟩), .slice none 0 0] 139 (0, 0)) := by
    rw [hw1]; simp [World.setCell, Array.getElem?_modify, hbk]
  have hs1 : B ≤ w1.heap.size := by rw [hw1]; simpa [World.setCell] using hBw
  have hb1 : Below B w w1 := by rw [hw1]; exact (Below.refl B w).setCell (p := ⟨b, 0, none⟩) hB _
  have hc : Calls Tryz.prog 168 #[.pointer (some ⟨b, 0, none⟩)] w fun e w' => e = .returned (.tuple #[]) ∧ w' = w1 := by
    rw [hw1]
    exact mF b w (by rw [Lib.cell_of_heap hbk]; rfl) (by simp [World.shape?, hbk]) (Lib.frozen_of_heap hbk 0)
  clear hw1
  have c1 : w1.cell? ⟨b, 1, none⟩ = some (.slice none 0 0) := by rw [Lib.cell_of_heap hbk1]; rfl
  have c1' : w1.drew.cell? ⟨b, 1, none⟩ = some (.slice none 0 0) := c1
  have hU : Lib.BuilderAt 139 5 B b (.pointer (some ⟨b, 0, none⟩)) [] w1 := ⟨hB, .slice none 0 0, hbk1, World.ownsRow_nil _ _ _ _, by simp [Value.ownBlock]⟩
  have mixed : Tryz.prog.follows .mixedOrders = true := by kernel_rfl
  go_enter Tryz.func120, Tryz.ntmps120
  go_wp2_with (go_at_call 168; refine hc.mono ?_; rintro e w' ⟨rfl, hw⟩; rw [hw])
  go_region_o
  all_goals go_wp2_with (go_at_call 169; refine (grow_inner B b n w1.drew hB hbk1 hs1 hn).mono ?_; rintro e w' ⟨rfl, h1, h2⟩)
  all_goals first
    | (go_end0; exact ⟨rfl, h1, hb1.drew.trans h2⟩)
    | (go_end0; exact ⟨rfl, hU.drew, hb1.drew⟩)
end
section
structure HasLib (w : World) : Prop where
  tab : HasTab w
  max : ∃ m, w.cell? ⟨0, 0, none⟩ = some (.int .i64 m)
theorem HasLib.on {w w' : World} (h : HasLib w) (hb : Below w.heap.size w w') : HasLib w' :=
  ⟨h.tab.on hb, let ⟨m, hm⟩ := h.max; ⟨m, (hb.cell (World.block_lt_of_cell? _ _ hm)).trans hm⟩⟩
theorem hasLib_of {W : World} (ht : HasTab W) (hS : W.ShapedOpen Tryz.prog) : HasLib W := ⟨ht, Tryz.laysM143.s1_3 W hS⟩
theorem split_own (s sep : List UInt8) (l : List (List UInt8)) (W : World) (h0 : 1 ≤ sep.length) (hs : s.length ≤ 1000000) (hl : Lib.splitB (mkS sep) 0 (Lib.countB (mkS s) (mkS sep)) (mkS s) = l.map mkS) (ht : HasLib W) :
    Calls Tryz.prog 36 #[.string (mkS s), .string (mkS sep)] W fun e w' => ∃ v' ob', e = .returned v' ∧ SlT v' l ob' ∧ Own [] W w' ob' := by
  obtain ⟨m, hm⟩ := ht.max
  have hz : (mkS sep).size = sep.length := yY sep
  have hlen := Lib.splitB_all (mkS sep) (by omega) 0 _ (mkS s) rfl
  have hle := Lib.countB_le (mkS sep) (by omega) (mkS s).size (mkS s) (Nat.le_refl _)
  rw [yY] at hle
  rw [hl, List.length_map] at hlen
  refine (Tryz.strings_Split (mkS s) (mkS sep) m W (by rw [yY]; omega) hm (by omega)).mono fun e w' ⟨he, hw⟩ => ?_
  subst hw
  rw [hl, List.map_map] at *
  rw [← hlen] at he
  refine ⟨_, _, he, slt_lit l W.heap.size _ (by unfold qN; rfl) (by unfold maxLen; omega), (Own.start [] W).alloc _ _⟩
theorem split_bars (s : List UInt8) (W : World) (hs : s.length ≤ 1000000) (ht : HasLib W) :
    Calls Tryz.prog 36 #[.string (mkS s), .string ⟨#[124, 124]⟩] W fun e w' => ∃ v' ob', e = .returned v' ∧ SlT v' (kS [] s) ob' ∧ Own [] W w' ob' :=
  split_own s [124, 124] (kS [] s) W (by decide) hs (splitB_alts s) ht
theorem split_comma (s : List UInt8) (W : World) (hs : s.length ≤ 1000000) (ht : HasLib W) :
    Calls Tryz.prog 36 #[.string (mkS s), .string ⟨#[44]⟩] W fun e w' => ∃ v' ob', e = .returned v' ∧ SlT v' (x4 44 [] s) ob' ∧ Own [] W w' ob' :=
  split_own s [44] (x4 44 [] s) W (by decide) hs (splitB_cuts 44 s) ht
theorem trim_any (s : List UInt8) (W : World) (hs : s.length ≤ 1000000) :
    Calls Tryz.prog 38 #[.string (mkS s), .string ⟨#[32]⟩] W fun e w' => e = .returned (.string (mkS (yS s))) ∧ Below W.heap.size W w' :=
  (Tryz.strings_Trim_one (mkS s) 32 (by decide) W (by rw [yY]; omega)).mono fun e w' ⟨he, hw⟩ =>
    ⟨by rw [he, mk_data, trim_bare]; rfl, hw.elim (fun q => q ▸ Below.refl _ _) (fun q => q ▸ (Below.refl _ _).drew)⟩
def jH (sep : List UInt8) : List (List UInt8) → List UInt8
  | [] => []
  | x :: r => sep ++ x ++ jH sep r
theorem joinB_T (sep : List UInt8) : ∀ (r : List (List UInt8)) (x : List UInt8), vQ sep (x :: r) = x ++ jH sep r
  | [], x => by simp [vQ, jH]
  | y :: r, x => by rw [nM, joinB_T sep r y, jH]; simp only [List.append_assoc]
theorem joinT_snoc (sep x : List UInt8) : ∀ (r : List (List UInt8)), jH sep (r ++ [x]) = jH sep r ++ (sep ++ x)
  | [] => by simp [jH]
  | y :: r => by rw [List.cons_append, jH, jH, joinT_snoc sep x r]; simp only [List.append_assoc]
theorem joinT_len {sep : List UInt8} (hs : sep.length ≤ 100) : ∀ {r : List (List UInt8)}, (∀ x ∈ r, x.length ≤ 1000000) → (jH sep r).length ≤ r.length * 1000100
  | [], _ => by simp [jH]
  | y :: r, h => by
    have h1 := joinT_len hs (r := r) fun x hx => h x (List.mem_cons_of_mem _ hx)
    have h2 := h y (List.mem_cons_self ..)
    rw [jH]; simp only [List.length_append, List.length_cons]; omega
theorem bc_two (x y z : List UInt8) : Lib.byteCells (x ++ (y ++ z)) = Lib.byteCells x ++ Lib.strCells (mkS y) ++ Lib.strCells (mkS z) := by
  rw [bZ, bZ, ← Lib.byteCells_append, ← Lib.byteCells_append, List.append_assoc]
theorem join_many (sep x0 : List UInt8) (r : List (List UInt8)) (b off cap : Nat) (w : World) (hc : ∀ j (h : j < (x0 :: r).length), w.cell? ⟨b, off + j, none⟩ = some (.string (mkS ((x0 :: r)[j]))))
    (hb : b < w.heap.size) (hr : 1 ≤ r.length) (hn : r.length ≤ 1000) (h0 : sep ≠ []) (hs : sep.length ≤ 100) (hx : ∀ x ∈ x0 :: r, x.length ≤ 1000000) (hcap : r.length + 1 ≤ cap) :
    Calls Tryz.prog 74 #[.slice (some ⟨b, off, none⟩) (r.length + 1) cap, .string (mkS sep)] w fun e w' => e = .returned (.string (mkS (vQ sep (x0 :: r)))) ∧ Below w.heap.size w w' := by
  have HT := Lib.hid (show ∀ k, (x0 ++ jH sep (r.take k)).length ≤ 2000000000 from fun k => by
    have h1 := joinT_len hs (r := r.take k) fun x hm => hx x (List.mem_cons_of_mem _ (List.mem_of_mem_take hm))
    have h2 := hx x0 (List.mem_cons_self ..)
    have h3 : (r.take k).length ≤ 1000 := Nat.le_trans (by rw [List.length_take]; exact Nat.min_le_right ..) hn
    rw [List.length_append]; omega)
  have HC := Lib.hid hc
  have HX := Lib.hid hx
  have HJ := Lib.hid (joinB_T sep r x0)
  have hx0 : (mkS x0).size ≤ 1000000 := by rw [yY]; exact hx x0 (List.mem_cons_self ..)
  obtain ⟨S, hS⟩ : ∃ q, q = mkS sep := ⟨_, rfl⟩
  have hSz : S.size = sep.length := by rw [hS, yY]
  have hS1 : 1 ≤ S.size := by cases sep with
    | nil => exact absurd rfl h0
    | cons _ _ => rw [hSz]; simp
  have hS9 : S.size ≤ 100 := by omega
  rw [← hS]
  have HS := Lib.hid hS
  obtain ⟨N, hN⟩ : ∃ q, q = r.length + 1 := ⟨_, rfl⟩
  rw [← hN] at hcap ⊢
  have hcast : ((N : Int) - 1) = (r.length : Int) := by omega
  have hmul : S.size * r.length ≤ 100000 := Nat.le_trans (Nat.mul_le_mul hS9 hn) (by decide)
  have hdv : ¬ (9223372036854775807 / ((N : Int) - 1) ≤ (S.size : Int)) := by
    rw [hcast]
    intro q
    have h1 : (9223372036854775807 : Int) < ((S.size : Int) + 1) * (r.length : Int) :=
      Int.lt_mul_of_ediv_lt (by omega) (Int.lt_add_one_of_le q)
    have h2 : ((S.size : Int) + 1) * (r.length : Int) = ((S.size * r.length + r.length : Nat) : Int) := by rw [Int.add_mul, Int.one_mul]; push_cast; rfl
    omega
  have hprod : wrap64 ((S.size : Int) * ((N : Int) - 1)) = ((S.size * r.length : Nat) : Int) := by
    rw [hcast, show (S.size : Int) * (r.length : Int) = ((S.size * r.length : Nat) : Int) from by push_cast; rfl]
    exact IntWalk.wrap64_in _ ⟨by omega, by omega⟩
  generalize S.size * r.length = M at hmul hprod
  have hne0 : ((N : Int) == 0) = false := beq_eq_false_iff_ne.2 (by omega)
  have hne1 : ((N : Int) == 1) = false := beq_eq_false_iff_ne.2 (by omega)
  have hN2 : 2 ≤ N := by omega
  have hN9 : N ≤ 1001 := by omega
  have HN := Lib.hid hN
  have H0 := Lib.hid h0
  clear hc hx hs h0 hS hSz hcast hN hr hn
  go_enter Tryz.func74, Tryz.ntmps74
  go_wp2
  go_loop [5, 41] (fun n i => ∃ (k t : Nat), k ≤ N ∧ i = .int .i64 k ∧ n = .int .i64 t ∧ t ≤ 100000 + k * 1000000) (fun _ i => N - (intOf i).toNat)
  case atStart => exact ⟨0, M, Nat.zero_le _, rfl, rfl, by omega⟩
  case round =>
    obtain ⟨k, t, hk, rfl, rfl, ht⟩ := hrel
    by_cases hkn : k < N
    · have hkl : k < (x0 :: r).length := by have := HN.out; rw [List.length_cons]; omega
      obtain ⟨y, hy⟩ : ∃ q, q = mkS ((x0 :: r)[k]) := ⟨_, rfl⟩
      have hyz : y.size ≤ 1000000 := by rw [hy, yY]; exact HX.out _ (List.getElem_mem hkl)
      have hck : w.cell? ⟨b, off + k, none⟩ = some (.string y) := by rw [hy]; exact HC.out k hkl
      clear hy hkl
      go_wp2
      exact ⟨⟨k + 1, t + y.size, by omega, by go_num, by go_num, by omega⟩, by simp [intOf]; omega⟩
    · obtain rfl : k = N := by omega
      go_wp2_with (go_at_call 120; refine (grow_fresh w.heap.size w.heap.size t _ (Nat.le_refl _) (heap_alloc_new w _) (by simp) (by omega)).mono ?_)
      rintro e w1 rfl h1 hb1
      have hb1' : Below w.heap.size w w1 := ((Below.refl w.heap.size w).alloc (Nat.le_refl _) _).trans hb1
      have hsz1 := hb1'.size
      have hc0 : w1.cell? ⟨b, off, none⟩ = some (.string (mkS x0)) := by
        rw [hb1'.cell (p := ⟨b, off, none⟩) hb]
        exact HC.out 0 (by simp)
      have H1 := Lib.hid (Or.inr h1 : Lib.IsBuilder 139 5 w.heap.size w.heap.size [] w1)
      have HB1 := Lib.hid hb1'
      clear h1 hb1 hb1' ht hprod hmul hdv hkn hk
      obtain ⟨X, hX⟩ : ∃ q, q = mkS x0 := ⟨_, rfl⟩
      rw [← hX] at hc0 hx0
      have HX0 := Lib.hid hX
      clear hX
      go_wp2_with (go_at_call 121; refine (vE w.heap.size w.heap.size [] X w1 H1.out ?_ hsz1).mono ?_)
      · simp; omega
      rintro e w2 ⟨rfl, h2, hb2⟩
      have H2 := Lib.hid (show Lib.IsBuilder 139 5 w.heap.size w.heap.size (Lib.byteCells (x0 ++ jH sep (r.take 0))) w2 from by
        rw [HX0.out, bZ, List.nil_append] at h2
        rw [List.take_zero, jH, List.append_nil]; exact Or.inr h2)
      have HB2 := Lib.hid (HB1.out.trans hb2)
      clear h2 hb2 hsz1 hc0
      have hrk : k - 1 = r.length := by have := HN.out; omega
      go_wp2
      go_loopw [65] (fun i wr => ∃ j : Nat, j ≤ r.length ∧ i = .int .i64 j ∧ Hid (Lib.IsBuilder 139 5 w.heap.size w.heap.size (Lib.byteCells (x0 ++ jH sep (r.take j))) wr) ∧ Hid (Below w.heap.size w wr)) (fun i _ => r.length - (intOf i).toNat)
      case atStart => exact ⟨0, Nat.zero_le _, rfl, H2, HB2⟩
      case round =>
        obtain ⟨j, hj, rfl, HB, HW⟩ := hrel
        have hsz := HW.out.size
        by_cases hjr : j < r.length
        · obtain ⟨y, hy⟩ : ∃ q, q = mkS r[j] := ⟨_, rfl⟩
          have hyz : y.size ≤ 1000000 := by rw [hy, yY]; exact HX.out _ (List.mem_cons_of_mem _ (List.getElem_mem hjr))
          have hck : wr.cell? ⟨b, off + 1 + j, none⟩ = some (.string y) := by
            rw [HW.out.cell (p := ⟨b, off + 1 + j, none⟩) hb, hy, show off + 1 + j = off + (j + 1) from by omega]
            exact HC.out (j + 1) (by simp; omega)
          have HY := Lib.hid hy
          have hlen : (Lib.byteCells (x0 ++ jH sep (r.take j))).length ≤ 2000000000 := by rw [Lib.byteCells_length]; exact HT.out j
          have HE := Lib.hid (show Lib.byteCells (x0 ++ jH sep (r.take j)) ++ Lib.strCells S ++ Lib.strCells y = Lib.byteCells (x0 ++ jH sep (r.take (j + 1))) from by
            rw [HS.out, HY.out, List.take_succ_eq_append_getElem hjr, joinT_snoc, ← List.append_assoc, bc_two])
          clear hy
          go_wp2_with (go_at_call 121; refine (vE w.heap.size w.heap.size _ S wr HB.out ?_ hsz).mono ?_)
          · omega
          rintro e w3 ⟨rfl, h3, hb3⟩
          have hsz3 := Nat.le_trans hsz hb3.size
          have H3 := Lib.hid h3
          have HB3 := Lib.hid hb3
          clear h3 hb3
          go_wp2_with (go_at_call 121; refine (vE w.heap.size w.heap.size _ y w3 (Or.inr H3.out) ?_ hsz3).mono ?_)
          · rw [List.length_append, Lib.strCells_length]; omega
          rintro e w4 ⟨rfl, h4, hb4⟩
          rw [HE.out] at h4
          have H4 := Lib.hid (Or.inr h4 : Lib.IsBuilder 139 5 w.heap.size w.heap.size (Lib.byteCells (x0 ++ jH sep (r.take (j + 1)))) w4)
          have HB4 := Lib.hid ((HW.out.trans HB3.out).trans hb4)
          clear h4 hb4
          go_wp2
          go_roundw
          case rel => exact ⟨j + 1, by omega, by go_num, H4, HB4⟩
          case measure => simp [intOf]; omega
        · obtain rfl : j = r.length := by omega
          have HB' := HB.out
          rw [List.take_length, ← HJ.out] at HB'
          have hne : vQ sep (x0 :: r) ≠ [] := by
            rw [HJ.out]
            cases r with
            | nil => simp at hrk; omega
            | cons y r => rw [jH]; intro q; exact H0.out (List.append_eq_nil_iff.1 (List.append_eq_nil_iff.1 (List.append_eq_nil_iff.1 q).2).1).1
          have HBF := Lib.hid HB'
          clear HB'
          go_wp2_with (go_at_call 122; refine (string_any w.heap.size w.heap.size _ _ HBF.out hne).mono ?_)
          rintro e w5 ⟨rfl, hb5⟩
          go_wp2
          go_ret
          exact ⟨rfl, HW.out.trans hb5⟩
theorem join_one (sep x : List UInt8) (A : Option Addr) (cap : Nat) (w : World) (hv : Reads wX w w.heap.size A [x]) (hcap : 1 ≤ cap) :
    Calls Tryz.prog 74 #[.slice A 1 cap, .string (mkS sep)] w fun e w' => e = .returned (.string (mkS x)) ∧ Below w.heap.size w w' := by
  obtain ⟨b, off, rfl, hb, hcell⟩ := hv (by simp)
  have hc : w.cell? ⟨b, off, none⟩ = some (.string (mkS x)) := hcell 0 _ rfl
  go_enter Tryz.func74, Tryz.ntmps74
  go_wp2
  go_ret
  exact ⟨rfl, Below.refl _ _⟩
theorem join_none (sep : List UInt8) (A : Option Addr) (cap : Nat) (w : World) :
    Calls Tryz.prog 74 #[.slice A 0 cap, .string (mkS sep)] w fun e w' => e = .returned (.string (mkS [])) ∧ Below w.heap.size w w' := by
  go_enter Tryz.func74, Tryz.ntmps74
  go_wp2
  go_ret
  exact ⟨rfl, Below.refl _ _⟩
theorem sjoin_any (sep : List UInt8) (l : List (List UInt8)) (A : Option Addr) (cap : Nat) (w : World) (hv : Reads wX w w.heap.size A l) (h0 : sep ≠ []) (hs : sep.length ≤ 100) (hn : l.length ≤ 1000) (hx : ∀ x ∈ l, x.length ≤ 1000000) (hcap : l.length ≤ cap) :
    Calls Tryz.prog 74 #[.slice A l.length cap, .string (mkS sep)] w fun e w' => e = .returned (.string (mkS (vQ sep l))) ∧ Below w.heap.size w w' := by
  match l, hv, hn, hx, hcap with
  | [], _, _, _, _ => exact join_none sep A cap w
  | [x], hv, _, _, hcap => exact join_one sep x A cap w hv hcap
  | x :: y :: r, hv, hn, hx, hcap =>
    obtain ⟨b, off, rfl, hb, hcell⟩ := hv (by simp)
    refine join_many sep x (y :: r) b off cap w (fun j hj => ?_) hb (by simp) (by simp at hn ⊢; omega) h0 hs hx hcap
    refine hcell j _ ?_
    rw [← bB]; unfold qN
    rw [List.getElem?_map, List.getElem?_eq_getElem hj]; rfl
theorem SlT.caps {A : Option Addr} {n cap : Nat} {l : List (List UInt8)} {ob : List Blk} (h : SlT (.slice A n cap) l ob) : n = l.length ∧ l.length ≤ cap := by
  rcases h.2 with ⟨h1, h2, _⟩ | ⟨g, c, cur, h1, _, h3, _⟩
  · injection h1 with q1 q2 q3
    exact ⟨by omega, by omega⟩
  · injection h1 with q1 q2 q3
    exact ⟨q2, by omega⟩
theorem SlT.add {u : Value} {l : List (List UInt8)} {x : List UInt8} {ob : List Blk} (h : Sl 9 1 u (l.length + 1) (qN l ++ wX x) ob) : SlT u (l ++ [x]) ob :=
  Sl.to h (by simp) (by unfold qN; rw [List.map_append]; rfl)
end
section
def wH : Nat → List UInt8 → List (List UInt8)
  | 0, s => [s]
  | k + 1, s => if (yH 46 s).2.2 then (yH 46 s).1 :: wH k (yH 46 s).2.1 else [s]
theorem pcsK_len : ∀ (k : Nat) (s : List UInt8), 1 ≤ (wH k s).length ∧ (wH k s).length ≤ k + 1
  | 0, s => ⟨Nat.le_refl _, Nat.le_refl _⟩
  | k + 1, s => by
    have h := pcsK_len k (yH 46 s).2.1
    unfold wH
    split
    · simp only [List.length_cons]; omega
    · simp only [List.length_cons, List.length_nil]; omega
theorem pcsK_mem : ∀ (k : Nat) (s : List UInt8), ∀ x ∈ wH k s, x.length ≤ s.length
  | 0, s, x, hx => by rw [List.mem_singleton.1 hx]; exact Nat.le_refl _
  | k + 1, s, x, hx => by
    unfold wH at hx
    have hl := cutAt_le 46 s
    split at hx
    · rcases List.mem_cons.1 hx with e | hx
      · rw [e]; omega
      · have := pcsK_mem k (yH 46 s).2.1 x hx; omega
    · rw [List.mem_singleton.1 hx]; exact Nat.le_refl _
theorem pcsK_join : ∀ (k : Nat) (l : List (List UInt8)), l ≠ [] → l.length ≤ k + 1 → (∀ x ∈ l, (46 : UInt8) ∉ x) → wH k (yG 46 l) = l
  | _, [], h, _, _ => absurd rfl h
  | 0, [x], _, _, _ => rfl
  | k + 1, [x], _, _, h => by
    unfold wH
    show (if (yH 46 x).2.2 = true then _ else _) = _
    rw [uY 46 x (h x (List.mem_singleton.2 rfl))]
    exact if_neg Bool.false_ne_true
  | 0, x :: y :: r, _, hl, _ => by simp at hl
  | k + 1, x :: y :: r, _, hl, h => by
    have ih := pcsK_join k (y :: r) (by simp) (by simpa using hl) fun z hz => h z (List.mem_cons_of_mem _ hz)
    unfold wH
    rw [yG, nU 46 _ _ (h x (List.mem_cons_self ..)), if_pos rfl]
    dsimp only
    rw [ih]
def sgo (s : List UInt8) : Nat → Int × List UInt8
  | 0 => (7, s)
  | k + 1 => if zY s (zO ((k + 1 : Nat) : Int)) = true ∧ (s.drop (zO ((k + 1 : Nat) : Int)).length).length < (sgo s k).2.length then (((k + 1 : Nat) : Int), s.drop (zO ((k + 1 : Nat) : Int)).length) else sgo s k
theorem sgo_le (s : List UInt8) : ∀ k, (sgo s k).2.length ≤ s.length
  | 0 => Nat.le_refl _
  | k + 1 => by
    unfold sgo
    split
    · show (s.drop _).length ≤ _; rw [List.length_drop]; omega
    · exact sgo_le s k
def wB (s : List UInt8) : List (List UInt8) := wH 2 (yH 45 (sgo s 8).2).1
def starP (s : List UInt8) : Bool := decide ((wB s).getLast? = some [42])
def jC (s : List UInt8) : Co := ⟨if starP s then 9 else (sgo s 8).1, if starP s then ((wB s).length : Int) - 1 else ((wB s).length : Int), ⟨zS (tg (wB s) 0), zS (tg (wB s) 1), zS (tg (wB s) 2), (yH 45 (sgo s 8).2).2.1, []⟩⟩
theorem nob {d a : UInt8} {r t : List UInt8} (h : d ≠ a) : ¬ (zY (d :: r) (a :: t) = true) := by rw [v8 h]; decide
theorem sgo_plain {d : UInt8} {r : List UInt8} (h : kV d.toNat = true ∨ d = 42) : sgo (d :: r) 8 = (7, d :: r) := by
  have hd : ∀ a : UInt8, kV a.toNat = false → a ≠ 42 → d ≠ a := fun a ha h42 e => by
    subst e
    rcases h with h | h
    · rw [ha] at h; cases h
    · exact h42 h
  have hb : ∀ k : Nat, 1 ≤ k → k ≤ 8 → ¬ (zY (d :: r) (zO (k : Int)) = true) := fun k h1 h8 => by
    have hk : k = 1 ∨ k = 2 ∨ k = 3 ∨ k = 4 ∨ k = 5 ∨ k = 6 ∨ k = 7 ∨ k = 8 := by omega
    rcases hk with rfl | rfl | rfl | rfl | rfl | rfl | rfl | rfl
    · exact nob (hd 61 (by decide) (by decide))
    · exact nob (hd 33 (by decide) (by decide))
    · exact nob (hd 60 (by decide) (by decide))
    · exact nob (hd 60 (by decide) (by decide))
    · exact nob (hd 62 (by decide) (by decide))
    · exact nob (hd 62 (by decide) (by decide))
    · exact nob (hd 94 (by decide) (by decide))
    · exact nob (hd 126 (by decide) (by decide))
  have : ∀ k : Nat, k ≤ 8 → sgo (d :: r) k = (7, d :: r) := fun k => by
    induction k with
    | zero => intro _; rfl
    | succ k ih =>
      intro h8
      unfold sgo
      rw [if_neg (fun q => hb (k + 1) (by omega) h8 q.1)]
      exact ih (by omega)
  exact this 8 (by decide)
theorem sgo_sign {op : Int} (h1 : 1 ≤ op) (h8 : op ≤ 8) {d : UInt8} {r : List UInt8} (hd : kV d.toNat = true) : sgo (zO op ++ d :: r) 8 = (op, d :: r) := by
  have h61 : d ≠ 61 := fun e => by subst e; revert hd; decide
  have hop : op = 1 ∨ op = 2 ∨ op = 3 ∨ op = 4 ∨ op = 5 ∨ op = 6 ∨ op = 7 ∨ op = 8 := by omega
  rcases hop with rfl | rfl | rfl | rfl | rfl | rfl | rfl | rfl <;> simp [zO, sgo, zY, h61]
theorem numD_star : zS [42] = 0 := by decide
theorem tg_star {v : Ver} (hv : v.may = true) {n : Nat} (h : n ≤ 2) (h0 : 0 < n ∨ v.maj = 0) (h1 : 1 < n ∨ v.min = 0) (h2 : 2 < n ∨ v.pat = 0) : zS (tg (yK v n ++ [[42]]) 0) = v.maj ∧ zS (tg (yK v n ++ [[42]]) 1) = v.min ∧ zS (tg (yK v n ++ [[42]]) 2) = v.pat := by
  obtain ⟨m1, m2, m3⟩ := vV hv
  have e1 := dZ m1
  have e2 := dZ m2
  match n, h with
  | 0, _ => exact ⟨numD_star.trans (h0.resolve_left (by decide)).symm, (h1.resolve_left (by decide)).symm, (h2.resolve_left (by decide)).symm⟩
  | 1, _ => exact ⟨e1, numD_star.trans (h1.resolve_left (by decide)).symm, (h2.resolve_left (by decide)).symm⟩
  | 2, _ => exact ⟨e1, e2, numD_star.trans (h2.resolve_left (by decide)).symm⟩
theorem rest_pieces {c : Co} (h : c.may = true) : wH 2 (yH 45 c.rest).1 = (if c.op = 9 then yK c.v c.parts.toNat ++ [[42]] else yK c.v c.parts.toNat) ∧ (yH 45 c.rest).2.1 = c.v.pre := by
  obtain ⟨_, hv, hb, h9, hn, hp, k0, k1, k2⟩ := Co.facts h
  unfold Co.rest
  by_cases e : c.op = 9
  · rw [if_pos e, if_pos e]
    have f : ∀ b : UInt8, kV b.toNat = false → b ≠ 42 → ∀ x ∈ yK c.v c.parts.toNat ++ [[42]], b ∉ x := fun b hb hb2 x hx => by
      rcases List.mem_append.1 hx with hx | hx
      · exact jX hv b hb x hx
      · rw [List.mem_singleton.1 hx]
        intro hm
        exact hb2 (List.mem_singleton.1 hm)
    rw [uY 45 _ (bF 45 (by decide) _ (f 45 (by decide) (by decide)))]
    have hq := h9 e
    have hpre : c.v.pre = [] := hp.resolve_left (by omega)
    refine ⟨?_, hpre.symm⟩
    refine pcsK_join 2 _ (by simp) ?_ (f 46 (by decide) (by decide))
    rw [List.length_append, vK c.v (by omega)]
    simp only [List.length_cons, List.length_nil]; omega
  · rw [if_neg e, if_neg e]
    have hq := hn e
    have hlen := vK c.v (n := c.parts.toNat) (by omega)
    have hne : yK c.v c.parts.toNat ≠ [] := fun h0 => by
      rw [h0] at hlen
      simp at hlen; omega
    rw [cut_tail 45 _ _ (bF 45 (by decide) _ (jX hv 45 (by decide)))]
    exact ⟨pcsK_join 2 _ hne (by omega) (jX hv 46 (by decide)), rfl⟩
theorem nums_last {c : Co} (h : c.may = true) (hn : ¬ c.op = 9) : ¬ (yK c.v c.parts.toNat).getLast? = some [42] := fun hl => by
  have hv := (Co.facts h).2.1
  have := jX hv 42 (by decide) _ (List.mem_of_getLast? hl)
  exact this (List.mem_singleton.2 rfl)
theorem guess_of {c : Co} {s : List UInt8} (h : c.may = true) (hs : (sgo s 8).2 = c.rest) (ho : c.op = 9 ∨ (sgo s 8).1 = c.op) : jC s = c := by
  obtain ⟨_, hv, hb, h9, hn, hp, k0, k1, k2⟩ := Co.facts h
  obtain ⟨p1, p2⟩ := rest_pieces h
  have hpc : wB s = if c.op = 9 then yK c.v c.parts.toNat ++ [[42]] else yK c.v c.parts.toNat := by unfold wB; rw [hs]; exact p1
  unfold jC
  rw [hs, p2]
  by_cases e : c.op = 9
  · have hq := h9 e
    rw [if_pos e] at hpc
    have hst : starP s = true := by unfold starP; rw [hpc, List.getLast?_concat]; exact decide_eq_true rfl
    obtain ⟨e1, e2, e3⟩ := tg_star hv (n := c.parts.toNat) (by omega) (by omega) (by omega) (by omega)
    rw [hst, hpc, if_pos rfl, if_pos rfl, e1, e2, e3, List.length_append, vK c.v (by omega), List.length_singleton]
    obtain ⟨op, parts, a, b, d, q, r⟩ := c
    simp only at hb e hq ⊢
    rw [hb, e]
    congr 1
    omega
  · have hq := hn e
    rw [if_neg e] at hpc
    have hst : starP s = false := by unfold starP; rw [hpc]; exact decide_eq_false (nums_last h e)
    obtain ⟨e1, e2, e3⟩ := nums_back hv (n := c.parts.toNat) (by omega) (by omega) (by omega) (by omega)
    rw [hst, hpc, if_neg (by decide), if_neg (by decide), e1, e2, e3, vK c.v (by omega), ho.resolve_left e]
    obtain ⟨op, parts, a, b, d, q, r⟩ := c
    simp only at hb hq ⊢
    rw [hb]
    congr 1
    omega
theorem guess_co {c : Co} {s : List UInt8} (h : c.may = true) (hs : c.text = s ∨ c.text = 94 :: s) : jC s = c := by
  obtain ⟨ho, _⟩ := Co.facts h
  by_cases hn : c.op = 9
  · obtain ⟨d, r, e, hd⟩ := n8 h hn
    have ht : c.text = d :: r := by unfold Co.text; rw [hn, show zO 9 = [] from rfl, List.nil_append, e]
    rcases hs with hs | hs
    · rw [ht] at hs
      rw [← hs]
      exact guess_of h (by rw [sgo_plain hd, e]) (.inl hn)
    · rw [ht] at hs
      injection hs with e1 _
      rw [e1] at hd
      exact absurd hd (by decide)
  · obtain ⟨d, r, e, hd⟩ := dX h hn
    have ht : c.text = zO c.op ++ d :: r := by unfold Co.text; rw [e]
    have hs8 := sgo_sign ho.1 (by omega) (r := r) hd
    rcases hs with hs | hs
    · rw [ht] at hs
      rw [← hs]
      exact guess_of h (by rw [hs8, e]) (.inr (by rw [hs8]))
    · rw [ht] at hs
      have hop : c.op = 1 ∨ c.op = 2 ∨ c.op = 3 ∨ c.op = 4 ∨ c.op = 5 ∨ c.op = 6 ∨ c.op = 7 ∨ c.op = 8 := by omega
      have h7 : c.op = 7 := by rcases hop with e2 | e2 | e2 | e2 | e2 | e2 | e2 | e2 <;> rw [e2] at hs <;> first | exact e2 | simp [zO] at hs
      rw [h7] at hs
      have hs2 : d :: r = s := by injection hs
      rw [← hs2]
      exact guess_of h (by rw [sgo_plain (.inl hd), e]) (.inr (by rw [sgo_plain (.inl hd), h7]))
theorem guess_nil : jC [] = ⟨7, 1, ⟨0, 0, 0, [], []⟩⟩ := by decide
theorem fits_may {s : List UInt8} (h : (jC s).print = s ∨ (jC s).print = 94 :: s) : (jC s).may = true := by
  refine print_may fun e => ?_
  rw [e] at h
  rcases h with h | h
  · subst h
    revert e
    rw [guess_nil]
    decide +kernel
  · cases h
theorem prog_some {s : List UInt8} (h : (jC s).print = s ∨ (jC s).print = 94 :: s) : gV s = some (jC s) := by
  have hm := fits_may h
  rw [qW hm] at h
  exact (fT s _).2 ⟨hm, h⟩
theorem prog_none {s : List UInt8} (h : ¬ ((jC s).print = s ∨ (jC s).print = 94 :: s)) : gV s = none := by
  cases hp : gV s with
  | none => rfl
  | some c =>
    obtain ⟨hm, ht⟩ := (fT s c).1 hp
    have hg := guess_co hm ht
    rw [hg, qW hm] at h
    exact absurd ht h
theorem may_core6 {c : Co} (h : c.may = true) : y7 c.v = c.v := by
  obtain ⟨_, _, hb, _⟩ := Co.facts h
  obtain ⟨op, parts, a, b, d, q, r⟩ := c
  simp only at hb ⊢
  rw [hb]; rfl
theorem low6 {c : Co} (h : c.may = true) : c.low = ⟨0, c.v, false⟩ := by unfold Co.low; rw [may_core6 h]
def gF (c : Co) : Cu := if c.parts = 3 then ⟨0, c.v, true⟩ else if c.parts = 0 then zX 1 else kI c.v (c.parts - 1).toNat
theorem beh_aft {c : Co} (h : c.may = true) (h0 : ¬ c.parts = 0) : gF c = c.aft := by
  obtain ⟨_, _, _, h9, hn, _⟩ := Co.facts h
  have hp : 0 ≤ c.parts ∧ c.parts ≤ 3 := by
    by_cases e : c.op = 9
    · have := h9 e; omega
    · have := hn e; omega
  unfold gF Co.aft
  by_cases h3 : c.parts = 3
  · rw [if_pos h3, if_neg (by omega), may_core6 h]
  · rw [if_neg h3, if_neg h0, if_pos (by omega)]
def vX (c : Co) : Int := if ¬ c.v.maj = 0 then 0 else if ¬ c.v.min = 0 then 1 else if ¬ c.v.pat = 0 then 2 else c.parts - 1
theorem lead_turns {c : Co} (h : c.may = true) (h7 : ¬ c.op = 9) : vX c = (gI c : Int) := by
  obtain ⟨_, hv, _, _, hn, _, k0, k1, k2⟩ := Co.facts h
  have hq := hn h7
  obtain ⟨m1, m2, m3⟩ := wC hv
  unfold vX gI
  repeat' split
  all_goals omega
theorem span_parts {c : Co} (h : c.may = true) (e : c.op = 1 ∨ c.op = 2) : ¬ c.parts = 0 := by
  obtain ⟨_, _, _, _, hn, _⟩ := Co.facts h
  have := hn (by omega); omega
def qX (c : Co) : Cu × Cu :=
  if c.op = 3 then (zX (-1), ⟨0, c.v, false⟩) else if c.op = 4 then (zX (-1), gF c) else if c.op = 5 then (gF c, zX 1) else if c.op = 6 then (⟨0, c.v, false⟩, zX 1)
  else if c.op = 7 then (⟨0, c.v, false⟩, kI c.v (vX c).toNat) else if c.op = 8 then (⟨0, c.v, false⟩, kI c.v (min (c.parts - 1) 1).toNat) else if c.parts = 0 then (zX (-1), zX 1) else (⟨0, c.v, false⟩, gF c)
theorem bound_span {c : Co} (h : c.may = true) : qX c = c.span := by
  obtain ⟨ho, _, _, h9, hn, _⟩ := Co.facts h
  have e0 : ¬ c.op = 9 → gF c = c.aft := fun e => beh_aft h (by have := hn e; omega)
  have el := low6 h
  have hop : c.op = 1 ∨ c.op = 2 ∨ c.op = 3 ∨ c.op = 4 ∨ c.op = 5 ∨ c.op = 6 ∨ c.op = 7 ∨ c.op = 8 ∨ c.op = 9 := by omega
  unfold qX Co.span
  rcases hop with e | e | e | e | e | e | e | e | e
  · have := hn (by omega); simp [e, el, e0 (by omega), show ¬ c.parts = 0 by omega]
  · have := hn (by omega); simp [e, el, e0 (by omega), show ¬ c.parts = 0 by omega]
  · simp [e, el]
  · simp [e, e0 (by omega)]
  · simp [e, e0 (by omega)]
  · simp [e, el]
  · have := lead_turns h (by omega); simp [e, el, this]
  · simp [e, el]
  · have hq := h9 e
    by_cases h0 : c.parts = 0
    · simp [e, h0]
    · have hb : gF c = kI c.v (c.parts - 1).toNat := by unfold gF; rw [if_neg (by omega), if_neg h0]
      simp [e, h0, el, hb]
end
section
def jE (v : Ver) : Array Value := #[.int .i64 v.maj, .int .i64 v.min, .int .i64 v.pat]
theorem rd_nums (v : Ver) : ∀ (k : Nat), k < 3 → g8 Tryz.prog 3 (jE v) k = some (.int .i64 (kA v.maj v.min v.pat k))
  | 0, _ => by kernel_rfl
  | 1, _ => by kernel_rfl
  | 2, _ => by kernel_rfl
theorem zero3 {v : Ver} (h : ∀ j, j < 3 → kA v.maj v.min v.pat j = 0) : v.maj = 0 ∧ v.min = 0 ∧ v.pat = 0 := ⟨h 0 (by decide), h 1 (by decide), h 2 (by decide)⟩
theorem may_rest {c : Co} (h : c.may = true) : ∀ j, c.parts.toNat ≤ j → j < 3 → kA c.v.maj c.v.min c.v.pat j = 0 := fun j h1 h3 => by
  obtain ⟨_, _, _, h9, hn, _, k0, k1, k2⟩ := Co.facts h
  have hj : j = 0 ∨ j = 1 ∨ j = 2 := by omega
  rcases hj with rfl | rfl | rfl
  · show c.v.maj = 0; omega
  · show c.v.min = 0; omega
  · show c.v.pat = 0; omega
theorem may_bad {c : Co} {k : Nat} (hk : c.parts.toNat + k < 3) (hn : ¬ kA c.v.maj c.v.min c.v.pat (c.parts.toNat + k) = 0) : c.may = false := by
  cases hm : c.may with
  | false => rfl
  | true => exact absurd (may_rest hm _ (Nat.le_add_right _ _) hk) hn
theorem dH {c : Co} (h1 : 1 ≤ c.op ∧ c.op ≤ 9) (h9 : c.op = 9 → 0 ≤ c.parts ∧ c.parts ≤ 2) (hn : ¬ c.op = 9 → 1 ≤ c.parts ∧ c.parts ≤ 3) (hz : ∀ j, c.parts.toNat ≤ j → j < 3 → kA c.v.maj c.v.min c.v.pat j = 0) :
    c.may = (c.v.may && (decide (c.v.build = []) && (decide (c.v.pre = []) || decide (c.parts = 3)))) := by
  have hp : 0 ≤ c.parts ∧ c.parts ≤ 3 := by
    by_cases e : c.op = 9
    · have := h9 e; omega
    · have := hn e; omega
  have z0 : 0 < c.parts ∨ c.v.maj = 0 := by
    by_cases q : 0 < c.parts
    · exact .inl q
    · exact .inr (hz 0 (by omega) (by decide))
  have z1 : 1 < c.parts ∨ c.v.min = 0 := by
    by_cases q : 1 < c.parts
    · exact .inl q
    · exact .inr (hz 1 (by omega) (by decide))
  have z2 : 2 < c.parts ∨ c.v.pat = 0 := by
    by_cases q : 2 < c.parts
    · exact .inl q
    · exact .inr (hz 2 (by omega) (by decide))
  refine Bool.eq_iff_iff.2 ⟨fun h => ?_, fun h => ?_⟩
  · obtain ⟨_, q1, q2, _, _, q3, _⟩ := Co.facts h
    rw [q1, decide_eq_true q2, Bool.true_and, Bool.true_and, Bool.or_eq_true, decide_eq_true_eq, decide_eq_true_eq]
    rcases q3 with q3 | q3
    · exact .inr (by omega)
    · exact .inl q3
  · simp only [Bool.and_eq_true, Bool.or_eq_true, decide_eq_true_eq] at h
    exact Co.may_iff.2 ⟨h1, h.1, h.2.1, h9, hn, h.2.2.elim .inr (fun q => .inl (by omega)), z0, z1, z2⟩
theorem lead_at {c : Co} {k : Nat} (hk : k < 3) (hz : ∀ j, j < k → kA c.v.maj c.v.min c.v.pat j = 0) (hn : ¬ kA c.v.maj c.v.min c.v.pat k = 0) : vX c = (k : Int) := by
  have h0 := hz 0; have h1 := hz 1
  have hj : k = 0 ∨ k = 1 ∨ k = 2 := by omega
  unfold vX
  rcases hj with rfl | rfl | rfl
  · exact if_pos (show ¬ c.v.maj = 0 from hn)
  · rw [if_neg (by simp [show c.v.maj = 0 from h0 (by decide)])]; exact if_pos (show ¬ c.v.min = 0 from hn)
  · rw [if_neg (by simp [show c.v.maj = 0 from h0 (by decide)]), if_neg (by simp [show c.v.min = 0 from h1 (by decide)])]; exact if_pos (show ¬ c.v.pat = 0 from hn)
theorem lead_end {c : Co} (hz : ∀ j, j < 3 → kA c.v.maj c.v.min c.v.pat j = 0) : vX c = c.parts - 1 := by
  obtain ⟨a, b, d⟩ := zero3 hz
  unfold vX
  rw [if_neg (by simp [a]), if_neg (by simp [b]), if_neg (by simp [d])]
theorem zero_on {v : Ver} {a k : Nat} (hz : ∀ j, a ≤ j → j < a + k → kA v.maj v.min v.pat j = 0) (h : kA v.maj v.min v.pat (a + k) = 0) : ∀ j, a ≤ j → j < a + (k + 1) → kA v.maj v.min v.pat j = 0 := fun j h1 h2 => by
  by_cases e : j = a + k
  · rw [e]; exact h
  · exact hz j h1 (by omega)
theorem zero_on0 {v : Ver} {k : Nat} (hz : ∀ j, j < k → kA v.maj v.min v.pat j = 0) (h : kA v.maj v.min v.pat k = 0) : ∀ j, j < k + 1 → kA v.maj v.min v.pat j = 0 := fun j h2 => by
  by_cases e : j = k
  · rw [e]; exact h
  · exact hz j (by omega)
theorem nV (v : Ver) (W : World) : Calls Tryz.prog 111 #[y8 v] W fun e w' => ∃ v' ob', e = .returned v' ∧ (∃ g, v' = .slice (some ⟨g, 0, none⟩) 3 3 ∧ ob' = [⟨g, jE v, 3⟩]) ∧ Own [] W w' ob' := by
  refine Z2 (n := 10) Tryz.func111 rfl (ZO (Zb (y8 v) (fun b1 => Zv (.slice none 0 0) (ZR (Zv (Zp b1 0) (Zl 0 ⟨b1, (y8 v).cells, 44⟩ (off := 0) (.int .i64 v.maj) (Zv (Zp b1 1) ?_)))))))
  exact Zl 0 ⟨b1, (y8 v).cells, 44⟩ (off := 1) (.int .i64 v.min) (Zv (Zp b1 2) (Zl 0 ⟨b1, (y8 v).cells, 44⟩ (off := 2) (.int .i64 v.pat) (qC 3 #[.int .i64 v.maj, .int .i64 v.min, .int .i64 v.pat] (by kernel_rfl) rfl (fun _ => by kernel_rfl) (fun b2 => Zv (.slice (some ⟨b2, 0, none⟩) 3 3) (ZN (zB (ZF (.slice (some ⟨b2, 0, none⟩) 3 3) Tryz.results111 (fun w hO => ⟨_, _, rfl, ⟨_, rfl, rfl⟩, hO.sublist (List.cons_sublist_cons.2 (List.nil_sublist _))⟩))))))))
theorem cMay_any (c : Co) (W : World) (hc : c.short) : Calls Tryz.prog 73 #[coV c] W fun e w' => e = .returned (.bool c.may) ∧ Below W.heap.size W w' := by
  refine Z2 (n := 64) Tryz.func73 rfl (ZO (Zb (coV c) (fun b1 => Zv Z5 (ZR (Zv (.int .i64 1) (Zv (.int .i64 3) (zP ?_)))))))
  refine z8 (z7 (ZO (Zv (Zp b1 0) (Zl 0 ⟨b1, (coV c).cells, 51⟩ (off := 0) (.int .i64 c.op) ?_))))
  by_cases h1 : (c.op : Int) = 9
  · refine Zg h1 (ZY (zA (Zv (.int .i64 0) (Zv (.int .i64 2) (ZN (z7 (z7 (zA ?_))))))))
    refine Zv (Zp b1 0) (Zl 0 ⟨b1, (coV c).cells, 51⟩ (off := 0) (.int .i64 c.op) ?_)
    by_cases h2 : (c.op : Int) < 1
    · refine Zg h2 (Zv Z4 (Zk (Zk (Zk (Zv Z4 (Zv Z4 (Zk (Zk (Zk (Zk (Zv Z4 ?_)))))))))))
      refine Zv Z4 (Zk (Zk (Zk (Zk (Zv Z4 (ZY (ZO (Zv Z5 ?_))))))))
      exact ZN (zB (z6 (ZF Z5 Tryz.results73 (fun w hO => ⟨by rw [show c.may = false from Bool.eq_false_iff.2 fun q0 => by have q1 := Co.may_iff.1 q0; grind], hO.below⟩))))
    refine Zh h2 (Zv Z5 (Zv (Zp b1 0) (Zl 0 ⟨b1, (coV c).cells, 51⟩ (off := 0) (.int .i64 c.op) ?_)))
    by_cases h3 : (9 : Int) < c.op
    · refine Zg h3 (Zv Z4 (Zv Z4 (Zk (Zk (Zk (Zk (Zv Z4 (Zv Z4 (Zk (Zk (Zk ?_)))))))))))
      refine Zk (Zv Z4 (ZY (ZO (Zv Z5 (ZN (zB (z6 ?_)))))))
      exact ZF Z5 Tryz.results73 (fun w hO => ⟨by rw [show c.may = false from Bool.eq_false_iff.2 fun q0 => by have q1 := Co.may_iff.1 q0; grind], hO.below⟩)
    refine Zh h3 (Zv Z5 (Zv Z5 (Zv (Zp b1 1) (Zl 0 ⟨b1, (coV c).cells, 51⟩ (off := 1) (.int .i64 c.parts) (Zv (.int .i64 0) ?_)))))
    by_cases h4 : (c.parts : Int) < 0
    · refine Zg h4 (Zv Z4 (Zv Z4 (Zk (Zk (Zk (Zk (Zv Z4 (ZY (z7 ?_)))))))))
      exact zA (Zv Z5 (ZN (zB (z6 (ZF Z5 Tryz.results73 (fun w hO => ⟨by rw [show c.may = false from Bool.eq_false_iff.2 fun q0 => by have q1 := Co.may_iff.1 q0; grind], hO.below⟩))))))
    refine Zh h4 (Zv Z5 (Zv Z5 (Zv (Zp b1 1) (Zl 0 ⟨b1, (coV c).cells, 51⟩ (off := 1) (.int .i64 c.parts) (Zv (.int .i64 2) ?_)))))
    by_cases h5 : (2 : Int) < c.parts
    · refine Zg h5 (Zv Z4 (ZY (ZO (Zv Z5 (ZN (zB (z6 ?_)))))))
      exact ZF Z5 Tryz.results73 (fun w hO => ⟨by rw [show c.may = false from Bool.eq_false_iff.2 fun q0 => by have q1 := Co.may_iff.1 q0; grind], hO.below⟩)
    refine Zh h5 (Zv Z5 (ZX (ZB (z7 (z7 (uF (by kernel_rfl) (ZT 0 [] _ (Zp b1 2) (zG (zG zI)) rfl (ZL 1 [] _ 0 ⟨b1, (coV c).cells, 51⟩ (off := 2) (.agg (ZP c.v)) (zG (zG zI)) rfl rfl ?_))))))))
    refine ZT 3 [] _ (Zp b1 1) (zG (zG zI)) rfl (ZL 4 [] _ 0 ⟨b1, (coV c).cells, 51⟩ (off := 1) (.int .i64 c.parts) (zG (zG zI)) rfl rfl (ZT 7 [] _ (.int .i64 0) (zG (zG zI)) rfl (Zz 2 (g6 _ (k := 111) (args := #[.agg (ZP c.v)]) (fun v' L' => ∃ ob', L' = ob' ++ ([] ++ ([⟨b1, (coV c).cells, 51⟩])) ∧ ∃ g, v' = .slice (some ⟨g, 0, none⟩) 3 3 ∧ ob' = [⟨g, jE c.v, 3⟩]) rfl (by kernel_rfl) (fun _ => by kernel_rfl) (fun w hO => (nV c.v w).mono fun e w' ⟨v', ob', k1, k2, k3⟩ => ⟨v', _, k1, ⟨ob', rfl, k2⟩, Own.joinN hO k3⟩) (fun v' L' ⟨ob', e, _⟩ w hO => by subst e; exact Own.sub [] (Own.sub ob' hO)) (fun v1 L2 hv2 => ?_)))))
    obtain ⟨o1, rfl, hr1⟩ := hv2
    obtain ⟨g1, rfl, ho1⟩ := hr1
    refine vD (L' := (o1 ++ ([] : List Blk)) ++ ([⟨b1, (coV c).cells, 51⟩])) (List.append_assoc _ _ _).symm (uK 5 (o1 ++ ([] : List Blk)) _ (.slice (some ⟨g1, 0 + (if 3 = c.parts.toNat then 0 else c.parts.toNat * 1), none⟩) (3 - c.parts.toNat : Nat) (3 - c.parts.toNat : Nat)) rfl (by kernel_rfl) (by kernel_rfl) (by kernel_rfl) (zG (zG zI)) (by kernel_rfl) (fun w _ => mI (b := g1) (off := 0) (n := 3) (c := 3) (k := .i64) (j := c.parts) (e := 3) (sz := 1) rfl (by kernel_rfl) (by kernel_rfl) (by kernel_rfl) (by kernel_rfl) (by omega) (by omega) w) (ZT 6 (o1 ++ ([] : List Blk)) _ (.int .i64 ((3 - c.parts.toNat : Nat) : Int)) (zG (zG zI)) rfl (ZZ (z8 (zL (qE (L' := [⟨g1, jE c.v, 3⟩, ⟨b1, (coV c).cells, 51⟩]) (by rw [ho1]; rfl) (yL (fun L f m => ∃ (k : Nat) (j : Nat → Value), (k ≤ 3 - c.parts.toNat ∧ ∀ j, c.parts.toNat ≤ j → j < c.parts.toNat + k → kA c.v.maj c.v.min c.v.pat j = 0) ∧ L = [⟨g1, jE c.v, 3⟩, ⟨b1, (coV c).cells, 51⟩] ∧ f = xF j [(1, Zp b1 0), (35, .slice (some ⟨g1, 0 + (if 3 = c.parts.toNat then 0 else c.parts.toNat * 1), none⟩) (3 - c.parts.toNat : Nat) (3 - c.parts.toNat : Nat)), (36, .int .i64 ((3 - c.parts.toNat : Nat) : Int)), (37, .int .i64 (k : Int))] ∧ m = 3 - c.parts.toNat - k) (3 - c.parts.toNat - 0) ⟨0, _, ⟨Nat.zero_le _, fun j h1 h2 => absurd h2 (by omega)⟩, rfl, ZU, rfl⟩ ?_)))))))
    rintro L f m ⟨k, j, hrel, rfl, rfl, rfl⟩
    have hkl := hrel.1
    refine z7 (zA ?_)
    by_cases h6 : (k : Int) < ((3 - c.parts.toNat : Nat) : Int)
    · refine Zg h6 (ZN (z7 (Zt (ZB (z7 (zL (ZO (zU (Zp g1 (c.parts.toNat + k)) (by kernel_rfl) (yP (b := g1) (off := 0 + (if 3 = c.parts.toNat then 0 else c.parts.toNat * 1)) (n := (3 - c.parts.toNat : Nat)) (c := (3 - c.parts.toNat : Nat)) (k := .i64) (j := (k : Int)) (e := 3) (sz := 1) rfl (by kernel_rfl) (by kernel_rfl) (by kernel_rfl) (by kernel_rfl) (by omega) (by omega) (by rw [if_neg (by omega)]; omega)) ?_))))))))
      refine jB 0 ⟨g1, jE c.v, 3⟩ (off := c.parts.toNat + k) (.int .i64 (kA c.v.maj c.v.min c.v.pat (c.parts.toNat + k))) (by kernel_rfl) rfl (by kernel_rfl) (by kernel_rfl) (rd_nums c.v _ (by omega)) (Zv (.int .i64 (kA c.v.maj c.v.min c.v.pat (c.parts.toNat + k))) (ZR (Zv (.int .i64 (kA c.v.maj c.v.min c.v.pat (c.parts.toNat + k))) ?_)))
      by_cases h7 : (kA c.v.maj c.v.min c.v.pat (c.parts.toNat + k) : Int) = 0
      · exact Zn (p := (kA c.v.maj c.v.min c.v.pat (c.parts.toNat + k) : Int) = 0) true (decide_eq_true (h7)) (ZX (yC (zQ (z8 (zA (Zu (k := .i64) (((k + 1 : Nat) : Int)) (IntWalk.i64_in _ (by omega)) (Zv (.int .i64 ((k + 1 : Nat) : Int)) (zP (zT (m' := 3 - c.parts.toNat - (k + 1)) (by omega) ⟨k + 1, _, ⟨by omega, zero_on hrel.2 h7⟩, rfl, ZU, rfl⟩)))))))))
      refine Zn (p := (kA c.v.maj c.v.min c.v.pat (c.parts.toNat + k) : Int) = 0) false (decide_eq_false (h7)) (ZY (ZO (Zv Z5 (ZN (zB (zF (z6 ?_)))))))
      exact zW (zF (z6 (ZF Z5 Tryz.results73 (fun w hO => ⟨by rw [may_bad (k := k) (by omega) h7], hO.below⟩))))
    refine Zh h6 (ZN (z7 (Zf (y5 (zD (zN (zH (z8 (z7 (zA ?_))))))))))
    refine Zv (Zp b1 2) (Zl 1 ⟨b1, (coV c).cells, 51⟩ (off := 2) (.agg (ZP c.v)) (Zc (k := 119) (args := #[.agg (ZP c.v)]) (.bool c.v.may) (fun w _ => uG c.v w (Nat.lt_of_le_of_lt hc.1 (by decide)) (Nat.lt_of_le_of_lt hc.2 (by decide))) (Zv (.bool c.v.may) ?_)))
    cases h8 : c.v.may with
    | true =>
      refine Zv (Zp b1 2) (Zv (Zp b1 6) (Zl 1 ⟨b1, (coV c).cells, 51⟩ (off := 6) (.string (mkS c.v.build)) ?_))
      by_cases h9 : (c.v.build : List UInt8) = []
      · refine zU Z4 (by kernel_rfl) (yM (a := c.v.build) (b := ([])) rfl (by kernel_rfl) (by kernel_rfl) (decide_eq_true (h9))) (Zv Z4 (Zv Z4 (Zv (Zp b1 2) (Zv (Zp b1 5) (Zl 1 ⟨b1, (coV c).cells, 51⟩ (off := 5) (.string (mkS c.v.pre)) ?_)))))
        by_cases h10 : (c.v.pre : List UInt8) = []
        · refine zU Z4 (by kernel_rfl) (yM (a := c.v.pre) (b := ([])) rfl (by kernel_rfl) (by kernel_rfl) (decide_eq_true (h10))) (Zv Z4 (Zk (Zk (Zk (Zv Z4 (Zv Z4 (Zv Z4 (ZN (zB (ZF Z4 Tryz.results73 ?_))))))))))
          exact fun w hO => ⟨by rw [dH ⟨by omega, by omega⟩ (fun _ => by omega) (fun _ => by omega) (fun j q1 q2 => hrel.2 j q1 (by omega))]; simp [h1, h2, h3, h4, h5, h6, h8, h9, h10], hO.below⟩
        refine zU Z5 (by kernel_rfl) (yM (a := c.v.pre) (b := ([])) rfl (by kernel_rfl) (by kernel_rfl) (decide_eq_false (h10))) (Zv Z5 (Zv (Zp b1 1) (Zl 1 ⟨b1, (coV c).cells, 51⟩ (off := 1) (.int .i64 c.parts) ?_)))
        by_cases h11 : (c.parts : Int) = 3
        · exact Zg h11 (Zv Z4 (Zv Z4 (Zv Z4 (ZN (zB (ZF Z4 Tryz.results73 (fun w hO => ⟨by rw [dH ⟨by omega, by omega⟩ (fun _ => by omega) (fun _ => by omega) (fun j q1 q2 => hrel.2 j q1 (by omega))]; simp [h1, h2, h3, h4, h5, h6, h8, h9, h10, h11], hO.below⟩)))))))
        exact Zh h11 (Zv Z5 (Zv Z5 (Zv Z5 (ZN (zB (ZF Z5 Tryz.results73 (fun w hO => ⟨by rw [dH ⟨by omega, by omega⟩ (fun _ => by omega) (fun _ => by omega) (fun j q1 q2 => hrel.2 j q1 (by omega))]; simp [h1, h2, h3, h4, h5, h6, h8, h9, h10, h11], hO.below⟩)))))))
      refine zU Z5 (by kernel_rfl) (yM (a := c.v.build) (b := ([])) rfl (by kernel_rfl) (by kernel_rfl) (decide_eq_false (h9))) (Zv Z5 (Zv Z5 (Zk (Zk (Zk (Zk (Zk (Zk (Zk (Zk (Zk ?_)))))))))))
      exact Zv Z5 (Zv Z5 (ZN (zB (ZF Z5 Tryz.results73 (fun w hO => ⟨by rw [dH ⟨by omega, by omega⟩ (fun _ => by omega) (fun _ => by omega) (fun j q1 q2 => hrel.2 j q1 (by omega))]; simp [h1, h2, h3, h4, h5, h6, h8, h9], hO.below⟩)))))
    | false =>
      refine Zk (Zk (Zk (Zk (Zv Z5 (Zv Z5 (Zk (Zk (Zk (Zk (Zk (Zk ?_)))))))))))
      exact Zk (Zk (Zk (Zv Z5 (Zv Z5 (ZN (zB (ZF Z5 Tryz.results73 (fun w hO => ⟨by rw [dH ⟨by omega, by omega⟩ (fun _ => by omega) (fun _ => by omega) (fun j q1 q2 => hrel.2 j q1 (by omega))]; simp [h1, h2, h3, h4, h5, h6, h8], hO.below⟩))))))))
  refine Zh h1 (ZX (ZB (z7 (ZO (Zv (Zp b1 0) (Zl 0 ⟨b1, (coV c).cells, 51⟩ (off := 0) (.int .i64 c.op) ?_))))))
  by_cases h12 : (c.op : Int) < 1
  · refine Zg h12 (Zv Z4 (Zk (Zk (Zk (Zv Z4 (Zv Z4 (Zk (Zk (Zk (Zk (Zv Z4 ?_)))))))))))
    refine Zv Z4 (Zk (Zk (Zk (Zk (Zv Z4 (ZY (ZO (Zv Z5 ?_))))))))
    exact ZN (zB (z6 (ZF Z5 Tryz.results73 (fun w hO => ⟨by rw [show c.may = false from Bool.eq_false_iff.2 fun q0 => by have q1 := Co.may_iff.1 q0; grind], hO.below⟩))))
  refine Zh h12 (Zv Z5 (Zv (Zp b1 0) (Zl 0 ⟨b1, (coV c).cells, 51⟩ (off := 0) (.int .i64 c.op) ?_)))
  by_cases h13 : (9 : Int) < c.op
  · refine Zg h13 (Zv Z4 (Zv Z4 (Zk (Zk (Zk (Zk (Zv Z4 (Zv Z4 (Zk (Zk (Zk ?_)))))))))))
    refine Zk (Zv Z4 (ZY (ZO (Zv Z5 (ZN (zB (z6 ?_)))))))
    exact ZF Z5 Tryz.results73 (fun w hO => ⟨by rw [show c.may = false from Bool.eq_false_iff.2 fun q0 => by have q1 := Co.may_iff.1 q0; grind], hO.below⟩)
  refine Zh h13 (Zv Z5 (Zv Z5 (Zv (Zp b1 1) (Zl 0 ⟨b1, (coV c).cells, 51⟩ (off := 1) (.int .i64 c.parts) (Zv (.int .i64 1) ?_)))))
  by_cases h14 : (c.parts : Int) < 1
  · refine Zg h14 (Zv Z4 (Zv Z4 (Zk (Zk (Zk (Zk (Zv Z4 (ZY (z7 ?_)))))))))
    exact zA (Zv Z5 (ZN (zB (z6 (ZF Z5 Tryz.results73 (fun w hO => ⟨by rw [show c.may = false from Bool.eq_false_iff.2 fun q0 => by have q1 := Co.may_iff.1 q0; grind], hO.below⟩))))))
  refine Zh h14 (Zv Z5 (Zv Z5 (Zv (Zp b1 1) (Zl 0 ⟨b1, (coV c).cells, 51⟩ (off := 1) (.int .i64 c.parts) (Zv (.int .i64 3) ?_)))))
  by_cases h15 : (3 : Int) < c.parts
  · refine Zg h15 (Zv Z4 (ZY (ZO (Zv Z5 (ZN (zB (z6 ?_)))))))
    exact ZF Z5 Tryz.results73 (fun w hO => ⟨by rw [show c.may = false from Bool.eq_false_iff.2 fun q0 => by have q1 := Co.may_iff.1 q0; grind], hO.below⟩)
  refine Zh h15 (Zv Z5 (ZX (ZB (z7 (z7 (uF (by kernel_rfl) (ZT 0 [] _ (Zp b1 2) (zG (zG zI)) rfl (ZL 1 [] _ 0 ⟨b1, (coV c).cells, 51⟩ (off := 2) (.agg (ZP c.v)) (zG (zG zI)) rfl rfl ?_))))))))
  refine ZT 3 [] _ (Zp b1 1) (zG (zG zI)) rfl (ZL 4 [] _ 0 ⟨b1, (coV c).cells, 51⟩ (off := 1) (.int .i64 c.parts) (zG (zG zI)) rfl rfl (ZT 7 [] _ (.int .i64 0) (zG (zG zI)) rfl (Zz 2 (g6 _ (k := 111) (args := #[.agg (ZP c.v)]) (fun v' L' => ∃ ob', L' = ob' ++ ([] ++ ([⟨b1, (coV c).cells, 51⟩])) ∧ ∃ g, v' = .slice (some ⟨g, 0, none⟩) 3 3 ∧ ob' = [⟨g, jE c.v, 3⟩]) rfl (by kernel_rfl) (fun _ => by kernel_rfl) (fun w hO => (nV c.v w).mono fun e w' ⟨v', ob', k1, k2, k3⟩ => ⟨v', _, k1, ⟨ob', rfl, k2⟩, Own.joinN hO k3⟩) (fun v' L' ⟨ob', e, _⟩ w hO => by subst e; exact Own.sub [] (Own.sub ob' hO)) (fun v1 L2 hv2 => ?_)))))
  obtain ⟨o1, rfl, hr1⟩ := hv2
  obtain ⟨g1, rfl, ho1⟩ := hr1
  refine vD (L' := (o1 ++ ([] : List Blk)) ++ ([⟨b1, (coV c).cells, 51⟩])) (List.append_assoc _ _ _).symm (uK 5 (o1 ++ ([] : List Blk)) _ (.slice (some ⟨g1, 0 + (if 3 = c.parts.toNat then 0 else c.parts.toNat * 1), none⟩) (3 - c.parts.toNat : Nat) (3 - c.parts.toNat : Nat)) rfl (by kernel_rfl) (by kernel_rfl) (by kernel_rfl) (zG (zG zI)) (by kernel_rfl) (fun w _ => mI (b := g1) (off := 0) (n := 3) (c := 3) (k := .i64) (j := c.parts) (e := 3) (sz := 1) rfl (by kernel_rfl) (by kernel_rfl) (by kernel_rfl) (by kernel_rfl) (by omega) (by omega) w) (ZT 6 (o1 ++ ([] : List Blk)) _ (.int .i64 ((3 - c.parts.toNat : Nat) : Int)) (zG (zG zI)) rfl (ZZ (z8 (zL (qE (L' := [⟨g1, jE c.v, 3⟩, ⟨b1, (coV c).cells, 51⟩]) (by rw [ho1]; rfl) (yL (fun L f m => ∃ (k : Nat) (j : Nat → Value), (k ≤ 3 - c.parts.toNat ∧ ∀ j, c.parts.toNat ≤ j → j < c.parts.toNat + k → kA c.v.maj c.v.min c.v.pat j = 0) ∧ L = [⟨g1, jE c.v, 3⟩, ⟨b1, (coV c).cells, 51⟩] ∧ f = xF j [(1, Zp b1 0), (35, .slice (some ⟨g1, 0 + (if 3 = c.parts.toNat then 0 else c.parts.toNat * 1), none⟩) (3 - c.parts.toNat : Nat) (3 - c.parts.toNat : Nat)), (36, .int .i64 ((3 - c.parts.toNat : Nat) : Int)), (37, .int .i64 (k : Int))] ∧ m = 3 - c.parts.toNat - k) (3 - c.parts.toNat - 0) ⟨0, _, ⟨Nat.zero_le _, fun j h1 h2 => absurd h2 (by omega)⟩, rfl, ZU, rfl⟩ ?_)))))))
  rintro L f m ⟨k, j, hrel, rfl, rfl, rfl⟩
  have hkl := hrel.1
  refine z7 (zA ?_)
  by_cases h16 : (k : Int) < ((3 - c.parts.toNat : Nat) : Int)
  · refine Zg h16 (ZN (z7 (Zt (ZB (z7 (zL (ZO (zU (Zp g1 (c.parts.toNat + k)) (by kernel_rfl) (yP (b := g1) (off := 0 + (if 3 = c.parts.toNat then 0 else c.parts.toNat * 1)) (n := (3 - c.parts.toNat : Nat)) (c := (3 - c.parts.toNat : Nat)) (k := .i64) (j := (k : Int)) (e := 3) (sz := 1) rfl (by kernel_rfl) (by kernel_rfl) (by kernel_rfl) (by kernel_rfl) (by omega) (by omega) (by rw [if_neg (by omega)]; omega)) ?_))))))))
    refine jB 0 ⟨g1, jE c.v, 3⟩ (off := c.parts.toNat + k) (.int .i64 (kA c.v.maj c.v.min c.v.pat (c.parts.toNat + k))) (by kernel_rfl) rfl (by kernel_rfl) (by kernel_rfl) (rd_nums c.v _ (by omega)) (Zv (.int .i64 (kA c.v.maj c.v.min c.v.pat (c.parts.toNat + k))) (ZR (Zv (.int .i64 (kA c.v.maj c.v.min c.v.pat (c.parts.toNat + k))) ?_)))
    by_cases h17 : (kA c.v.maj c.v.min c.v.pat (c.parts.toNat + k) : Int) = 0
    · exact Zn (p := (kA c.v.maj c.v.min c.v.pat (c.parts.toNat + k) : Int) = 0) true (decide_eq_true (h17)) (ZX (yC (zQ (z8 (zA (Zu (k := .i64) (((k + 1 : Nat) : Int)) (IntWalk.i64_in _ (by omega)) (Zv (.int .i64 ((k + 1 : Nat) : Int)) (zP (zT (m' := 3 - c.parts.toNat - (k + 1)) (by omega) ⟨k + 1, _, ⟨by omega, zero_on hrel.2 h17⟩, rfl, ZU, rfl⟩)))))))))
    refine Zn (p := (kA c.v.maj c.v.min c.v.pat (c.parts.toNat + k) : Int) = 0) false (decide_eq_false (h17)) (ZY (ZO (Zv Z5 (ZN (zB (zF (z6 ?_)))))))
    exact zW (zF (z6 (ZF Z5 Tryz.results73 (fun w hO => ⟨by rw [may_bad (k := k) (by omega) h17], hO.below⟩))))
  refine Zh h16 (ZN (z7 (Zf (y5 (zD (zN (zH (z8 (z7 (zA ?_))))))))))
  refine Zv (Zp b1 2) (Zl 1 ⟨b1, (coV c).cells, 51⟩ (off := 2) (.agg (ZP c.v)) (Zc (k := 119) (args := #[.agg (ZP c.v)]) (.bool c.v.may) (fun w _ => uG c.v w (Nat.lt_of_le_of_lt hc.1 (by decide)) (Nat.lt_of_le_of_lt hc.2 (by decide))) (Zv (.bool c.v.may) ?_)))
  cases h18 : c.v.may with
  | true =>
    refine Zv (Zp b1 2) (Zv (Zp b1 6) (Zl 1 ⟨b1, (coV c).cells, 51⟩ (off := 6) (.string (mkS c.v.build)) ?_))
    by_cases h19 : (c.v.build : List UInt8) = []
    · refine zU Z4 (by kernel_rfl) (yM (a := c.v.build) (b := ([])) rfl (by kernel_rfl) (by kernel_rfl) (decide_eq_true (h19))) (Zv Z4 (Zv Z4 (Zv (Zp b1 2) (Zv (Zp b1 5) (Zl 1 ⟨b1, (coV c).cells, 51⟩ (off := 5) (.string (mkS c.v.pre)) ?_)))))
      by_cases h20 : (c.v.pre : List UInt8) = []
      · refine zU Z4 (by kernel_rfl) (yM (a := c.v.pre) (b := ([])) rfl (by kernel_rfl) (by kernel_rfl) (decide_eq_true (h20))) (Zv Z4 (Zk (Zk (Zk (Zv Z4 (Zv Z4 (Zv Z4 (ZN (zB (ZF Z4 Tryz.results73 ?_))))))))))
        exact fun w hO => ⟨by rw [dH ⟨by omega, by omega⟩ (fun _ => by omega) (fun _ => by omega) (fun j q1 q2 => hrel.2 j q1 (by omega))]; simp [h1, h12, h13, h14, h15, h16, h18, h19, h20], hO.below⟩
      refine zU Z5 (by kernel_rfl) (yM (a := c.v.pre) (b := ([])) rfl (by kernel_rfl) (by kernel_rfl) (decide_eq_false (h20))) (Zv Z5 (Zv (Zp b1 1) (Zl 1 ⟨b1, (coV c).cells, 51⟩ (off := 1) (.int .i64 c.parts) ?_)))
      by_cases h21 : (c.parts : Int) = 3
      · exact Zg h21 (Zv Z4 (Zv Z4 (Zv Z4 (ZN (zB (ZF Z4 Tryz.results73 (fun w hO => ⟨by rw [dH ⟨by omega, by omega⟩ (fun _ => by omega) (fun _ => by omega) (fun j q1 q2 => hrel.2 j q1 (by omega))]; simp [h1, h12, h13, h14, h15, h16, h18, h19, h20, h21], hO.below⟩)))))))
      exact Zh h21 (Zv Z5 (Zv Z5 (Zv Z5 (ZN (zB (ZF Z5 Tryz.results73 (fun w hO => ⟨by rw [dH ⟨by omega, by omega⟩ (fun _ => by omega) (fun _ => by omega) (fun j q1 q2 => hrel.2 j q1 (by omega))]; simp [h1, h12, h13, h14, h15, h16, h18, h19, h20, h21], hO.below⟩)))))))
    refine zU Z5 (by kernel_rfl) (yM (a := c.v.build) (b := ([])) rfl (by kernel_rfl) (by kernel_rfl) (decide_eq_false (h19))) (Zv Z5 (Zv Z5 (Zk (Zk (Zk (Zk (Zk (Zk (Zk (Zk (Zk ?_)))))))))))
    exact Zv Z5 (Zv Z5 (ZN (zB (ZF Z5 Tryz.results73 (fun w hO => ⟨by rw [dH ⟨by omega, by omega⟩ (fun _ => by omega) (fun _ => by omega) (fun j q1 q2 => hrel.2 j q1 (by omega))]; simp [h1, h12, h13, h14, h15, h16, h18, h19], hO.below⟩)))))
  | false =>
    refine Zk (Zk (Zk (Zk (Zv Z5 (Zv Z5 (Zk (Zk (Zk (Zk (Zk (Zk ?_)))))))))))
    exact Zk (Zk (Zk (Zv Z5 (Zv Z5 (ZN (zB (ZF Z5 Tryz.results73 (fun w hO => ⟨by rw [dH ⟨by omega, by omega⟩ (fun _ => by omega) (fun _ => by omega) (fun j q1 q2 => hrel.2 j q1 (by omega))]; simp [h1, h12, h13, h14, h15, h16, h18], hO.below⟩))))))))
theorem csign_any (op : Int) (W : World) : Calls Tryz.prog 108 #[.int .i64 op] W fun e w' => e = .returned (.string (mkS (zO op))) ∧ Below W.heap.size W w' := by
  refine Z2 (n := 25) Tryz.func108 rfl (ZO (Zv (.string ⟨#[]⟩) (ZR (Zv (.string ⟨#[]⟩) (Zv (.string ⟨#[]⟩) (zP (z8 ?_)))))))
  refine z7 (ZO (Zv (.int .i64 op) (ZN (zL (z7 (zL (z7 (zL (z7 ?_)))))))))
  refine zL (z7 (zL (z7 (zL (z7 (zL (z7 (zL (z7 (zL (z7 ?_)))))))))))
  refine z7 (z7 (zA ?_))
  by_cases h1 : (op : Int) = 2
  · refine Zg h1 (Zv Z4 (ZY (y5 (zD (zD (zH (z8 (zA (Zv (.string ⟨#[33]⟩) ?_)))))))))
    refine zP (zQ (z8 (ZO (Zv (.string ⟨#[61]⟩) (ZN (y5 (zM (by decide) (zD (zM (by decide) ?_)))))))))
    refine zD (zM (by decide) (zD (zM (by decide) (zD (zM (by decide) (zD (zM (by decide) (zD (zH (z8 (z7 ?_)))))))))))
    exact zA (Zv (.string ⟨#[33]⟩) (Zv (.string ⟨#[61]⟩) (zU (.string (mkS ([33] ++ [61]))) (by kernel_rfl) (yZ (a := [33]) (b := [61]) rfl (by kernel_rfl) (by kernel_rfl) (by decide)) (Zv (.string (mkS ([33] ++ [61]))) (ZN (zB (ZF (.string (mkS ([33] ++ [61]))) Tryz.results108 (fun w hO => ⟨by unfold zO; simp [h1], hO.below⟩))))))))
  refine Zh h1 (Zv Z5 (ZX (ZB (z7 (z7 (zA ?_))))))
  by_cases h2 : (op : Int) = 1
  · refine Zg h2 (Zv Z4 (ZY (y5 (zD (zD (zM (by decide) (zD (zH (z8 ?_)))))))))
    refine ZO (Zv (.string ⟨#[61]⟩) (ZN (y5 (zM (by decide) (zD (zM (by decide) (zD (zM (by decide) (zD ?_)))))))))
    refine zM (by decide) (zD (zM (by decide) (zD (zM (by decide) (zD (zH (z8 (ZO (Zv (.string ⟨#[]⟩) (Zv (.string ⟨#[61]⟩) ?_))))))))))
    exact zU (.string (mkS ([] ++ [61]))) (by kernel_rfl) (yZ (a := []) (b := [61]) rfl (by kernel_rfl) (by kernel_rfl) (by decide)) (Zv (.string (mkS ([] ++ [61]))) (ZN (zB (ZF (.string (mkS ([] ++ [61]))) Tryz.results108 (fun w hO => ⟨by unfold zO; simp [h1, h2], hO.below⟩)))))
  refine Zh h2 (Zv Z5 (ZX (ZB (z7 (z7 (zA ?_))))))
  by_cases h3 : (op : Int) = 4
  · refine Zg h3 (Zv Z4 (ZY (y5 (zD (zD (zM (by decide) (zD (zM (by decide) (zD ?_)))))))))
    refine zH (z8 (zA (Zv (.string ⟨#[61]⟩) (zP (zQ (z8 (ZO (Zv (.string ⟨#[60]⟩) (zP (z8 ?_))))))))))
    refine y5 (zM (by decide) (zD (zM (by decide) (zD (zM (by decide) (zD (zM (by decide) (zD (zH (z8 (z7 ?_)))))))))))
    exact zA (Zv (.string ⟨#[60]⟩) (Zv (.string ⟨#[61]⟩) (zU (.string (mkS ([60] ++ [61]))) (by kernel_rfl) (yZ (a := [60]) (b := [61]) rfl (by kernel_rfl) (by kernel_rfl) (by decide)) (Zv (.string (mkS ([60] ++ [61]))) (ZN (zB (ZF (.string (mkS ([60] ++ [61]))) Tryz.results108 (fun w hO => ⟨by unfold zO; simp [h1, h2, h3], hO.below⟩))))))))
  refine Zh h3 (Zv Z5 (ZX (ZB (z7 (z7 (zA ?_))))))
  by_cases h4 : (op : Int) = 3
  · refine Zg h4 (Zv Z4 (ZY (y5 (zD (zD (zM (by decide) (zD (zM (by decide) (zD ?_)))))))))
    refine zM (by decide) (zD (zH (z8 (ZO (Zv (.string ⟨#[60]⟩) (ZN (y5 (zM (by decide) (zD ?_)))))))))
    refine zM (by decide) (zD (zM (by decide) (zD (zM (by decide) (zD (zH (z8 (ZO (Zv (.string ⟨#[60]⟩) (Zv (.string ⟨#[]⟩) ?_))))))))))
    exact zU (.string (mkS ([60] ++ []))) (by kernel_rfl) (yZ (a := [60]) (b := []) rfl (by kernel_rfl) (by kernel_rfl) (by decide)) (Zv (.string (mkS ([60] ++ []))) (ZN (zB (ZF (.string (mkS ([60] ++ []))) Tryz.results108 (fun w hO => ⟨by unfold zO; simp [h1, h2, h3, h4], hO.below⟩)))))
  refine Zh h4 (Zv Z5 (ZX (ZB (z7 (z7 (zA ?_))))))
  by_cases h5 : (op : Int) = 6
  · refine Zg h5 (Zv Z4 (ZY (y5 (zD (zD (zM (by decide) (zD (zM (by decide) (zD ?_)))))))))
    refine zM (by decide) (zD (zM (by decide) (zD (zH (z8 (zA (Zv (.string ⟨#[61]⟩) (zP (zQ (z8 (z7 ?_)))))))))))
    refine zA (Zv (.string ⟨#[62]⟩) (ZN (y5 (zM (by decide) (zD (zM (by decide) (zD (zH (z8 (z7 ?_))))))))))
    exact zA (Zv (.string ⟨#[62]⟩) (Zv (.string ⟨#[61]⟩) (zU (.string (mkS ([62] ++ [61]))) (by kernel_rfl) (yZ (a := [62]) (b := [61]) rfl (by kernel_rfl) (by kernel_rfl) (by decide)) (Zv (.string (mkS ([62] ++ [61]))) (ZN (zB (ZF (.string (mkS ([62] ++ [61]))) Tryz.results108 (fun w hO => ⟨by unfold zO; simp [h1, h2, h3, h4, h5], hO.below⟩))))))))
  refine Zh h5 (Zv Z5 (ZX (ZB (z7 (z7 (zA ?_))))))
  by_cases h6 : (op : Int) = 5
  · refine Zg h6 (Zv Z4 (ZY (y5 (zD (zD (zM (by decide) (zD (zM (by decide) (zD ?_)))))))))
    refine zM (by decide) (zD (zM (by decide) (zD (zM (by decide) (zD (zH (z8 (ZO (Zv (.string ⟨#[62]⟩) (zP ?_))))))))))
    refine z8 (y5 (zM (by decide) (zD (zM (by decide) (zD (zH (z8 (ZO (Zv (.string ⟨#[62]⟩) (Zv (.string ⟨#[]⟩) ?_))))))))))
    exact zU (.string (mkS ([62] ++ []))) (by kernel_rfl) (yZ (a := [62]) (b := []) rfl (by kernel_rfl) (by kernel_rfl) (by decide)) (Zv (.string (mkS ([62] ++ []))) (ZN (zB (ZF (.string (mkS ([62] ++ []))) Tryz.results108 (fun w hO => ⟨by unfold zO; simp [h1, h2, h3, h4, h5, h6], hO.below⟩)))))
  refine Zh h6 (Zv Z5 (ZX (ZB (z7 (z7 (zA ?_))))))
  by_cases h7 : (op : Int) = 7
  · refine Zg h7 (Zv Z4 (ZY (y5 (zD (zD (zM (by decide) (zD (zM (by decide) (zD ?_)))))))))
    refine zM (by decide) (zD (zM (by decide) (zD (zM (by decide) (zD (zM (by decide) (zD (zH (z8 (z7 (zA ?_)))))))))))
    refine Zv (.string ⟨#[94]⟩) (ZN (y5 (zM (by decide) (zD (zH (z8 (ZO (Zv (.string ⟨#[94]⟩) (Zv (.string ⟨#[]⟩) ?_)))))))))
    exact zU (.string (mkS ([94] ++ []))) (by kernel_rfl) (yZ (a := [94]) (b := []) rfl (by kernel_rfl) (by kernel_rfl) (by decide)) (Zv (.string (mkS ([94] ++ []))) (ZN (zB (ZF (.string (mkS ([94] ++ []))) Tryz.results108 (fun w hO => ⟨by unfold zO; simp [h1, h2, h3, h4, h5, h6, h7], hO.below⟩)))))
  refine Zh h7 (Zv Z5 (ZX (ZB (z7 (zA ?_)))))
  by_cases h8 : (op : Int) = 8
  · refine Zg h8 (Zv Z4 (ZY (y5 (zD (zM (by decide) (zD (zM (by decide) (zD (zM (by decide) ?_)))))))))
    refine zD (zM (by decide) (zD (zM (by decide) (zD (zM (by decide) (zD (zM (by decide) (zD (zH (z8 (z7 ?_)))))))))))
    refine zA (Zv (.string ⟨#[126]⟩) (ZN (y5 (zH (z8 (ZO (Zv (.string ⟨#[126]⟩) (Zv (.string ⟨#[]⟩) (zU (.string (mkS ([126] ++ []))) (by kernel_rfl) (yZ (a := [126]) (b := []) rfl (by kernel_rfl) (by kernel_rfl) (by decide)) ?_)))))))))
    exact Zv (.string (mkS ([126] ++ []))) (ZN (zB (ZF (.string (mkS ([126] ++ []))) Tryz.results108 (fun w hO => ⟨by unfold zO; simp [h1, h2, h3, h4, h5, h6, h7, h8], hO.below⟩))))
  refine Zh h8 (Zv Z5 (ZX (ZB (y5 (zM (by decide) (zD (zM (by decide) (zD ?_))))))))
  refine zM (by decide) (zD (zM (by decide) (zD (zM (by decide) (zD (zM (by decide) (zD (zM (by decide) (zD (zM (by decide) (zD ?_)))))))))))
  refine zH (z8 (ZO (Zv (.string ⟨#[]⟩) (Zv (.string ⟨#[]⟩) (zU (.string (mkS ([] ++ []))) (by kernel_rfl) (yZ (a := []) (b := []) rfl (by kernel_rfl) (by kernel_rfl) (by decide)) (Zv (.string (mkS ([] ++ []))) (ZN (zB (ZF (.string (mkS ([] ++ []))) Tryz.results108 ?_)))))))))
  exact fun w hO => ⟨by unfold zO; simp [h1, h2, h3, h4, h5, h6, h7, h8], hO.below⟩
theorem clead_any (c : Co) (W : World) (hc : c.short) (hp : 0 ≤ c.parts ∧ c.parts ≤ 3) : Calls Tryz.prog 176 #[coV c] W fun e w' => e = .returned (.int .i64 (vX c)) ∧ Below W.heap.size W w' := by
  refine Z2 (n := 21) Tryz.func176 rfl (ZO (Zb (coV c) (fun b1 => Zv (.int .i64 0) (ZN (z7 (ZO (Zv (Zp b1 2) (Zl 0 ⟨b1, (coV c).cells, 51⟩ (off := 2) (.agg (ZP c.v)) ?_))))))))
  refine Zr (k := 111) (args := #[y8 c.v]) (fun v' L' => ∃ g, v' = .slice (some ⟨g, 0, none⟩) 3 3 ∧ L' = ⟨g, jE c.v, 3⟩ :: [⟨b1, (coV c).cells, 51⟩]) (fun w hO => (nV c.v w).mono fun e w' ⟨v', ob', k1, ⟨g, k2, k4⟩, k3⟩ => ⟨v', _, k1, ⟨g, k2, rfl⟩, by subst k4; exact Own.joinN hO k3⟩) (fun v1 L1 hv1 => ?_)
  obtain ⟨g1, rfl, rfl⟩ := hv1
  refine Zv (.int .i64 (3 : Int)) (Zv (.int .i64 0) (ZN (zL (yL (fun L f m => ∃ (k : Nat) (j : Nat → Value), (k ≤ 3 ∧ ∀ j, j < k → kA c.v.maj c.v.min c.v.pat j = 0) ∧ L = [⟨g1, jE c.v, 3⟩, ⟨b1, (coV c).cells, 51⟩] ∧ f = xF j [(1, Zp b1 0), (7, .slice (some ⟨g1, 0, none⟩) 3 3), (8, .int .i64 3), (9, .int .i64 (k : Int))] ∧ m = 3 - k) (3 - 0) ⟨0, _, ⟨Nat.zero_le _, fun j h2 => absurd h2 (Nat.not_lt_zero _)⟩, rfl, ZU, rfl⟩ ?_))))
  rintro L f m ⟨k, j, hrel, rfl, rfl, rfl⟩
  have hkl := hrel.1
  refine z7 (zA ?_)
  by_cases h1 : (k : Int) < 3
  · refine Zg h1 (ZN (z7 (Zt (ZB (z7 (zL (ZO (Zv (.int .i64 (k : Int)) ?_))))))))
    refine zU (Zp g1 (0 + k)) (by kernel_rfl) (ZV (b := g1) (off := 0) (n := 3) (c := 3) (k := .i64) (j := (k : Int)) (e := 3) (sz := 1)) (jB 0 ⟨g1, jE c.v, 3⟩ (off := 0 + k) (.int .i64 (kA c.v.maj c.v.min c.v.pat k)) (by kernel_rfl) rfl (by kernel_rfl) (by kernel_rfl) (by rw [Nat.zero_add]; exact rd_nums c.v k (by omega)) (Zv (.int .i64 (k : Int)) (Zv (.int .i64 (kA c.v.maj c.v.min c.v.pat k)) (ZR (Zv (.int .i64 (kA c.v.maj c.v.min c.v.pat k)) ?_)))))
    by_cases h2 : (kA c.v.maj c.v.min c.v.pat k : Int) = 0
    · exact Zn (p := (kA c.v.maj c.v.min c.v.pat k : Int) = 0) true (decide_eq_true (h2)) (ZX (yC (zQ (z8 (zA (Zu (k := .i64) (((k + 1 : Nat) : Int)) (IntWalk.i64_in _ (by omega)) (Zv (.int .i64 ((k + 1 : Nat) : Int)) (zP (zT (m' := 3 - (k + 1)) (by omega) ⟨k + 1, _, ⟨by omega, zero_on0 hrel.2 h2⟩, rfl, ZU, rfl⟩)))))))))
    refine Zn (p := (kA c.v.maj c.v.min c.v.pat k : Int) = 0) false (decide_eq_false (h2)) (ZY (ZO (Zv (.int .i64 (k : Int)) (Zv (.int .i64 (k : Int)) (ZN (zB (zF ?_)))))))
    exact z6 (zW (zF (z6 (ZF (.int .i64 (k : Int)) Tryz.results176 (fun w hO => ⟨by rw [lead_at (by omega) hrel.2 h2], hO.below⟩)))))
  refine Zh h1 (ZN (z7 (Zf (y5 (zD (zN (zH (z8 (z7 (zA ?_))))))))))
  exact Zv (Zp b1 1) (Zl 1 ⟨b1, (coV c).cells, 51⟩ (off := 1) (.int .i64 c.parts) (Zu (k := .i64) ((c.parts : Int) - 1) (IntWalk.i64_in _ (by omega)) (Zv (.int .i64 ((c.parts : Int) - 1)) (ZN (zB (ZF (.int .i64 ((c.parts : Int) - 1)) Tryz.results176 (fun w hO => ⟨by rw [lead_end (fun j q2 => hrel.2 j (by omega))], hO.below⟩)))))))
theorem chigh_any (v : Ver) (z0 : Int) (W : World) (hv : v.short) (hz : -1 ≤ z0 ∧ z0 ≤ 2) : Calls Tryz.prog 175 #[y8 v, .int .i64 z0] W fun e w' => e = .returned (zC (jI v z0)) ∧ Below W.heap.size W w' := by
  refine Z2 (n := 21) Tryz.func175 rfl (ZO (Zb (y8 v) (fun b1 => Za (.agg ZE) (fun b2 => ZN (z7 (zL (yL (fun L f m => ∃ (z : Int) (j : Nat → Value), (-1 ≤ z ∧ z ≤ 2 ∧ jI v z0 = jI v z) ∧ L = [⟨b2, ZE, 78⟩, ⟨b1, (y8 v).cells, 44⟩] ∧ f = xF j [(1, .int .i64 z), (2, Zp b1 0), (4, Zp b2 0)] ∧ m = (z + 1).toNat) ((z0 + 1).toNat) ⟨z0, _, ⟨hz.1, hz.2, rfl⟩, rfl, ZU, rfl⟩ ?_)))))))
  rintro L f m ⟨z, j, hrel, rfl, rfl, rfl⟩
  refine z7 (ZO (Zv (.int .i64 z) ?_))
  by_cases h1 : (0 : Int) ≤ z
  · refine Zg h1 (ZY (ZB (z7 (zL (ZO (Zl 1 ⟨b1, (y8 v).cells, 44⟩ (off := 0) (y8 v) (Zv (.int .i64 z) ?_)))))))
    refine Zc (k := 203) (args := #[y8 v, .int .i64 z]) (.tuple #[y8 (yI v z), .bool (yB v z)]) (fun w _ => bump_any v z w hv.1 hv.2) (Zv (.tuple #[y8 (yI v z), .bool (yB v z)]) (Zv (y8 (yI v z)) (Zv (.bool (yB v z)) (Za (.agg Z1) (fun b3 => Zs 0 ⟨b3, Z1, 44⟩ (off := 0) (y8 (yI v z)) (Zv (.bool (yB v z)) (ZR (Zv (.bool (yB v z)) ?_))))))))
    refine zP (z8 ?_)
    cases h2 : yB v z with
    | true =>
      refine Zt (ZO (Zl 0 ⟨b3, (y8 (yI v z)).cells, 44⟩ (off := 0) (y8 (yI v z)) (Zv (.agg #[.int .i64 0, .int .i64 ((yI v z).maj), .int .i64 ((yI v z).min), .int .i64 ((yI v z).pat), .string (mkS (yI v z).pre), .string (mkS (yI v z).build), .bool false]) (Zs 1 ⟨b2, ZE, 78⟩ (off := 0) (.agg #[.int .i64 0, .int .i64 ((yI v z).maj), .int .i64 ((yI v z).min), .int .i64 ((yI v z).pat), .string (mkS (yI v z).pre), .string (mkS (yI v z).build), .bool false]) (ZN (zB (zF (z6 (zW ?_)))))))))
      exact zF (z6 (ZC 1 ⟨b2, #[.int .i64 0, .int .i64 ((yI v z).maj), .int .i64 ((yI v z).min), .int .i64 ((yI v z).pat), .string (mkS (yI v z).pre), .string (mkS (yI v z).build), .bool false], 78⟩ (off := 0) (.agg #[.int .i64 0, .int .i64 ((yI v z).maj), .int .i64 ((yI v z).min), .int .i64 ((yI v z).pat), .string (mkS (yI v z).pre), .string (mkS (yI v z).build), .bool false]) Tryz.results175 (fun w hO => ⟨by rw [hrel.2.2, highZ_hit (by omega) (by assumption)]; rfl, hO.below⟩)))
    | false =>
      exact Zf (yC (zQ (z8 (zA (Zv (.int .i64 z) (Zu (k := .i64) ((z : Int) - 1) (IntWalk.i64_in _ (by omega)) (Zv (.int .i64 ((z : Int) - 1)) (zP (xM (fun w hO => Own.sub [_] hO) (zT (m' := (z - 1 + 1).toNat) (by omega) ⟨z - 1, _, ⟨by omega, by omega, by rw [hrel.2.2, highZ_next (by omega) (by assumption)]⟩, rfl, ZU, rfl⟩))))))))))
  refine Zh h1 (ZX (y5 (zD (zN (zH (z8 (ZO (Zv (.agg Z8) ?_))))))))
  exact Zs 0 ⟨b2, ZE, 78⟩ (off := 0) (.agg Z8) (ZN (zB (ZC 0 ⟨b2, Z8, 78⟩ (off := 0) (.agg Z8) Tryz.results175 (fun w hO => ⟨by rw [hrel.2.2]; unfold jI; rw [if_pos (by omega)]; rfl, hO.below⟩))))
theorem beh_high {c : Co} (hp : 0 ≤ c.parts ∧ c.parts ≤ 3) (h : ¬ c.parts = 3) : gF c = jI c.v (c.parts - 1) := by
  unfold gF jI
  rw [if_neg h]
  by_cases h0 : c.parts = 0
  · rw [if_pos h0, if_pos (by omega)]
  · rw [if_neg h0, if_neg (by omega)]
theorem wL (c : Co) (W : World) (hc : c.short) (hp : 0 ≤ c.parts ∧ c.parts ≤ 3) : Calls Tryz.prog 174 #[coV c] W fun e w' => e = .returned (zC (gF c)) ∧ Below W.heap.size W w' := by
  refine Z2 (n := 15) Tryz.func174 rfl (ZO (Zb (coV c) (fun b1 => Za (.agg ZE) (fun b2 => ZN (z7 (ZO (Zv (Zp b1 1) (Zl 1 ⟨b1, (coV c).cells, 51⟩ (off := 1) (.int .i64 c.parts) ?_))))))))
  by_cases h1 : (c.parts : Int) = 3
  · refine Zg h1 (ZY (ZO (Zv (Zp b1 2) (Zl 1 ⟨b1, (coV c).cells, 51⟩ (off := 2) (.agg (ZP c.v)) (Zv (.agg #[.int .i64 0, .int .i64 c.v.maj, .int .i64 c.v.min, .int .i64 c.v.pat, .string (mkS c.v.pre), .string (mkS c.v.build), .bool true]) (Zs 0 ⟨b2, ZE, 78⟩ (off := 0) (.agg #[.int .i64 0, .int .i64 c.v.maj, .int .i64 c.v.min, .int .i64 c.v.pat, .string (mkS c.v.pre), .string (mkS c.v.build), .bool true]) (zP (z8 ?_))))))))
    exact zB (z6 (ZC 0 ⟨b2, #[.int .i64 0, .int .i64 c.v.maj, .int .i64 c.v.min, .int .i64 c.v.pat, .string (mkS c.v.pre), .string (mkS c.v.build), .bool true], 78⟩ (off := 0) (.agg #[.int .i64 0, .int .i64 c.v.maj, .int .i64 c.v.min, .int .i64 c.v.pat, .string (mkS c.v.pre), .string (mkS c.v.build), .bool true]) Tryz.results174 (fun w hO => ⟨by rw [show gF c = ⟨0, c.v, true⟩ from if_pos h1]; rfl, hO.below⟩)))
  refine Zh h1 (ZX (ZB (ZO (Zv (Zp b1 2) (Zl 1 ⟨b1, (coV c).cells, 51⟩ (off := 2) (.agg (ZP c.v)) (Zv (Zp b1 1) (Zl 1 ⟨b1, (coV c).cells, 51⟩ (off := 1) (.int .i64 c.parts) ?_)))))))
  exact Zu (k := .i64) ((c.parts : Int) - 1) (IntWalk.i64_in _ (by omega)) (Zc (k := 175) (args := #[.agg (ZP c.v), .int .i64 ((c.parts : Int) - 1)]) (zC (jI c.v (c.parts - 1))) (fun w _ => chigh_any c.v (c.parts - 1) w hc (by omega)) (Zs 0 ⟨b2, ZE, 78⟩ (off := 0) (zC (jI c.v (c.parts - 1))) (ZN (zB (ZC 0 ⟨b2, (zC (jI c.v (c.parts - 1))).cells, 78⟩ (off := 0) (zC (jI c.v (c.parts - 1))) Tryz.results174 (fun w hO => ⟨by rw [beh_high hp h1], hO.below⟩))))))
end
section
def cpL (s t : List UInt8) : List UInt8 := if zY s t = true then s.drop t.length else s
theorem pK : ∀ (t s : List UInt8), t.isPrefixOf s = zY s t
  | [], s => by simp [zY]
  | a :: t, [] => by simp [zY, List.isPrefixOf]
  | a :: t, b :: s => by
    have ih := pK t s
    unfold zY at ih ⊢
    rw [List.isPrefixOf, ih, List.length_cons, List.take_succ_cons]
    by_cases h : a = b
    · subst h; simp
    · simp [h, Ne.symm h]
theorem cutpre_any (s t : List UInt8) (w : World) : Calls Tryz.prog 107 #[.string (mkS s), .string (mkS t)] w fun e w' => e = .returned (.tuple #[.string (mkS (cpL s t)), .bool (zY s t)]) ∧ Below w.heap.size w w' :=
  (Tryz.strings_CutPrefix (mkS s) (mkS t) w).mono fun e w' ⟨he, hw⟩ => by
    subst hw
    refine ⟨?_, Below.refl _ _⟩
    rw [he, mk_data, mk_data]
    unfold Lib.trimPrefix Lib.hasPrefix cpL
    rw [pK]; rfl
theorem splitK_pcs : ∀ (k : Nat) (s : List UInt8), Lib.splitK [46] 0 k s = wH k s
  | 0, s => rfl
  | k + 1, s => by
    have hc := cutAt_cut 46 s
    have hge := Lib.index_ge s [46]
    unfold Lib.splitK wH
    rw [← hc]
    unfold Lib.cut
    by_cases h : Lib.index s [46] = -1
    · have h2 : ¬ 0 ≤ Lib.index s [46] := by omega
      simp [h]
    · have h2 : 0 ≤ Lib.index s [46] := by omega
      simp [h, h2, splitK_pcs k]
theorem nH : ∀ (k : Nat) (s : List UInt8), s.length ≤ k → wH k s = wH (k + 1) s
  | 0, s, h => by
    obtain rfl := List.eq_nil_of_length_eq_zero (Nat.le_zero.1 h)
    rfl
  | k + 1, s, h => by
    have hl := cutAt_len 46 s
    rw [wH]
    conv => rhs; rw [wH]
    cases hq : (yH 46 s).2.2 with
    | false => rw [if_neg Bool.false_ne_true, if_neg Bool.false_ne_true]
    | true =>
      rw [hq, if_pos rfl] at hl
      rw [if_pos rfl, if_pos rfl, nH k _ (by omega)]
theorem pcsK_min (s : List UInt8) : wH (min 3 (s.length + 1) - 1) s = wH 2 s := by
  by_cases h0 : s.length = 0
  · rw [h0, show min 3 (0 + 1) - 1 = 0 from rfl, nH 0 s (by omega), nH 1 s (by omega)]
  · by_cases h1 : s.length = 1
    · rw [h1, show min 3 (1 + 1) - 1 = 1 from rfl, nH 1 s (by omega)]
    · rw [show min 3 (s.length + 1) - 1 = 2 by omega]
theorem splitB_pcs (k : Nat) (s : List UInt8) : Lib.splitB ⟨#[46]⟩ 0 k (mkS s) = (wH k s).map mkS := by
  have h := Lib.splitB_data ⟨#[46]⟩ 0 k (mkS s)
  rw [mk_data, show (⟨#[46]⟩ : ByteArray).data.toList = [46] from rfl, splitK_pcs] at h
  rw [← h, List.map_map]
  refine ((List.map_congr_left fun x _ => ?_).trans (List.map_id _)).symm
  exact Lib.mk_data x
theorem split3_any (s : List UInt8) (W : World) (hs : s.length ≤ 1000000) :
    Calls Tryz.prog 59 #[.string (mkS s), .string ⟨#[46]⟩, .int .i64 0, .int .i64 3] W fun e w' => ∃ v' ob', e = .returned v' ∧ SlT v' (wH 2 s) ob' ∧ Own [] W w' ob' := by
  have hsz := yY s
  have hI : ∀ (x : ByteArray) (c : Array Value), x.size ≤ (mkS s).size → Calls Tryz.prog 106 #[.string x, .string ⟨#[46]⟩] (W.alloc (.cells c 9)) fun e w' => e = .returned (.int .i64 (Lib.indexB x ⟨#[46]⟩)) ∧ w' = W.alloc (.cells c 9) :=
    fun x c _ => (Tryz.strings_Index_one x 46 _).mono fun e w' ⟨he, hw⟩ => ⟨by rw [he, dI]; try rfl, hw⟩
  have hC : Calls Tryz.prog 105 #[.string (mkS s), .string ⟨#[46]⟩] W fun e w' => e = .returned (.int .i64 (Lib.countB (mkS s) ⟨#[46]⟩)) ∧ w' = W :=
    (Tryz.strings_Count_one (mkS s) 46 W).mono fun e w' ⟨he, hw⟩ => ⟨by rw [he]; show _ = Ending.returned (Value.int .i64 ((Lib.count (mkS s).data.toList [46] : Nat) : Int)); rw [Lib.count_one]; rfl, hw⟩
  have c := Any.strings_genSplit_core Tryz.lays221 (by kernel_rfl) (mkS s) ⟨#[46]⟩ 0 3 (min 3 ((mkS s).size + 1)) W (by omega) (by decide) (Nat.zero_le _) hI hC (by decide) (by decide) (by rw [if_neg (by decide)]; omega)
  rw [hsz, splitB_pcs, pcsK_min] at c
  obtain ⟨hl1, hl3⟩ := pcsK_len 2 s
  have hle : (wH 2 s).length ≤ min 3 (s.length + 1) := by
    have h := Lib.splitB_length_le ⟨#[46]⟩ 0 (min 3 (s.length + 1) - 1) (mkS s)
    rw [splitB_pcs, pcsK_min, List.length_map] at h
    omega
  rw [List.length_map] at c
  refine Calls.mono c fun e w' ⟨he, hw⟩ => ?_
  subst hw
  refine ⟨_, _, he, ⟨by rw [jP]; omega, .inr ⟨W.heap.size, min 3 (s.length + 1), _, rfl, rfl, hle, by unfold maxLen; omega, by rw [Lib.cellsOf_size (by rw [List.length_map]; exact hle), Nat.mul_one], ?_⟩⟩, (Own.start [] W).alloc _ _⟩
  unfold Lib.cellsOf
  rw [List.map_map, List.take_append_of_le_length (by rw [List.length_map]; omega), List.take_of_length_le (by rw [List.length_map]; omega)]
  rfl
end
end Go.Proofs.YtkljdpiaghepfaaGreatDoor
