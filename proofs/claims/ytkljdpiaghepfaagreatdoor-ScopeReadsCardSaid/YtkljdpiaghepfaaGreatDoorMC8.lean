/-
  What the statement's proof leans on: the ways of walking, mM mathematics, and what the program's functions return; each theorem says on what conditions.
-/
import Derived.Test.YtkljdpiaghepfaaGreatDoorMC7
set_option maxRecDepth 1000000
set_option maxHeartbeats 8000000
set_option linter.unusedVariables false
set_option linter.unusedSimpArgs false
set_option linter.unnecessarySimpa false
namespace Go.Proofs.YtkljdpiaghepfaaGreatDoor
open Go.RowKit

section
theorem splitn_any (s : List UInt8) (W : World) (hs : s.length ≤ 1000000) : Calls Tryz.prog 62 #[.string (mkS s), .string ⟨#[46]⟩, .int .i64 3] W fun e w' => ∃ v' ob', e = .returned v' ∧ SlT v' (wH 2 s) ob' ∧ Own [] W w' ob' := by
  refine Z2 (n := 11) Tryz.func62 rfl (ZO (Zv (.slice none 0 0) (ZR (Zv (.string (mkS s)) (Zv (.string ⟨#[46]⟩) (Zv (.int .i64 3) (Zr (k := 59) (args := #[.string (mkS s), .string ⟨#[46]⟩, .int .i64 0, .int .i64 3]) (fun v' L' => SlT v' (wH 2 s) L') (fun w hO => (split3_any s w hs).mono fun e w' ⟨v', ob', k1, k2, k3⟩ => ⟨v', ob', k1, k2, by simpa using Own.joinN hO k3⟩) (fun v1 o1 hr1 => ?_))))))))
  exact Zv (v1) (ZN (zB (ZF (v1) Tryz.results62 (fun w hO => ⟨v1, o1, rfl, hr1, hO⟩))))
theorem sgo_take {s r : List UInt8} {k : Nat} {op : Int} (h : sgo s k = (op, r)) (hb : zY s (zO ((k + 1 : Nat) : Int)) = true) (hl : ((mkS (cpL s (zO ((k + 1 : Nat) : Int)))).size : Int) < ((mkS r).size : Int)) : sgo s (k + 1) = (((k + 1 : Nat) : Int), cpL s (zO ((k + 1 : Nat) : Int))) := by
  rw [yY, yY] at hl
  unfold cpL at hl ⊢
  rw [if_pos hb] at hl ⊢
  unfold sgo
  rw [h, if_pos ⟨hb, by show _ < r.length; omega⟩]
theorem sgo_not {s r : List UInt8} {k : Nat} {op : Int} (h : sgo s k = (op, r)) (hb : zY s (zO ((k + 1 : Nat) : Int)) = false) : sgo s (k + 1) = (op, r) := by
  unfold sgo
  rw [h, if_neg (fun q => by rw [hb] at q; exact Bool.false_ne_true q.1)]
theorem sgo_long {s r : List UInt8} {k : Nat} {op : Int} (h : sgo s k = (op, r)) (hb : zY s (zO ((k + 1 : Nat) : Int)) = true) (hl : ¬ ((mkS (cpL s (zO ((k + 1 : Nat) : Int)))).size : Int) < ((mkS r).size : Int)) : sgo s (k + 1) = (op, r) := by
  rw [yY, yY] at hl
  unfold cpL at hl
  rw [if_pos hb] at hl
  unfold sgo
  rw [h, if_neg (fun q => hl (by have q2 : _ < r.length := q.2; omega))]
theorem ccut_any (s : List UInt8) (W : World) (hs : s.length ≤ 1000000) : Calls Tryz.prog 60 #[.string (mkS s)] W fun e w' => e = .returned (.tuple #[.int .i64 (sgo s 8).1, .string (mkS (sgo s 8).2)]) ∧ Below W.heap.size W w' := by
  refine Z2 (n := 33) Tryz.func60 rfl (ZO (Zv (.int .i64 0) (Zv (.string ⟨#[]⟩) (ZR (Zv (.string (mkS s)) (Zv (.int .i64 7) (Zv (.string (mkS s)) ?_)))))))
  refine ZN (z7 (ZO (Zv (.int .i64 1) (ZN (zL (yL (fun L f m => ∃ (k : Nat) (op : Int) (r : List UInt8) (j : Nat → Value), (k ≤ 8 ∧ sgo s k = (op, r)) ∧ L = [] ∧ f = xF j [(0, .string (mkS s)), (4, .int .i64 op), (5, .string (mkS r)), (6, .int .i64 ((k + 1 : Nat) : Int))] ∧ m = 8 - k) (8 - 0) ⟨0, _, _, _, ⟨by omega, rfl⟩, rfl, ZU, rfl⟩ ?_))))))
  rintro L f m ⟨k, op, r, j, hrel, rfl, rfl, rfl⟩
  have hkl := hrel.1
  refine z7 (ZO (Zv (.int .i64 ((k + 1 : Nat) : Int)) ?_))
  by_cases h1 : ((k + 1 : Nat) : Int) < 9
  · refine Zg h1 (ZY (ZB (z7 (zL (ZO (Zv (.string (mkS s)) (Zv (.int .i64 ((k + 1 : Nat) : Int)) ?_)))))))
    refine Zc (k := 108) (args := #[.int .i64 ((k + 1 : Nat) : Int)]) (.string (mkS (zO ((k + 1 : Nat) : Int)))) (fun w _ => csign_any _ w) (Zc (k := 107) (args := #[.string (mkS s), .string (mkS (zO ((k + 1 : Nat) : Int)))]) (.tuple #[.string (mkS (cpL s (zO ((k + 1 : Nat) : Int)))), .bool (zY s (zO ((k + 1 : Nat) : Int)))]) (fun w _ => cutpre_any s (zO ((k + 1 : Nat) : Int)) w) (Zv (.tuple #[.string (mkS (cpL s (zO ((k + 1 : Nat) : Int)))), .bool (zY s (zO ((k + 1 : Nat) : Int)))]) (Zv (.string (mkS (cpL s (zO ((k + 1 : Nat) : Int))))) (Zv (.bool (zY s (zO ((k + 1 : Nat) : Int)))) (Zv (.string (mkS (cpL s (zO ((k + 1 : Nat) : Int))))) (Zv (.bool (zY s (zO ((k + 1 : Nat) : Int)))) (ZR (Zv (.bool (zY s (zO ((k + 1 : Nat) : Int)))) ?_))))))))
    refine Zv (.bool (zY s (zO ((k + 1 : Nat) : Int)))) ?_
    cases h2 : zY s (zO ((k + 1 : Nat) : Int)) with
    | true =>
      refine Zv (.string (mkS (cpL s (zO ((k + 1 : Nat) : Int))))) (Zv (.int .i64 ((mkS (cpL s (zO ((k + 1 : Nat) : Int)))).size)) (Zv (.string (mkS r)) (Zv (.int .i64 ((mkS r).size)) ?_)))
      by_cases h3 : ((mkS (cpL s (zO ((k + 1 : Nat) : Int)))).size : Int) < (mkS r).size
      · refine Zg h3 (Zv Z4 (ZY (zA (Zv (.int .i64 ((k + 1 : Nat) : Int)) (Zv (.string (mkS (cpL s (zO ((k + 1 : Nat) : Int))))) (Zv (.int .i64 ((k + 1 : Nat) : Int)) (Zv (.string (mkS (cpL s (zO ((k + 1 : Nat) : Int))))) (zP (zQ ?_)))))))))
        exact z8 (zA (Zv (.int .i64 ((k + 1 : Nat) : Int)) (Zu (k := .i64) (((k + 1 + 1 : Nat) : Int)) (IntWalk.i64_in _ (by omega)) (Zv (.int .i64 ((k + 1 + 1 : Nat) : Int)) (zP (zT (m' := 8 - (k + 1)) (by omega) ⟨k + 1, ((k + 1 : Nat) : Int), cpL s (zO ((k + 1 : Nat) : Int)), _, ⟨by omega, sgo_take hrel.2 h2 h3⟩, rfl, ZU, rfl⟩))))))
      refine Zh h3 (Zv Z5 (ZX (yC (zQ (z8 (zA (Zv (.int .i64 ((k + 1 : Nat) : Int)) (Zu (k := .i64) (((k + 1 + 1 : Nat) : Int)) (IntWalk.i64_in _ (by omega)) (Zv (.int .i64 ((k + 1 + 1 : Nat) : Int)) ?_)))))))))
      exact zP (zT (m' := 8 - (k + 1)) (by omega) ⟨k + 1, op, r, _, ⟨by omega, sgo_long hrel.2 h2 h3⟩, rfl, ZU, rfl⟩)
    | false =>
      refine Zk (Zk (Zk (Zk (Zk (Zv Z5 (ZX (yC (zQ (z8 ?_)))))))))
      exact zA (Zv (.int .i64 ((k + 1 : Nat) : Int)) (Zu (k := .i64) (((k + 1 + 1 : Nat) : Int)) (IntWalk.i64_in _ (by omega)) (Zv (.int .i64 ((k + 1 + 1 : Nat) : Int)) (zP (zT (m' := 8 - (k + 1)) (by omega) ⟨k + 1, op, r, _, ⟨by omega, sgo_not hrel.2 h2⟩, rfl, ZU, rfl⟩)))))
  refine Zh h1 (ZX (y5 (zD (zN (zH (z8 (ZO (Zv (.int .i64 op) ?_))))))))
  exact Zv (.string (mkS r)) (Zv (.int .i64 op) (Zv (.string (mkS r)) (ZN (zB (ZG (.int .i64 op) (.string (mkS r)) Tryz.results60 (fun w hO => ⟨by have hk8 : k = 8 := (by omega); subst hk8; rw [hrel.2], hO.below⟩))))))
theorem nth_ok {v : Ver} (h : v.may = true) {k : Nat} (hk : k < 3) : yN (kA v.maj v.min v.pat k) = true := by
  obtain ⟨m1, m2, m3⟩ := vV h
  have hj : k = 0 ∨ k = 1 ∨ k = 2 := by omega
  rcases hj with rfl | rfl | rfl
  · exact m1
  · exact m2
  · exact m3
theorem nth_in {v : Ver} (h : v.may = true) {k : Nat} (hk : k < 3) : -9223372036854775808 ≤ kA v.maj v.min v.pat k ∧ kA v.maj v.min v.pat k ≤ 9223372036854775807 := by
  have q := nth_ok h hk
  unfold yN at q; simp at q; omega
theorem nums_next (v : Ver) {k : Nat} (hk : k < 3) : yK v (k + 1) = yK v k ++ [Lib.itoa (kA v.maj v.min v.pat k)] := by
  have hj : k = 0 ∨ k = 1 ∨ k = 2 := by omega
  rcases hj with rfl | rfl | rfl <;> rfl
theorem own_dropP {M : List Nat} {W w : World} {x y z : Blk} {A : List Blk} (h : Own M W w ([x, y, z] ++ A ++ [])) : Own M W w (y :: z :: A) := h.sublist (by rw [List.append_nil]; exact List.sublist_append_right [x] _)
theorem star_ne {l : List (List UInt8)} : yG 46 (l ++ [[42]]) ≠ [] := fun e => by
  have h := last_join [] l
  rw [show ([] : List UInt8) ++ [42] = [42] from rfl, e] at h
  cases h
theorem nums_ne {c : Co} (h : c.may = true) (hn : ¬ c.op = 9) : yG 46 (yK c.v c.parts.toNat) ≠ [] := fun e => by
  obtain ⟨d, r, e2, hd⟩ := dX h hn
  unfold Co.rest at e2
  rw [if_neg hn, e, List.nil_append] at e2
  unfold mE at e2
  split at e2
  · cases e2
  · injection e2 with e3 _
    rw [← e3] at hd
    revert hd; decide
theorem text_pre2 {c : Co} (h9 : ¬ c.op = 9) (hp : ¬ c.v.pre = []) : zO c.op ++ yG 46 (yK c.v c.parts.toNat) ++ ([45] ++ c.v.pre) = c.text := by
  rw [← text_pre h9 hp]; simp
theorem star_text2 {c : Co} (h9 : c.op = 9) : zO c.op ++ yG 46 (yK c.v c.parts.toNat ++ [[42]]) = c.text := by
  rw [← star_text h9, h9]; rfl
theorem star_pre {c : Co} (h : c.may = true) (h9 : c.op = 9) : c.v.pre = [] := by
  obtain ⟨_, _, _, k9, _, hp, _⟩ := Co.facts h
  have := k9 h9
  exact hp.resolve_left (by omega)
theorem tL (c : Co) (W : World) (hc : c.short) (ht : HasTab W) : Calls Tryz.prog 64 #[coV c] W fun e w' => e = .returned (.string (mkS c.print)) ∧ Below W.heap.size W w' := by
  refine Z2 (n := 50) Tryz.func64 rfl (ZO (Zb (coV c) (fun b1 => Zv (.string ⟨#[]⟩) (ZN (z7 (ZO (Zl 0 ⟨b1, (coV c).cells, 51⟩ (off := 0) (coV c) (Zc (k := 73) (args := #[coV c]) (.bool c.may) (fun w _ => cMay_any c w hc) ?_))))))))
  cases h1 : c.may with
  | true =>
    have hcm := h1
    have hcv := (Co.facts hcm).2.1
    have hpn := parts_nat hcm
    have hpr := hpn.2
    have hpc := hpn.1
    refine Zv Z5 (ZX (ZB (ZO (Zv (.slice none 0 0) (ZN (z7 ?_))))))
    refine z7 (uF (by kernel_rfl) (ZT 0 [] _ (Zp b1 2) (zG (zG zI)) rfl (ZL 1 [] _ 0 ⟨b1, (coV c).cells, 51⟩ (off := 2) (.agg (ZP c.v)) (zG (zG zI)) rfl rfl (ZT 3 [] _ (Zp b1 1) (zG (zG zI)) rfl (ZL 4 [] _ 0 ⟨b1, (coV c).cells, 51⟩ (off := 1) (.int .i64 c.parts) (zG (zG zI)) rfl rfl (ZT 7 [] _ (.int .i64 0) (zG (zG zI)) rfl (Zz 2 (g6 _ (k := 111) (args := #[.agg (ZP c.v)]) (fun v' L' => ∃ ob', L' = ob' ++ ([] ++ ([⟨b1, (coV c).cells, 51⟩])) ∧ ∃ g, v' = .slice (some ⟨g, 0, none⟩) 3 3 ∧ ob' = [⟨g, jE c.v, 3⟩]) rfl (by kernel_rfl) (fun _ => by kernel_rfl) (fun w hO => (nV c.v w).mono fun e w' ⟨v', ob', k1, k2, k3⟩ => ⟨v', _, k1, ⟨ob', rfl, k2⟩, Own.joinN hO k3⟩) (fun v' L' ⟨ob', e, _⟩ w hO => by subst e; exact Own.sub [] (Own.sub ob' hO)) (fun v1 L2 hv2 => ?_)))))))))
    obtain ⟨o1, rfl, hr1⟩ := hv2
    obtain ⟨g1, rfl, ho1⟩ := hr1
    refine vD (L' := (o1 ++ ([] : List Blk)) ++ ([⟨b1, (coV c).cells, 51⟩])) (List.append_assoc _ _ _).symm (uK 5 (o1 ++ ([] : List Blk)) _ (.slice (some ⟨g1, 0, none⟩) c.parts.toNat 3) rfl (by kernel_rfl) (by kernel_rfl) (by kernel_rfl) (zG (zG zI)) (by kernel_rfl) (fun w _ => dT (b := g1) (off := 0) (n := 3) (c := 3) (k := .i64) (j := c.parts) (e := 3) (sz := 1) rfl (by kernel_rfl) (by kernel_rfl) (by kernel_rfl) (by kernel_rfl) (by omega) (by omega) w) (ZT 6 (o1 ++ ([] : List Blk)) _ (.int .i64 (c.parts.toNat : Int)) (zG (zG zI)) rfl (ZZ (z8 (zL (qE (L' := ⟨g1, jE c.v, 3⟩ :: ⟨b1, (coV c).cells, 51⟩ :: []) (by rw [ho1]; rfl) (yL (fun L f m => ∃ (k : Nat) (va : Value) (oa : List Blk) (j : Nat → Value), (k ≤ c.parts.toNat ∧ SlT va (yK c.v k) oa) ∧ L = ⟨g1, jE c.v, 3⟩ :: ⟨b1, (coV c).cells, 51⟩ :: oa ∧ f = xF j [(1, Zp b1 0), (3, va), (15, .slice (some ⟨g1, 0, none⟩) c.parts.toNat 3), (16, .int .i64 (c.parts.toNat : Int)), (17, .int .i64 (k : Int))] ∧ m = c.parts.toNat - k) (c.parts.toNat - 0) ⟨0, _, [], _, ⟨Nat.zero_le _, Sl.nil _ _⟩, rfl, ZU, rfl⟩ ?_)))))))
    rintro L f m ⟨k, va, oa, j, hrel, rfl, rfl, rfl⟩
    have hkl := hrel.1
    refine z7 (zA ?_)
    by_cases h2 : (k : Int) < (c.parts.toNat : Int)
    · refine Zg h2 (ZN (z7 (Zt (ZB (z7 (zL (ZO (zU (Zp g1 (0 + k)) (by kernel_rfl) (ZV (b := g1) (off := 0) (n := c.parts.toNat) (c := 3) (k := .i64) (j := (k : Int)) (e := 3) (sz := 1)) ?_))))))))
      refine jB 0 ⟨g1, jE c.v, 3⟩ (off := 0 + k) (.int .i64 (kA c.v.maj c.v.min c.v.pat k)) (by kernel_rfl) rfl (by kernel_rfl) (by kernel_rfl) (by rw [Nat.zero_add]; exact rd_nums c.v k (by omega)) (Zv (.int .i64 (kA c.v.maj c.v.min c.v.pat k)) (ZN (zA (Zv (va) (Zv (.int .i64 (kA c.v.maj c.v.min c.v.pat k)) (Zc (k := 112) (args := #[.int .i64 (kA c.v.maj c.v.min c.v.pat k)]) (.string (mkS (Lib.itoa (kA c.v.maj c.v.min c.v.pat k)))) (fun w hO => digits_mk _ (nth_in hcv (show k < 3 by omega)).1 (nth_in hcv (show k < 3 by omega)).2 w (ht.on hO.below)) (qC 9 #[.string (mkS (Lib.itoa (kA c.v.maj c.v.min c.v.pat k)))] (by kernel_rfl) rfl (fun _ => by kernel_rfl) (fun b2 => ?_))))))))
      obtain ⟨i0, z0, e1, e2, e3, e4, e5⟩ := bI
      have hlk : (yK c.v k).length ≤ 3 := by have := wI c.v k; omega
      refine xT (L' := [⟨b2, #[.string (mkS (Lib.itoa (kA c.v.maj c.v.min c.v.pat k)))], 9⟩, ⟨g1, jE c.v, 3⟩, ⟨b1, (coV c).cells, 51⟩] ++ oa ++ []) (List.append_nil _).symm (kR (sz := 1) (by kernel_rfl) rfl Tryz.underlying58 e1 e2 e3 e4 (by kernel_rfl) hrel.2 (a := ⟨b2, 0, none⟩) (m := 1) (c := 1) (news := qN [Lib.itoa (kA c.v.maj c.v.min c.v.pat k)]) (by kernel_rfl) rfl (fun w hO j u hj => ?_) (str_cells _) (by unfold maxLen; omega) (by rw [e5]; omega) (fun va2 oa2 hva0 => ?_))
      · rw [yW, cell_of_row w b2 (0 + j) (qN [Lib.itoa (kA c.v.maj c.v.min c.v.pat k)]).toArray 9 _ (hO.held ⟨b2, (qN [Lib.itoa (kA c.v.maj c.v.min c.v.pat k)]).toArray, 9⟩ (List.mem_append_left _ (List.mem_append_left _ (List.mem_cons_self ..))))]; simpa using hj
      have hva2 : SlT va2 ((yK c.v k) ++ [Lib.itoa (kA c.v.maj c.v.min c.v.pat k)]) oa2 := hva0.to (by rw [List.length_append]; rfl) (by unfold qN; rw [List.map_append])
      exact Zv (va2) (zP (zQ (z8 (zA (Zu (k := .i64) (((k + 1 : Nat) : Int)) (IntWalk.i64_in _ (by omega)) (Zv (.int .i64 ((k + 1 : Nat) : Int)) (zP (xM (L' := ⟨g1, jE c.v, 3⟩ :: ⟨b1, (coV c).cells, 51⟩ :: oa2) (fun w hO => own_dropP hO) (zT (m' := c.parts.toNat - (k + 1)) (by omega) ⟨k + 1, va2, oa2, _, ⟨by omega, by rw [nums_next c.v (by omega)]; exact hva2⟩, rfl, ZU, rfl⟩)))))))))
    have hkq : k = c.parts.toNat := by omega
    have hvk : SlT va (yK c.v c.parts.toNat) oa := hkq ▸ hrel.2
    refine Zh h2 (ZN (z7 (Zf (y5 (zD (zN (zH (z8 (z7 (z7 ?_))))))))))
    refine zA (Zv (Zp b1 0) (Zl 1 ⟨b1, (coV c).cells, 51⟩ (off := 0) (.int .i64 c.op) ?_))
    by_cases h3 : (c.op : Int) = 9
    · refine Zg h3 (ZY (zA (Zv (va) (qC 9 #[.string ⟨#[42]⟩] (by kernel_rfl) rfl (fun _ => by kernel_rfl) (fun b2 => ?_)))))
      obtain ⟨i0, z0, e1, e2, e3, e4, e5⟩ := bI
      have hlk : (yK c.v c.parts.toNat).length ≤ 3 := by have := wI c.v c.parts.toNat; omega
      refine xT (L' := [⟨b2, #[.string ⟨#[42]⟩], 9⟩, ⟨g1, jE c.v, 3⟩, ⟨b1, (coV c).cells, 51⟩] ++ oa ++ []) (List.append_nil _).symm (kR (sz := 1) (by kernel_rfl) rfl Tryz.underlying58 e1 e2 e3 e4 (by kernel_rfl) hvk (a := ⟨b2, 0, none⟩) (m := 1) (c := 1) (news := qN [[42]]) (by kernel_rfl) rfl (fun w hO j u hj => ?_) (str_cells _) (by unfold maxLen; omega) (by rw [e5]; omega) (fun va2 oa2 hva0 => ?_))
      · rw [yW, cell_of_row w b2 (0 + j) (qN [[42]]).toArray 9 _ (hO.held ⟨b2, (qN [[42]]).toArray, 9⟩ (List.mem_append_left _ (List.mem_append_left _ (List.mem_cons_self ..))))]; simpa using hj
      have hva2 : SlT va2 ((yK c.v c.parts.toNat) ++ [[42]]) oa2 := hva0.to (by rw [List.length_append]; rfl) (by unfold qN; rw [List.map_append])
      refine Zv (va2) (zP (xM (L' := ⟨g1, jE c.v, 3⟩ :: ⟨b1, (coV c).cells, 51⟩ :: oa2) (fun w hO => own_dropP hO) (z8 (ZO (Zv (Zp b1 0) (Zl 1 ⟨b1, (coV c).cells, 51⟩ (off := 0) (.int .i64 c.op) (Zc (k := 108) (args := #[.int .i64 c.op]) (.string (mkS (zO c.op))) (fun w _ => csign_any c.op w) (Zv (va2) (Zc (k := 113) (args := #[va2, .int .u8 46]) (.string (mkS (yG 46 (yK c.v c.parts.toNat ++ [[42]])))) (fun w hO => join_any va2 _ 46 w (SlT.readsT hva2 hO (fun x hx => by simp [hx])) (Nat.le_trans (uP hcv _) (by decide)) (by rw [List.length_append]; have := wI c.v c.parts.toNat; simp; omega) star_ne) (zU (.string (mkS ((zO c.op) ++ (yG 46 (yK c.v c.parts.toNat ++ [[42]]))))) (by kernel_rfl) (yZ (a := (zO c.op)) (b := (yG 46 (yK c.v c.parts.toNat ++ [[42]]))) rfl (by kernel_rfl) (by kernel_rfl) (by have q1 := uQ c.op; have q2 := vL hcv c.parts.toNat; have q4 := uP hcv c.parts.toNat; have q3 := hc.1; first | omega | (simp only [List.length_append, List.length_cons, List.length_nil]; omega))) ?_))))))))))
      refine Zv (.string (mkS ((zO c.op) ++ (yG 46 (yK c.v c.parts.toNat ++ [[42]]))))) (ZN (z7 (ZO (Zv (Zp b1 2) (Zv (Zp b1 5) (Zl 1 ⟨b1, (coV c).cells, 51⟩ (off := 5) (.string (mkS c.v.pre)) (zU Z5 (by kernel_rfl) (yV (a := c.v.pre) (b := ([])) rfl (by kernel_rfl) (by kernel_rfl) (decide_eq_true (star_pre hcm h3))) (zP (z8 ?_)))))))))
      exact Zf (ZB (ZO (Zv (.string (mkS ((zO c.op) ++ (yG 46 (yK c.v c.parts.toNat ++ [[42]]))))) (Zv (.string (mkS ((zO c.op) ++ (yG 46 (yK c.v c.parts.toNat ++ [[42]]))))) (ZN (zB (ZF (.string (mkS ((zO c.op) ++ (yG 46 (yK c.v c.parts.toNat ++ [[42]]))))) Tryz.results64 (fun w hO => ⟨by rw [qW hcm, ← star_text2 h3], hO.below⟩))))))))
    refine Zh h3 (ZX (ZB (ZO (Zv (Zp b1 0) (Zl 1 ⟨b1, (coV c).cells, 51⟩ (off := 0) (.int .i64 c.op) (Zc (k := 108) (args := #[.int .i64 c.op]) (.string (mkS (zO c.op))) (fun w _ => csign_any c.op w) (Zv (va) ?_)))))))
    refine Zc (k := 113) (args := #[va, .int .u8 46]) (.string (mkS (yG 46 (yK c.v c.parts.toNat)))) (fun w hO => join_any va _ 46 w (SlT.readsT hvk hO (fun x hx => by simp [hx])) (Nat.le_trans (vL hcv _) (by decide)) (Nat.le_trans (wI _ _) (by decide)) (nums_ne hcm h3)) (zU (.string (mkS ((zO c.op) ++ (yG 46 (yK c.v c.parts.toNat))))) (by kernel_rfl) (yZ (a := (zO c.op)) (b := (yG 46 (yK c.v c.parts.toNat))) rfl (by kernel_rfl) (by kernel_rfl) (by have q1 := uQ c.op; have q2 := vL hcv c.parts.toNat; have q4 := uP hcv c.parts.toNat; have q3 := hc.1; first | omega | (simp only [List.length_append, List.length_cons, List.length_nil]; omega))) (Zv (.string (mkS ((zO c.op) ++ (yG 46 (yK c.v c.parts.toNat))))) (ZN (z7 (ZO (Zv (Zp b1 2) (Zv (Zp b1 5) (Zl 1 ⟨b1, (coV c).cells, 51⟩ (off := 5) (.string (mkS c.v.pre)) ?_))))))))
    by_cases h4 : (c.v.pre : List UInt8) = []
    · refine zU Z5 (by kernel_rfl) (yV (a := c.v.pre) (b := ([])) rfl (by kernel_rfl) (by kernel_rfl) (decide_eq_true (h4))) (ZX (ZB (ZO (Zv (.string (mkS ((zO c.op) ++ (yG 46 (yK c.v c.parts.toNat))))) (Zv (.string (mkS ((zO c.op) ++ (yG 46 (yK c.v c.parts.toNat))))) (zP (z8 ?_)))))))
      exact zB (ZF (.string (mkS ((zO c.op) ++ (yG 46 (yK c.v c.parts.toNat))))) Tryz.results64 (fun w hO => ⟨by rw [qW hcm, ← text_bare h3 h4], hO.below⟩))
    refine zU Z4 (by kernel_rfl) (yV (a := c.v.pre) (b := ([])) rfl (by kernel_rfl) (by kernel_rfl) (decide_eq_false (h4))) (ZY (zA (Zv (.string (mkS ((zO c.op) ++ (yG 46 (yK c.v c.parts.toNat))))) (Zv (Zp b1 2) (Zv (Zp b1 5) (Zl 1 ⟨b1, (coV c).cells, 51⟩ (off := 5) (.string (mkS c.v.pre)) (zU (.string (mkS ([45] ++ c.v.pre))) (by kernel_rfl) (yZ (a := [45]) (b := c.v.pre) rfl (by kernel_rfl) (by kernel_rfl) (by have q1 := uQ c.op; have q2 := vL hcv c.parts.toNat; have q4 := uP hcv c.parts.toNat; have q3 := hc.1; first | omega | (simp only [List.length_append, List.length_cons, List.length_nil]; omega))) (zU (.string (mkS (((zO c.op) ++ (yG 46 (yK c.v c.parts.toNat))) ++ ([45] ++ c.v.pre)))) (by kernel_rfl) (yZ (a := ((zO c.op) ++ (yG 46 (yK c.v c.parts.toNat)))) (b := ([45] ++ c.v.pre)) rfl (by kernel_rfl) (by kernel_rfl) (by have q1 := uQ c.op; have q2 := vL hcv c.parts.toNat; have q4 := uP hcv c.parts.toNat; have q3 := hc.1; first | omega | (simp only [List.length_append, List.length_cons, List.length_nil]; omega))) (Zv (.string (mkS (((zO c.op) ++ (yG 46 (yK c.v c.parts.toNat))) ++ ([45] ++ c.v.pre)))) ?_)))))))))
    exact ZR (Zv (.string (mkS (((zO c.op) ++ (yG 46 (yK c.v c.parts.toNat))) ++ ([45] ++ c.v.pre)))) (Zv (.string (mkS (((zO c.op) ++ (yG 46 (yK c.v c.parts.toNat))) ++ ([45] ++ c.v.pre)))) (ZN (zB (ZF (.string (mkS (((zO c.op) ++ (yG 46 (yK c.v c.parts.toNat))) ++ ([45] ++ c.v.pre)))) Tryz.results64 (fun w hO => ⟨by rw [qW hcm, ← text_pre2 h3 h4], hO.below⟩))))))
  | false =>
    refine Zv Z4 (ZY (ZO (Zv (.string ⟨#[]⟩) (ZN (zB (z6 (ZF (.string ⟨#[]⟩) Tryz.results64 ?_)))))))
    exact fun w hO => ⟨by unfold Co.print; simp [h1]; rfl, hO.below⟩
end
section
theorem unshare_any (A : Option Addr) (cap : Nat) (l : List Sp) (ob : List Blk) (W : World) (hv : SlS (.slice A l.length cap) l ob) (hO : Own (ob.map Blk.b) W W ob) (hn : l.length ≤ 1000000) (hl : x8 l) :
    Calls Tryz.prog 132 #[.slice A l.length cap] W fun e w' => ∃ ob', e = .returned (.slice A l.length cap) ∧ SlS (.slice A l.length cap) l ob' ∧ Own (ob.map Blk.b) W w' ob' := by
  unfold SlS at hv ⊢
  refine nW (n := 39) hO Tryz.func132 rfl (by kernel_rfl) (by kernel_rfl) (ZO (Zv (.slice none 0 0) (ZN (z7 (ZO (Zv (.slice A l.length cap) (Zv (.int .i64 (l.length : Int)) (Zv (.int .i64 0) ?_))))))))
  refine ZN (zL (qE (L' := ob ++ []) (List.append_nil _).symm (yL (fun L f m => ∃ (k : Nat) (oc : List Blk) (j : Nat → Value), (k ≤ l.length ∧ Sl 80 14 (.slice A l.length cap) l.length (l.flatMap yR) oc) ∧ L = oc ++ [] ∧ f = xF j [(0, .slice A l.length cap), (5, .slice A l.length cap), (6, .int .i64 (l.length : Int)), (7, .int .i64 (k : Int))] ∧ m = l.length - k) (l.length - 0) ⟨0, ob, _, ⟨Nat.zero_le _, hv⟩, rfl, ZU, rfl⟩ ?_)))
  rintro L f m ⟨k, oc, j, hrel, rfl, rfl, rfl⟩
  have hkl := hrel.1
  refine z7 (zA ?_)
  by_cases h1 : (k : Int) < (l.length : Int)
  · have hk : k < l.length := by omega
    obtain ⟨g, cur, hA, rfl, hcap, hmax, hsz, hcur⟩ := hrel.2.block (by omega)
    obtain ⟨s, hs⟩ : ∃ s, l[k] = s := ⟨_, rfl⟩
    have hsk : s.short := hs ▸ hl l[k] (List.getElem_mem hk)
    have hset : l.set k s = l := by rw [← hs]; exact List.set_getElem_self _
    refine xT (L' := [⟨g, cur, 80⟩]) (List.append_nil _) (Zg h1 (ZN (z7 (Zt (ZB (z7 (zL (z7 (zA ?_)))))))))
    refine Zv (.int .i64 (k : Int)) (Zv (.int .i64 (k : Int)) (ZR (Zv (.slice A l.length cap) (Zv (.int .i64 (k : Int)) (zU (Zp g (k * 14)) (by kernel_rfl) (qJ (b := g) (off := 0) (c := cap) (n := l.length) (k := .i64) (j := (k : Int)) (e := 80) (sz := 14) rfl (by kernel_rfl) hA (by kernel_rfl) (by kernel_rfl) (by kernel_rfl) (by omega) (by omega) (by show 0 + k * 14 = k * 14; omega)) (Zv (Zp g (k * 14)) (zP (z8 ?_))))))))
    refine ZO (Zv (Zp g (k * 14)) (Zv (Zp g (k * 14)) (Zv (Zp g (k * 14)) (Zv (Zp g (k * 14 + 0)) (Zv (Zp g (k * 14 + 1)) (Zv (Zp g (k * 14 + 4)) (jB 0 ⟨g, cur, 80⟩ (off := k * 14 + 4) (.string (mkS s.lo.v.pre)) (by kernel_rfl) rfl (by kernel_rfl) (by kernel_rfl) (x6 y9 hcur k 4 (by omega) (by omega) _ (by rw [hs]; kernel_rfl)) (Zc (k := 65) (args := #[.string (mkS s.lo.v.pre)]) (.string (mkS s.lo.v.pre)) (fun w _ => uZ (mkS s.lo.v.pre) w (by rw [yY]; have := hsk.1.1; omega)) (Zv (Zp g (k * 14)) (Zv (Zp g (k * 14 + 0)) ?_))))))))))
    refine Zv (Zp g (k * 14 + 1)) (Zv (Zp g (k * 14 + 4)) (tW 0 ⟨g, cur, 80⟩ (off := k * 14 + 4) (.string (mkS s.lo.v.pre)) 1 (by kernel_rfl) rfl rfl (by kernel_rfl) (by kernel_rfl) (by kernel_rfl) (by kernel_rfl) (by kernel_rfl) (by show k * 14 + 4 + 1 ≤ cur.size; omega) (by kernel_rfl) ?_))
    have hse2 := fK y9 hcur k 4 (by omega) (Value.string (mkS s.lo.v.pre)).cells s (show 4 + 1 ≤ 14 by decide) (by rw [hs]; rfl)
    rw [hset] at hse2
    obtain ⟨cur2, hc2⟩ : ∃ x, x = kO cur (k * 14 + 4) (Value.string (mkS s.lo.v.pre)).cells := ⟨_, rfl⟩
    rw [← hc2] at hse2
    refine xT (L' := [⟨g, cur2, 80⟩]) (by rw [hc2]; rfl) ?_
    have hcur2 := hse2.1
    have hsz2 : cur2.size = cap * 14 := by rw [hse2.2]; exact hsz
    refine ZN (zA (Zv (Zp g (k * 14)) (Zv (Zp g (k * 14)) (Zv (Zp g (k * 14)) (Zv (Zp g (k * 14 + 7)) (Zv (Zp g (k * 14 + 8)) (Zv (Zp g (k * 14 + 11)) (jB 0 ⟨g, cur2, 80⟩ (off := k * 14 + 11) (.string (mkS s.hi.v.pre)) (by kernel_rfl) rfl (by kernel_rfl) (by kernel_rfl) (x6 y9 hcur2 k 11 (by omega) (by omega) _ (by rw [hs]; kernel_rfl)) (Zc (k := 65) (args := #[.string (mkS s.hi.v.pre)]) (.string (mkS s.hi.v.pre)) (fun w _ => uZ (mkS s.hi.v.pre) w (by rw [yY]; have := hsk.2.1; omega)) (Zv (Zp g (k * 14)) ?_))))))))))
    refine Zv (Zp g (k * 14 + 7)) (Zv (Zp g (k * 14 + 8)) (Zv (Zp g (k * 14 + 11)) (tW 0 ⟨g, cur2, 80⟩ (off := k * 14 + 11) (.string (mkS s.hi.v.pre)) 1 (by kernel_rfl) rfl rfl (by kernel_rfl) (by kernel_rfl) (by kernel_rfl) (by kernel_rfl) (by kernel_rfl) (by show k * 14 + 11 + 1 ≤ cur2.size; omega) (by kernel_rfl) ?_)))
    have hse3 := fK y9 hcur2 k 11 (by omega) (Value.string (mkS s.hi.v.pre)).cells s (show 11 + 1 ≤ 14 by decide) (by rw [hs]; rfl)
    rw [hset] at hse3
    obtain ⟨cur3, hc3⟩ : ∃ x, x = kO cur2 (k * 14 + 11) (Value.string (mkS s.hi.v.pre)).cells := ⟨_, rfl⟩
    rw [← hc3] at hse3
    refine xT (L' := [⟨g, cur3, 80⟩]) (by rw [hc3]; rfl) ?_
    have hcur3 := hse3.1
    have hsz3 : cur3.size = cap * 14 := by rw [hse3.2]; exact hsz2
    exact zP (zQ (z8 (zA (Zu (k := .i64) (((k + 1 : Nat) : Int)) (IntWalk.i64_in _ (by omega)) (Zv (.int .i64 ((k + 1 : Nat) : Int)) (zP (zT (m' := l.length - (k + 1)) (by omega) ⟨k + 1, [⟨g, cur3, 80⟩], _, ⟨by omega, by rw [kU y9], .inr ⟨g, cap, _, by rw [hA], rfl, hcap, hmax, hsz3, hcur3⟩⟩, rfl, ZU, rfl⟩)))))))
  refine Zh h1 (ZN (z7 (Zf (y5 (zD (zN (zH (z8 (z7 (zA ?_))))))))))
  exact Zv (.slice A l.length cap) (Zv (.slice A l.length cap) (ZN (zB (ZF (.slice A l.length cap) Tryz.results132 (fun w hO => ⟨oc, rfl, hrel.2, by simpa using hO⟩)))))
end
section
theorem p5 {l : List Sp} {c d : Cu} (hl : x8 l) (hc : c.short) (hd : d.short) : x8 (qG l c d) := by
  unfold qG
  split
  · intro x hx
    rcases List.mem_append.1 hx with h | h
    · exact hl x h
    · obtain rfl : x = _ := by simpa using h
      exact ⟨hc, hd⟩
  · exact hl
theorem add_any (A : Option Addr) (cap : Nat) (l : List Sp) (ob : List Blk) (c d : Cu) (W : World) (hv : SlS (.slice A l.length cap) l ob) (hO : Own (ob.map Blk.b) W W ob) (hn : l.length ≤ 1000000) (hl : x8 l) (hc : c.short) (hd : d.short) :
    Calls Tryz.prog 131 #[.slice A l.length cap, zC c, zC d] W fun e w' => ∃ v' ob', e = .returned v' ∧ SlS v' (qG l c d) ob' ∧ Own (ob.map Blk.b) W w' ob' := by
  unfold SlS at hv ⊢
  refine nW (n := 19) hO Tryz.func131 rfl (by kernel_rfl) (by kernel_rfl) (ZO (Zb (zC c) (fun b1 => Zb (zC d) (fun b2 => Zv (.slice none 0 0) (ZR (Zl 1 ⟨b1, (zC c).cells, 78⟩ (off := 0) (zC c) (Zl 0 ⟨b2, (zC d).cells, 78⟩ (off := 0) (zC d) ?_)))))))
  refine Zv (.agg (ZJ2 c d)) (Za (.agg Z6) (fun b3 => Zs 0 ⟨b3, Z6, 80⟩ (off := 0) (.agg (ZJ2 c d)) (ZN (z7 (ZO (Zl 0 ⟨b3, (ZJ2 c d), 80⟩ (off := 0) (.agg (ZJ2 c d)) (Zc (k := 139) (args := #[.agg (ZJ2 c d)]) (.bool ((Sp.mk c d).may)) (fun w _ => d5 ⟨c, d⟩ w ⟨hc, hd⟩) ?_)))))))
  cases h1 : (Sp.mk c d).may with
  | true =>
    refine Zv Z5 (ZX (ZB (ZO (Zv (.slice A l.length cap) (Zl 0 ⟨b3, (ZJ2 c d), 80⟩ (off := 0) (.agg (ZJ2 c d)) (qC 80 (ZJ2 c d) (by kernel_rfl) rfl (fun _ => by kernel_rfl) (fun b4 => xT (L' := [⟨b4, (ZJ2 c d), 80⟩, ⟨b3, (ZJ2 c d), 80⟩, ⟨b2, (zC d).cells, 78⟩, ⟨b1, (zC c).cells, 78⟩] ++ ob ++ []) (by rw [List.append_nil]; rfl) ?_)))))))
    obtain ⟨i, z, e1, e2, e3, e4, e5⟩ := kX
    refine kR (sz := 14) (by kernel_rfl) rfl Tryz.underlying29 e1 e2 e3 e4 (by kernel_rfl) hv (a := ⟨b4, 0, none⟩) (m := 1) (c := 1) (news := yR ⟨c, d⟩) (by kernel_rfl) rfl (fun w hO j u hj => ?_) (xX _) (by unfold maxLen; omega) (by rw [e5]; omega) (fun v' ob' hv' => ?_)
    · rw [yW, cell_of_row w b4 (0 + j) (yR ⟨c, d⟩).toArray 80 _ (hO.held ⟨b4, (yR ⟨c, d⟩).toArray, 80⟩ (List.mem_append_left _ (List.mem_append_left _ (List.mem_cons_self ..))))]; simpa using hj
    refine Zv (v') (ZN (zB (ZF (v') Tryz.results131 (fun w hO => ⟨v', ob', rfl, by unfold qG; rw [h1, if_pos rfl, List.length_append, List.flatMap_append]; simpa using hv', Own.take hO (fun x hx => List.mem_append_left _ (List.mem_append_right _ hx)) ?_⟩))))
    have := hO.apart; rw [List.append_nil, List.map_append, List.nodup_append] at this; exact this.2.1
  | false =>
    refine Zv Z4 (ZY (ZO (Zv (.slice A l.length cap) (Zv (.slice A l.length cap) (ZN (zB (z6 ?_)))))))
    exact ZF (.slice A l.length cap) Tryz.results131 (fun w hO => ⟨_, ob, rfl, by unfold qG; rw [h1, if_neg (by decide)]; exact hv, Own.sub [_, _, _] hO⟩)
theorem add_call {M : List Nat} {W w : World} {v : Value} {l : List Sp} {E ob : List Blk} (c d : Cu) (hO : Own M W w (E ++ ob)) (hv : SlS v l ob) (hn : l.length ≤ 1000000) (hl : x8 l) (hc : c.short) (hd : d.short) :
    Calls Tryz.prog 131 #[v, zC c, zC d] w fun e w' => ∃ v' L', e = .returned v' ∧ (∃ ob', L' = E ++ ob' ∧ SlS v' (qG l c d) ob') ∧ Own M W w' L' := by
  obtain ⟨A, cap, rfl⟩ := hv.form
  refine (add_any A cap l ob c d w hv (Own.lend (hO.sub E)) hn hl hc hd).mono fun e w' ⟨v', ob', h1, h2, h3⟩ => ⟨v', E ++ ob', h1, ⟨ob', rfl, h2⟩, ?_⟩
  have hp : Own M W w (ob ++ E) := hO.perm List.perm_append_comm
  exact (Own.join hp h3).perm List.perm_append_comm
theorem wU {M : List Nat} {W w : World} {v : Value} {l : List Sp} {E ob : List Blk} (hO : Own M W w (E ++ ob)) (hv : SlS v l ob) (hn : l.length ≤ 1000000) (hl : x8 l) :
    Calls Tryz.prog 132 #[v] w fun e w' => ∃ v' L', e = .returned v' ∧ (∃ ob', L' = E ++ ob' ∧ SlS v' l ob') ∧ Own M W w' L' := by
  obtain ⟨A, cap, rfl⟩ := hv.form
  refine (unshare_any A cap l ob w hv (Own.lend (hO.sub E)) hn hl).mono fun e w' ⟨ob', h1, h2, h3⟩ => ⟨_, E ++ ob', h1, ⟨ob', rfl, h2⟩, ?_⟩
  have hp : Own M W w (ob ++ E) := hO.perm List.perm_append_comm
  exact (Own.join hp h3).perm List.perm_append_comm
theorem fA (k : Int) : (zX k).short := ⟨Nat.zero_le 1000000, Nat.zero_le 1000000⟩
structure NotB (l : List Sp) (k : Nat) (v : Value) (out : List Sp) (f : Cu) (ob : List Blk) : Prop where
  le : k ≤ l.length
  sl : SlS v out ob
  len : out.length ≤ k
  short : x8 out
  fs : f.short
  eq : (l.take k).foldl nstep ([], zX (-1)) = (out, f)
theorem NotB.start (l : List Sp) : NotB l 0 (.slice none 0 0) [] (zX (-1)) [] := ⟨Nat.zero_le _, Sl.nil _ _, Nat.le_refl _, fun s hs => by simp at hs, fA _, by rw [List.take_zero]; rfl⟩
theorem NotB.step {l : List Sp} {k : Nat} {v v2 : Value} {out : List Sp} {f : Cu} {ob ob2 : List Blk} (h : NotB l k v out f ob) (hk : k < l.length) {s : Sp} (hs : l[k] = s) (hss : s.short) (h2 : SlS v2 (qG out f s.lo) ob2) : NotB l (k + 1) v2 (qG out f s.lo) s.hi ob2 :=
  ⟨by omega, h2, by have := h.len; have := pA out f s.lo; omega, p5 h.short h.fs hss.1, hss.2, by rw [List.take_succ_eq_append_getElem hk, List.foldl_append, h.eq, hs]; rfl⟩
theorem not4_any (A : Option Addr) (cap : Nat) (l : List Sp) (W : World) (hv : Reads yR W W.heap.size A l) (hn : l.length ≤ 300000) (hl : x8 l) :
    Calls Tryz.prog 135 #[.slice A l.length cap] W fun e w' => ∃ v' ob', e = .returned v' ∧ SlS v' (if zR l then vP l else []) ob' ∧ Own [] W w' ob' := by
  refine Z2 (n := 30) Tryz.func135 rfl (ZO (Zv (.slice none 0 0) (ZN (z7 (ZO (Zv (.slice A l.length cap) (Zc (k := 129) (args := #[.slice A l.length cap]) (.bool (zR l)) (fun w hO => uI A cap l w (hv.on hO.below hO.size) (by omega) hl) ?_)))))))
  cases h1 : zR l with
  | true =>
    refine Zv Z5 (ZX (ZB (ZO (Zv (.slice none 0 0) (ZN (z7 ?_))))))
    refine zA (Zv (.agg Z7) (Za (.agg ZE) (fun b1 => Zs 0 ⟨b1, ZE, 78⟩ (off := 0) (.agg Z7) (ZN (z7 (ZO (Zv (.slice A l.length cap) (Zv (.int .i64 (l.length : Int)) (Zv (.int .i64 0) ?_)))))))))
    refine ZN (zL (yL (fun L f m => ∃ (k : Nat) (v : Value) (out : List Sp) (fc : Cu) (ob : List Blk) (j : Nat → Value), (NotB l k v out fc ob) ∧ L = ⟨b1, (zC fc).cells, 78⟩ :: ob ∧ f = xF j [(3, v), (4, Zp b1 0), (11, .slice A l.length cap), (12, .int .i64 (l.length : Int)), (13, .int .i64 (k : Int))] ∧ m = l.length - k) (l.length - 0) ⟨0, _, [], zX (-1), [], _, NotB.start l, rfl, ZU, rfl⟩ ?_))
    rintro L f m ⟨k, v, out, fc, ob, j, hrel, rfl, rfl, rfl⟩
    have hkl := hrel.le; have hlen := hrel.len
    refine z7 (zA ?_)
    by_cases h2 : (k : Int) < (l.length : Int)
    · have hk : k < l.length := by omega
      obtain ⟨b, off, hA, hlt, hcell⟩ := hv (by omega)
      obtain ⟨s, hs⟩ : ∃ s, l[k] = s := ⟨_, rfl⟩
      have hsk : s.short := hs ▸ hl l[k] (List.getElem_mem hk)
      refine Zg h2 (ZN (z7 (Zt (ZB (z7 (zL (ZO (zU (Zp b (off + k * 14)) (by kernel_rfl) (ZA (b := b) (off := off) (c := cap) (n := l.length) (k := .i64) (j := (k : Int)) (e := 80) (sz := 14) hA) ?_))))))))
      refine Zo (yX s) (a := ⟨b, off + k * 14, none⟩) (fun w hO => y6 y9 (fun j u h => (hO.below.cell (p := ⟨b, off + j, none⟩) hlt).trans (hcell j u h)) k 0 hk (by omega) _ (by rw [hs]; kernel_rfl)) (Za (.agg Z6) (fun b2 => Zs 0 ⟨b2, Z6, 80⟩ (off := 0) (yX s) (ZR (Zv (v) (Zl 1 ⟨b1, (zC fc).cells, 78⟩ (off := 0) (.agg (ZJ fc)) (Zv (Zp b2 0) (Zl 0 ⟨b2, (yX s).cells, 80⟩ (off := 0) (.agg (ZJ s.lo)) (Zr (k := 131) (args := #[v, zC fc, zC s.lo]) (fun v' L' => ∃ ob', L' = [⟨b2, (yX s).cells, 80⟩, ⟨b1, (zC fc).cells, 78⟩] ++ ob' ∧ SlS v' (qG out fc s.lo) ob') (fun w hO => add_call (E := [⟨b2, (yX s).cells, 80⟩, ⟨b1, (zC fc).cells, 78⟩]) fc s.lo hO hrel.sl (by omega) hrel.short hrel.fs hsk.1) (fun v2 L2 hv2 => ?_)))))))))
      obtain ⟨ob2, rfl, hs2⟩ := hv2
      refine Zv (v2) (ZN (zA (Zv (Zp b2 7) (Zl 0 ⟨b2, (yX s).cells, 80⟩ (off := 7) (.agg (ZJ s.hi)) (Zs 1 ⟨b1, (zC fc).cells, 78⟩ (off := 0) (.agg (ZJ s.hi)) (zP (zQ (z8 (zA (Zu (k := .i64) (((k + 1 : Nat) : Int)) (IntWalk.i64_in _ (by omega)) ?_))))))))))
      exact Zv (.int .i64 ((k + 1 : Nat) : Int)) (zP (xM (fun w hO => Own.sub [_] hO) (zT (m' := l.length - (k + 1)) (by omega) ⟨k + 1, v2, qG out fc s.lo, s.hi, ob2, _, hrel.step hk hs hsk hs2, rfl, ZU, rfl⟩)))
    refine Zh h2 (ZN (z7 (Zf (y5 (zD (zN (zH (z8 (z7 (zA ?_))))))))))
    refine Zv (v) (Zl 0 ⟨b1, (zC fc).cells, 78⟩ (off := 0) (.agg (ZJ fc)) (Zv (.agg Z8) (Zr (k := 131) (args := #[v, zC fc, zC (zX 1)]) (fun v' L' => ∃ ob', L' = [⟨b1, (zC fc).cells, 78⟩] ++ ob' ∧ SlS v' (qG out fc (zX 1)) ob') (fun w hO => add_call (E := [⟨b1, (zC fc).cells, 78⟩]) fc (zX 1) hO hrel.sl (by omega) hrel.short hrel.fs (fA 1)) (fun v3 L2 hv2 => ?_))))
    obtain ⟨ob3, rfl, hs3⟩ := hv2
    refine Zr (k := 132) (args := #[v3]) (fun v' L' => ∃ ob', L' = [⟨b1, (zC fc).cells, 78⟩] ++ ob' ∧ SlS v' (qG out fc (zX 1)) ob') (fun w hO => wU (E := [⟨b1, (zC fc).cells, 78⟩]) hO hs3 (by have := pA out fc (zX 1); omega) (p5 hrel.short hrel.fs (fA 1))) (fun v4 L2 hv2 => ?_)
    obtain ⟨ob4, rfl, hs4⟩ := hv2
    exact Zv (v4) (ZN (zB (ZF (v4) Tryz.results135 (fun w hO => ⟨v4, ob4, rfl, by rw [if_pos rfl, show vP l = qG out fc (zX 1) from by rw [← notG_eq h1]; unfold notG; have he := hrel.eq; rw [List.take_of_length_le (by omega)] at he; rw [he]]; exact hs4, Own.sub [_] hO⟩))))
  | false =>
    refine Zv Z4 (ZY (ZO (Zv (.slice none 0 0) (ZN (zB (z6 (ZF (.slice none 0 0) Tryz.results135 ?_)))))))
    exact fun w hO => ⟨_, [], rfl, by rw [if_neg (by decide)]; exact Sl.nil _ _, by simpa using hO⟩
end
section
abbrev VSp := {s : Sp // s.may = true ∧ s.short}
instance : Inhabited VSp := ⟨⟨⟨zX (-1), zX 1⟩, by decide, fA _, fA _⟩⟩
def uW (x : VSp) : List Value := yR x.1
def cfV (x y : VSp) : Int := zV x.1.lo y.1.lo
theorem swoV : Go.Sort.SWO (ltOf cfV) := by
  have ml : ∀ x : VSp, x.1.lo.may = true := fun x => (yD x.2.1).1
  refine ⟨fun x => ?_, fun x y z h1 h2 => ?_, fun x y z h1 h2 => ?_⟩
  · unfold ltOf cfV; rw [gD]; rfl
  · unfold ltOf cfV at *
    rw [decide_eq_true_eq] at *
    exact kD (ml x) (ml y) (ml z) h1 h2
  · unfold ltOf cfV at *
    rw [decide_eq_false_iff_not] at *
    have := vN (ml z) (ml y) (ml x) (uN h2) (uN h1)
    have h3 := xV (a := x.1.lo) (b := z.1.lo)
    omega
theorem make1_any (s t : Sp) (W : World) (hs : s.short) (ht : t.short) :
    Calls Tryz.prog 179 #[yX s, yX t] W fun e w' => e = .returned (.int .i64 (zV s.lo t.lo)) ∧ Below W.heap.size W w' := by
  refine Z2 (n := 10) Tryz.func179 rfl (ZO (Zb (yX s) (fun b1 => Zb (yX t) (fun b2 => Zv (.int .i64 0) (ZR (Zv (Zp b1 0) (Zl 1 ⟨b1, (yX s).cells, 80⟩ (off := 0) (.agg (ZJ s.lo)) ?_)))))))
  exact Zv (Zp b2 0) (Zl 0 ⟨b2, (yX t).cells, 80⟩ (off := 0) (.agg (ZJ t.lo)) (Zc (k := 173) (args := #[.agg (ZJ s.lo), .agg (ZJ t.lo)]) (.int .i64 (zV s.lo t.lo)) (fun w _ => mV s.lo t.lo w hs.1 ht.1) (Zv (.int .i64 (zV s.lo t.lo)) (ZN (zB (ZF (.int .i64 (zV s.lo t.lo)) Tryz.results179 (fun w hO => ⟨rfl, hO.below⟩)))))))
theorem lays4 (blk off size : Nat) (w : World) : CmpLays Tryz.prog 179 #[] uW 14 cfV blk off size w := fun m os dk _ x y =>
  (make1_any x.1 y.1 _ x.2.2 y.2.2).mono fun e w' ⟨h1, h2⟩ => ⟨h1, h2.asGrow⟩
theorem flatK_list (d : Array VSp) : (Go.Sort.flatK uW 14 d).toList = d.toList.flatMap uW := by
  apply List.ext_getElem?
  intro t
  have hlen : (d.toList.flatMap uW).length = d.size * 14 := by rw [kU (g := uW) (sz := 14) (fun x : VSp => y9 x.1)]; simp
  by_cases ht : t < d.size * 14
  · have hk : t / 14 < d.toList.length := by simp; omega
    have h1 : (Go.Sort.flatK uW 14 d).toList[t]? = some (Go.Sort.flatK uW 14 d)[t]! := by
      rw [getElem!_pos _ t (by simpa using ht), Array.getElem?_toList, Array.getElem?_eq_getElem (by simpa using ht)]
    have h2 := flat_at (g := uW) (sz := 14) (fun x : VSp => y9 x.1) d.toList (t / 14) hk
    have h3 : (d.toList.flatMap uW)[t]? = (uW d.toList[t / 14])[t % 14]? := by
      have e : t = t / 14 * 14 + t % 14 := by omega
      have hm : t % 14 < 14 := Nat.mod_lt _ (by decide)
      rw [← h2, List.getElem?_take, if_pos hm, List.getElem?_drop, ← e]
    rw [h1, h3, Go.Sort.get_flatK uW 14 d t ht]
    have hd : d[t / 14]! = d.toList[t / 14] := by rw [getElem!_pos d (t / 14) (by simpa using hk)]; simp
    have hlt : t % 14 < (uW d.toList[t / 14]).length := by rw [show (uW d.toList[t / 14]).length = 14 from y9 _]; exact Nat.mod_lt _ (by decide)
    rw [hd, List.getElem?_eq_getElem hlt, getElem!_pos (uW d.toList[t / 14]) (t % 14) hlt]
  · rw [List.getElem?_eq_none (by simpa using Nat.le_of_not_lt ht), List.getElem?_eq_none (by rw [hlen]; omega)]
theorem take_put (cur F : Array Value) (h : F.size ≤ cur.size) : (Go.Sort.putCells id 0 F cur).toList.take F.size = F.toList := by
  apply List.ext_getElem?
  intro j
  by_cases hj : j < F.size
  · rw [List.getElem?_take_of_lt hj, Array.getElem?_toList]
    simp [Go.Sort.putCells, hj, show j < cur.size by omega]
  · rw [List.getElem?_take_eq_none (by omega), List.getElem?_eq_none (by simp; omega)]
theorem size_put (cur F : Array Value) : (Go.Sort.putCells id 0 F cur).size = cur.size := by simp [Go.Sort.putCells]
theorem perm_val {l m : List VSp} (h : l.Perm m) : (l.map (·.1)).Perm (m.map (·.1)) := h.map _
theorem sorted_of (l : List VSp) (h : ∀ i j (hi : i < j) (hj : j < l.length), ¬ zV l[j].1.lo (l[i]'(by omega)).1.lo < 0) : mD (l.map (·.1)) := by
  induction l with
  | nil => trivial
  | cons s r ih =>
    refine ⟨fun t ht => ?_, ih fun i j hi hj => h (i + 1) (j + 1) (by omega) (by simpa using hj)⟩
    obtain ⟨y, hy, rfl⟩ := List.mem_map.1 ht
    obtain ⟨j, hj, rfl⟩ := List.mem_iff_getElem.1 hy
    exact uN (h 0 (j + 1) (by omega) (by simpa using hj))
theorem lift_list (l : List Sp) (hm : ∀ s ∈ l, s.may = true ∧ s.short) : ∃ m : List VSp, m.map (·.1) = l := by
  induction l with
  | nil => exact ⟨[], rfl⟩
  | cons s r ih =>
    obtain ⟨m, e⟩ := ih (fun t ht => hm t (List.mem_cons_of_mem _ ht))
    exact ⟨⟨s, hm s (List.mem_cons_self ..)⟩ :: m, by rw [List.map_cons, e]⟩
theorem sort_any (g cap : Nat) (cur : Array Value) (l : List Sp) (W : World) (hm : ∀ s ∈ l, s.may = true ∧ s.short) (hO : Own [g] W W [⟨g, cur, 80⟩]) (hcap : l.length ≤ cap) (hmax : cap ≤ maxLen) (hsz : cur.size = cap * 14) (hcur : cur.toList.take (l.length * 14) = l.flatMap yR) (hn : l.length ≤ 1000000) :
    Calls Tryz.prog 178 #[.slice (some ⟨g, 0, none⟩) l.length cap, .func (.func 179) #[] #[]] W fun e w' =>
      e = .returned (.tuple #[]) ∧ ∃ l' cur', l'.Perm l ∧ mD l' ∧ cur'.size = cap * 14 ∧ cur'.toList.take (l.length * 14) = l'.flatMap yR ∧ Own [g] W w' [⟨g, cur', 80⟩] := by
  obtain ⟨m, rfl⟩ := lift_list l hm
  have hlen : (m.map (·.1)).length = m.toArray.size := by simp
  have hg : W.heap[g]? = some (.cells cur 80) := hO.held _ List.mem_cons_self
  have hglt : g < W.heap.size := hO.lt (x := ⟨g, cur, 80⟩) List.mem_cons_self
  have hflat : (m.map (·.1)).flatMap yR = m.flatMap uW := by rw [List.flatMap_map]; rfl
  have hH : Go.Sort.HoldsK uW 14 W g 0 m.toArray := by
    intro j hj
    have hj' : j < m.length * 14 := by simpa using hj
    have e : (Go.Sort.flatK uW 14 m.toArray).toList[j]? = cur.toList[j]? := by
      rw [flatK_list, show m.toArray.toList = m from by simp, ← hflat, ← hcur, List.getElem?_take, if_pos (by simpa using hj')]
    have e2 : cur[j]? = some (Go.Sort.flatK uW 14 m.toArray)[j]! := by
      rw [← Array.getElem?_toList, ← e, Array.getElem?_toList, Array.getElem?_eq_getElem hj, getElem!_pos _ j hj]
    refine ⟨?_, by simp [World.frozen?, hg]⟩
    simp only [World.cell?, hg, Nat.zero_add]
    simpa using e2
  have hcon := Tryz.slices_SortFunc 14 Tryz.isAgg80 Tryz.sizeOf80 uW (fun x => y9 x.1) (fun x v hv => xX x.1 v hv) cfV swoV 179 #[] g 0 cap m.toArray W
    (enters_of Tryz.func179 (by kernel_rfl) rfl) (lays4 g 0 m.toArray.size W) hH hglt (by simp at hlen ⊢; rw [List.length_map] at hn; omega)
  rw [hlen]
  change Calls Tryz.prog 178 _ _ _ at hcon
  refine hcon.mono fun e w' ⟨he, d', n, os, hp, hs, hw⟩ => ⟨he, d'.toList.map (·.1), Go.Sort.putCells id 0 (Go.Sort.flatK uW 14 d') cur, ?_, ?_, ?_, ?_, ?_⟩
  · have h2 := hp.2.2
    have hsz2 := hp.1
    rw [show d'.extract 0 m.toArray.size = d' from by rw [← hsz2]; simp, show m.toArray.extract 0 m.toArray.size = m.toArray from by simp] at h2
    have := perm_val h2
    simpa using this
  · refine sorted_of _ fun i j hi hj => ?_
    have hj' : j < d'.size := by simpa using hj
    have := hs i j (Nat.zero_le _) hi (by rw [← hp.1]; exact hj')
    unfold ltOf cfV at this
    rw [decide_eq_false_iff_not, getElem!_pos d' j hj', getElem!_pos d' i (by omega)] at this
    simpa using this
  · rw [size_put]; exact hsz
  · have hF : (Go.Sort.flatK uW 14 d').size = m.toArray.size * 14 := by rw [Go.Sort.size_flatK, hp.1]
    have := take_put cur (Go.Sort.flatK uW 14 d') (by rw [hF, hsz, ← hlen]; exact Nat.mul_le_mul_right _ hcap)
    rw [hF, flatK_list] at this
    rw [this, List.flatMap_map]; rfl
  · subst hw
    have hheap : ∀ k, k < W.heap.size → (sortWorldK uW 14 W g 0 n d' os).heap[k]? = (Go.Sort.putRowK uW 14 (Go.Sort.ahead W n) g 0 d').heap[k]? := fun k hk => by
      show ((Go.Sort.putRowK uW 14 (Go.Sort.ahead W n) g 0 d').heap ++ os)[k]? = _
      rw [Array.getElem?_append_left (by rw [Go.Sort.size_putRowK]; exact hk)]
    refine ⟨rfl, rfl, rfl, ?_, Nat.le_add_right _ _, fun k hk hne => ?_, fun x hx => ?_, fun x hx => .inr (by rw [List.mem_singleton] at hx; rw [hx]; exact List.mem_singleton_self _), by simp⟩
    · show W.heap.size ≤ ((Go.Sort.putRowK uW 14 (Go.Sort.ahead W n) g 0 d').heap ++ os).size
      rw [Array.size_append, Go.Sort.size_putRowK]; exact Nat.le_add_right _ _
    · rw [hheap k hk]
      have hne' : g ≠ k := fun e => hne (by simp [e])
      simp [Go.Sort.putRowK, Go.Sort.putRow, Go.Sort.mapBlock, Go.Sort.ahead, Array.getElem?_modify, hne']
    · obtain rfl : x = _ := by simpa using hx
      show (sortWorldK uW 14 W g 0 n d' os).heap[g]? = _
      rw [hheap g hglt]
      simp [Go.Sort.putRowK, Go.Sort.putRow, Go.Sort.mapBlock, Go.Sort.ahead, Array.getElem?_modify, hg, Go.Sort.onCells]
end
section
theorem clone4_any (A : Option Addr) (cap : Nat) (l : List Sp) (W : World) (hv : Reads yR W W.heap.size A l) (hn : l.length ≤ 1000000) :
    Calls Tryz.prog 177 #[.slice A l.length cap] W fun e w' => ∃ v' ob', e = .returned v' ∧ SlS v' l ob' ∧ Own [] W w' ob' := by
  cases A with
  | none =>
    obtain rfl : l = [] := by
      cases l with
      | nil => rfl
      | cons x r => obtain ⟨b, off, e, _⟩ := hv (by simp); cases e
    refine Z2 (n := 8) Tryz.func177 rfl (ZO (Zv (.slice none 0 0) (ZN (z7 (ZO (Zv (.slice none (([] : List Sp).length) cap) (Zv Z4 (zP ?_))))))))
    exact z8 (Zt (ZO (Zv (.slice none 0 0) (ZN (zB (z6 (ZF (.slice none 0 0) Tryz.results177 (fun w hO => ⟨_, [], rfl, Sl.nil _ _, by simpa using hO⟩))))))))
  | some a =>
    refine Z2 (n := 8) Tryz.func177 rfl (ZO (Zv (.slice none 0 0) (ZN (z7 (ZO (Zv (.slice (some a) l.length cap) (Zv Z5 (zP ?_))))))))
    refine z8 (Zf (ZB (ZO (qC 80 #[] (by kernel_rfl) rfl (fun _ => by kernel_rfl) (fun b1 => Zv (.slice (some a) l.length cap) ?_)))))
    obtain ⟨i, z, e1, e2, e3, e4, e5⟩ := kX
    exact xT (L' := [] ++ [⟨b1, #[], 80⟩] ++ []) rfl (jQ (E := []) (ob := [⟨b1, #[], 80⟩]) (L0 := []) (sz := 14) (l := l) (A := some a) (c := cap) (n := 0) (xs := []) y9 (by kernel_rfl) rfl Tryz.underlying29 e1 e2 e3 e4 (by kernel_rfl) ⟨rfl, .inr ⟨b1, 0, #[], rfl, rfl, Nat.le_refl _, Nat.zero_le _, rfl, rfl⟩⟩ (by kernel_rfl) (fun w hO => hv.on hO.below hO.size) xX (by unfold maxLen; omega) (by rw [e5]; omega) (fun va oa hva => Zv (va) (ZN (zB (ZF (va) Tryz.results177 (fun w hO => ⟨va, oa, rfl, hva.to (by simp) (by simp), by simpa using hO⟩))))))
theorem sort_call {M : List Nat} {W w : World} {v : Value} {l : List Sp} {E ob : List Blk} (hO : Own M W w (E ++ ob)) (hv : SlS v l ob) (hn : l.length ≤ 1000000) (hm : ∀ s ∈ l, s.may = true ∧ s.short) :
    Calls Tryz.prog 178 #[v, .func (.func 179) #[] #[]] w fun e w' => ∃ v' L', e = .returned v' ∧ (∃ l' ob', v' = .tuple #[] ∧ L' = E ++ ob' ∧ l'.Perm l ∧ mD l' ∧ SlS v l' ob') ∧ Own M W w' L' := by
  obtain ⟨A, cap, rfl⟩ := hv.form
  by_cases h0 : l.length = 0
  · obtain rfl : l = [] := List.eq_nil_of_length_eq_zero h0
    have h := Tryz.slices_SortFunc_none (α := Nat) A cap (.func (.func 179) #[] #[]) w
    change Calls Tryz.prog 178 _ _ _ at h
    exact h.mono fun e w' ⟨h1, h2⟩ => ⟨_, E ++ ob, h1, ⟨[], ob, rfl, rfl, List.Perm.refl _, trivial, hv⟩, h2 ▸ hO⟩
  · unfold SlS at hv
    obtain ⟨g, cur, rfl, rfl, hcap, hmax, hsz, hcur⟩ := hv.block (by omega)
    refine (sort_any g cap cur l w hm (Own.lend (hO.sub E)) hcap hmax hsz hcur hn).mono fun e w' ⟨h1, l', cur', h2, h3, h4, h5, h6⟩ => ⟨_, E ++ [⟨g, cur', 80⟩], h1, ⟨l', _, rfl, rfl, h2, h3, ?_⟩, ?_⟩
    · unfold SlS
      have hl := h2.length_eq
      rw [← hl] at h5 hcap ⊢
      exact ⟨by rw [kU y9], .inr ⟨g, cap, cur', rfl, rfl, hcap, hmax, h4, h5⟩⟩
    · have hp : Own M W w ([⟨g, cur, 80⟩] ++ E) := hO.perm List.perm_append_comm
      exact (Own.join hp h6).perm List.perm_append_comm
structure Merged (d : List Sp) (k : Nat) (V : Option Addr) (c : Nat) (out : List Sp) (ob : List Blk) : Prop where
  le : k ≤ d.length
  sl : Sl 80 14 (.slice V out.length c) out.length (out.flatMap yR) ob
  len : out.length ≤ k
  short : x8 out
  eq : (d.take k).foldl jZ [] = out
theorem Merged.start (d : List Sp) : Merged d 0 none 0 [] [] := ⟨Nat.zero_le _, Sl.nil _ _, Nat.le_refl _, fun s hs => by simp at hs, by rw [List.take_zero]; rfl⟩
theorem mstep_app {out : List Sp} {s : Sp} (h : ∀ t ∈ out.getLast?, zV t.hi s.lo < 0) : jZ out s = out ++ [s] := by
  unfold jZ
  cases hg : out.getLast? with
  | none => have : out = [] := by simpa using hg
            subst this; rfl
  | some t => dsimp only; rw [if_pos (h t hg)]
theorem mstep_set {out : List Sp} {s t : Sp} (h0 : 0 < out.length) (ht : out[out.length - 1]'(by omega) = t) (h : ¬ zV t.hi s.lo < 0) : jZ out s = out.set (out.length - 1) ⟨t.lo, xB t.hi s.hi⟩ := by
  have hg : out.getLast? = some t := by rw [List.getLast?_eq_getElem?, List.getElem?_eq_getElem (by omega), ht]
  unfold jZ
  rw [hg]
  dsimp only
  rw [if_neg h, List.dropLast_eq_take, List.set_eq_take_append_cons_drop, if_pos (by omega), List.drop_of_length_le (by omega)]
theorem mstep_short {out : List Sp} {s : Sp} (ho : x8 out) (hs : s.short) : x8 (jZ out s) := by
  unfold jZ
  split
  · intro x hx; obtain rfl : x = _ := by simpa using hx
    exact hs
  · rename_i t ht
    split
    · intro x hx
      rcases List.mem_append.1 hx with h | h
      · exact ho x h
      · obtain rfl : x = _ := by simpa using h
        exact hs
    · intro x hx
      rcases List.mem_append.1 hx with h | h
      · exact ho x (List.dropLast_subset _ h)
      · obtain rfl : x = _ := by simpa using h
        exact ⟨(ho t (List.mem_of_getLast? ht)).1, fV (ho t (List.mem_of_getLast? ht)).2 hs.2⟩
theorem Merged.step {d : List Sp} {k : Nat} {V V2 : Option Addr} {c c2 : Nat} {out out2 : List Sp} {ob ob2 : List Blk} (h : Merged d k V c out ob) (hk : k < d.length) {s : Sp} (hs : d[k] = s) (hss : s.short) (he : jZ out s = out2) (h2 : Sl 80 14 (.slice V2 out2.length c2) out2.length (out2.flatMap yR) ob2) : Merged d (k + 1) V2 c2 out2 ob2 :=
  ⟨by omega, h2, by have := h.len; have := mstep_len out s; rw [he] at this; omega, he ▸ mstep_short h.short hss, by rw [List.take_succ_eq_append_getElem hk, List.foldl_append, h.eq, hs]; exact he⟩
end
section
theorem nK (A : Option Addr) (cap : Nat) (l : List Sp) (W : World) (hv : Reads yR W W.heap.size A l) (hn : l.length ≤ 300000) (hl : x8 l) :
    Calls Tryz.prog 136 #[.slice A l.length cap] W fun e w' => ∃ v' ob', e = .returned (.tuple #[v', .bool (k8 l)]) ∧ SlS v' (if k8 l then jG l else []) ob' ∧ Own [] W w' ob' := by
  refine Z2 (n := 69) Tryz.func136 rfl (ZO (Zv (.slice none 0 0) (Zv Z5 (ZN (z7 (ZO (Zv (.slice A l.length cap) (Zv (.int .i64 (l.length : Int)) ?_))))))))
  refine Zv (.int .i64 0) (ZN (zL (yL (fun L f m => ∃ (k : Nat) (j : Nat → Value), (k ≤ l.length ∧ k8 (l.take k) = true) ∧ L = [] ∧ f = xF j [(0, .slice A l.length cap), (11, .slice A l.length cap), (12, .int .i64 (l.length : Int)), (13, .int .i64 (k : Int))] ∧ m = l.length - k) (l.length - 0) ⟨0, _, ⟨Nat.zero_le _, by rw [List.take_zero]; rfl⟩, rfl, ZU, rfl⟩ ?_)))
  rintro L f m ⟨k, j, hrel, rfl, rfl, rfl⟩
  have hkl := hrel.1
  refine z7 (zA ?_)
  by_cases h1 : (k : Int) < (l.length : Int)
  · have hk : k < l.length := by omega
    obtain ⟨b, off, hA, hlt, hcell⟩ := hv (by omega)
    obtain ⟨s, hs⟩ : ∃ s, l[k] = s := ⟨_, rfl⟩
    have hsk : s.short := hs ▸ hl _ (List.getElem_mem _)
    refine Zg h1 (ZN (z7 (Zt (ZB (z7 (zL (ZO (zU (Zp b (off + k * 14)) (by kernel_rfl) (ZA (b := b) (off := off) (c := cap) (n := l.length) (k := .i64) (j := (k : Int)) (e := 80) (sz := 14) hA) ?_))))))))
    refine Zo (yX s) (a := ⟨b, off + k * 14, none⟩) (fun w hO => y6 y9 (fun j u h => (hO.below.cell (p := ⟨b, off + j, none⟩) hlt).trans (hcell j u h)) k 0 hk (by omega) _ (by rw [hs]; kernel_rfl)) (Za (.agg Z6) (fun b1 => Zs 0 ⟨b1, Z6, 80⟩ (off := 0) (yX s) (ZR (Zl 0 ⟨b1, (yX s).cells, 80⟩ (off := 0) (yX s) (Zc (k := 139) (args := #[yX s]) (.bool s.may) (fun w _ => d5 s w hsk) ?_)))))
    cases h2 : s.may with
    | true =>
      refine Zv Z5 (ZX (yC (zQ (z8 (zA (Zu (k := .i64) (((k + 1 : Nat) : Int)) (IntWalk.i64_in _ (by omega)) (Zv (.int .i64 ((k + 1 : Nat) : Int)) (zP ?_))))))))
      have hnext : k8 (l.take (k + 1)) = true := allMay_take l k hk hrel.2 (by rw [hs]; assumption)
      exact xM (fun w hO => Own.sub [_] hO) (zT (m' := l.length - (k + 1)) (by omega) ⟨k + 1, _, ⟨by omega, hnext⟩, rfl, ZU, rfl⟩)
    | false =>
      refine Zv Z4 (ZY (ZO (Zv (.slice none 0 0) (Zv Z5 (ZN (zB (zF ?_)))))))
      exact z6 (zW (zF (z6 (ZG (.slice none 0 0) Z5 Tryz.results136 (fun w hO => ⟨_, [], by rw [mB l k hk (by rw [hs]; assumption)], by rw [mB l k hk (by rw [hs]; assumption), if_neg (by decide)]; exact Sl.nil _ _, Own.take hO (by simp) (by simp)⟩)))))
  have hall : k8 l = true := by have h := hrel.2; rwa [List.take_of_length_le (by omega)] at h
  refine Zh h1 (ZN (z7 (Zf (y5 (zD (zN (zH (z8 (z7 (zA ?_))))))))))
  refine Zv (.slice A l.length cap) (Zr (k := 177) (args := #[.slice A l.length cap]) (fun v' L' => SlS v' l L') (fun w hO => (clone4_any A cap l w (hv.on hO.below hO.size) (by omega)).mono fun e w' ⟨v', ob', h1, h2, h3⟩ => ⟨v', ob', h1, h2, by simpa using Own.joinN hO h3⟩) (fun cv oc hcv => ?_))
  obtain ⟨B, capb, rfl⟩ := hcv.form
  refine Zv (.slice B l.length capb) (ZR (Zv (.slice B l.length capb) (Zr (k := 178) (args := #[.slice B l.length capb, .func (.func 179) #[] #[]]) (fun v' L' => ∃ l', v' = .tuple #[] ∧ l'.Perm l ∧ mD l' ∧ SlS (.slice B l.length capb) l' L') (fun w hO => (sort_call (E := []) hO hcv (by omega) (fun s hs => ⟨allMay_mem.1 hall s hs, hl s hs⟩)).mono fun e w' ⟨v', L', k1, ⟨l', ob', k2, k3, k4, k5, k6⟩, k7⟩ => ⟨v', L', k1, ⟨l', k2, k4, k5, by subst k3; exact k6⟩, k7⟩) (fun v5 od hv5 => ?_))))
  obtain ⟨d, rfl, hdp, hdso, hds⟩ := hv5
  have hdl : d.length = l.length := hdp.length_eq
  have hdm : ∀ s ∈ d, s.may = true ∧ s.short := fun s hs => ⟨allMay_mem.1 hall s (hdp.mem_iff.1 hs), hl s (hdp.mem_iff.1 hs)⟩
  unfold SlS at hds
  rw [← hdl] at hds ⊢
  refine xT (L' := od ++ []) (by simp) (ZR (Zv (.slice none 0 0) (ZN (z7 (ZO (Zv (.slice B d.length capb) ?_))))))
  refine Zv (.int .i64 (d.length : Int)) (Zv (.int .i64 0) (ZN (zL (yL (fun L f m => ∃ (k : Nat) (V : Option Addr) (q : Nat) (cv : Nat) (out : List Sp) (ob : List Blk) (j : Nat → Value), (q = out.length ∧ Merged d k V cv out ob) ∧ L = od ++ ob ∧ f = xF j [(7, .slice V q cv), (25, .slice B d.length capb), (26, .int .i64 (d.length : Int)), (27, .int .i64 (k : Int))] ∧ m = d.length - k) (d.length - 0) ⟨0, none, 0, 0, [], [], _, ⟨rfl, Merged.start d⟩, rfl, ZU, rfl⟩ ?_))))
  rintro L f m ⟨k, V, q, cv, out, ob, j, hrel, rfl, rfl, rfl⟩
  obtain ⟨hq, hrel⟩ := hrel; subst hq; have hkl := hrel.le; have hlen := hrel.len
  refine z7 (zA ?_)
  by_cases h3 : (k : Int) < (d.length : Int)
  · have hk : k < d.length := by omega
    obtain ⟨gb, curb, hB, rfl, hcapb, hmaxb, hszb, hcurb⟩ := Sl.block hds (by omega)
    obtain ⟨s, hs⟩ : ∃ s, d[k] = s := ⟨_, rfl⟩
    have hsk : s.short := (hdm s (hs ▸ List.getElem_mem _)).2
    refine Zg h3 (ZN (z7 (Zt (ZB (z7 (zL (ZO (zU (Zp gb (k * 14)) (by kernel_rfl) (qJ (b := gb) (off := 0) (c := capb) (n := d.length) (k := .i64) (j := (k : Int)) (e := 80) (sz := 14) rfl (by kernel_rfl) hB (by kernel_rfl) (by kernel_rfl) (by kernel_rfl) (by omega) (by omega) (by show 0 + k * 14 = k * 14; omega)) ?_))))))))
    refine jB 0 ⟨gb, curb, 80⟩ (off := k * 14) (yX s) (by kernel_rfl) rfl (by kernel_rfl) (by kernel_rfl) (x6 y9 hcurb k 0 (by omega) (by omega) _ (by rw [hs]; kernel_rfl)) (Za (.agg Z6) (fun b1 => Zs 0 ⟨b1, Z6, 80⟩ (off := 0) (yX s) (ZR (Zv (.slice V out.length cv) (Zv (.int .i64 (out.length : Int)) (Zu (k := .i64) (((out.length : Int) : Int) - 1) (IntWalk.i64_in _ (by omega)) (Zv (.int .i64 (((out.length : Int) : Int) - 1)) (zP ?_))))))))
    refine z8 (z7 (z7 (kM (by kernel_rfl) (by kernel_rfl) (Zw (.int .i64 (((out.length : Int) : Int) - 1)) ?_))))
    by_cases h4 : (((out.length : Int) : Int) - 1 : Int) < 0
    · refine Zi h4 (Zw Z4 (Zj (Zj (Zj (Zj (Zj (Zj (Zj (Zj (Zj (Zw Z4 ?_)))))))))))
      refine xU (z8 (Zt (ZO (Zv (.slice V out.length cv) (Zl 0 ⟨b1, (yX s).cells, 80⟩ (off := 0) (yX s) (qC 80 (ZJ2 s.lo s.hi) (by kernel_rfl) rfl (fun _ => by kernel_rfl) (fun b2 => xT (L' := [⟨b2, (ZJ2 s.lo s.hi), 80⟩, ⟨b1, (yX s).cells, 80⟩, ⟨gb, curb, 80⟩] ++ ob ++ []) (by rw [List.append_nil]; rfl) ?_)))))))
      obtain ⟨i, z, e1, e2, e3, e4, e5⟩ := kX
      refine kR (sz := 14) (by kernel_rfl) rfl Tryz.underlying29 e1 e2 e3 e4 (by kernel_rfl) hrel.sl (a := ⟨b2, 0, none⟩) (m := 1) (c := 1) (news := yR s) (by kernel_rfl) rfl (fun w hO j u hj => ?_) (xX _) (by unfold maxLen; omega) (by rw [e5]; omega) (fun v2 ob2 hv2 => ?_)
      · rw [yW, cell_of_row w b2 (0 + j) (yR s).toArray 80 _ (hO.held ⟨b2, (yR s).toArray, 80⟩ (List.mem_append_left _ (List.mem_append_left _ (List.mem_cons_self ..))))]; simpa using hj
      have hv3 : SlS v2 (out ++ [s]) ob2 := hv2.to (by simp) (by simp)
      obtain ⟨V2, c2, rfl⟩ := hv3.form
      refine Zv (.slice V2 ((out ++ [s]).length) c2) (ZN (y5 (zD (zH (z8 (zA (Zu (k := .i64) (((k + 1 : Nat) : Int)) (IntWalk.i64_in _ (by omega)) (Zv (.int .i64 ((k + 1 : Nat) : Int)) (zP (xM (L' := [⟨gb, curb, 80⟩] ++ ob2) (fun w hO => ?_) ?_))))))))))
      · have h2 := hO.apart; rw [List.append_nil] at hO; exact Own.sub [_, _] hO
      exact zT (m' := d.length - (k + 1)) (by omega) ⟨k + 1, V2, (out ++ [s]).length, c2, out ++ [s], ob2, _, ⟨rfl, hrel.step hk hs hsk (mstep_app (fun t' ht' => by have : out = [] := List.eq_nil_of_length_eq_zero (by omega); subst this; simp at ht')) hv3⟩, rfl, ZU, rfl⟩
    obtain ⟨g, cur, hV, rfl, hcapc, hmaxc, hszc, hcurc⟩ := Sl.block hrel.sl (by omega)
    obtain ⟨t, ht⟩ : ∃ t, out[out.length - 1]'(by omega) = t := ⟨_, rfl⟩
    have htk : t.short := ht ▸ hrel.short _ (List.getElem_mem _)
    refine ZI h4 (Zw Z5 (Zw (.slice V out.length cv) (Zw (.int .i64 (((out.length : Int) : Int) - 1)) (xH (Zp g ((out.length - 1) * 14)) (by kernel_rfl) (ZA (b := g) (off := 0) (c := cv) (n := out.length) (k := .i64) (j := (out.length : Int) - 1) (e := 80) (sz := 14) hV) (Zw (Zp g ((out.length - 1) * 14 + 7)) (uE 2 ⟨g, cur, 80⟩ (off := (out.length - 1) * 14 + 7) (zC t.hi) (by kernel_rfl) rfl (by kernel_rfl) (by kernel_rfl) (x6 y9 hcurc (out.length - 1) 7 (by omega) (by omega) _ (by rw [ht]; kernel_rfl)) (Zw (Zp b1 0) (Zm 0 ⟨b1, (yX s).cells, 80⟩ (off := 0) (.agg (ZJ s.lo)) (Zq (k := 173) (args := #[zC t.hi, .agg (ZJ s.lo)]) (.int .i64 (zV t.hi s.lo)) (fun w _ => mV t.hi s.lo w htk.2 hsk.1) ?_)))))))))
    by_cases h5 : (zV t.hi s.lo : Int) < 0
    · refine Zi h5 (Zw Z4 (xU (z8 (Zt (ZO (Zv (.slice V out.length cv) (Zl 0 ⟨b1, (yX s).cells, 80⟩ (off := 0) (yX s) (qC 80 (ZJ2 s.lo s.hi) (by kernel_rfl) rfl (fun _ => by kernel_rfl) (fun b2 => xT (L' := [⟨b2, (ZJ2 s.lo s.hi), 80⟩, ⟨b1, (yX s).cells, 80⟩, ⟨gb, curb, 80⟩] ++ [⟨g, cur, 80⟩] ++ []) (by rw [List.append_nil]; rfl) ?_)))))))))
      obtain ⟨i, z, e1, e2, e3, e4, e5⟩ := kX
      refine kR (sz := 14) (by kernel_rfl) rfl Tryz.underlying29 e1 e2 e3 e4 (by kernel_rfl) hrel.sl (a := ⟨b2, 0, none⟩) (m := 1) (c := 1) (news := yR s) (by kernel_rfl) rfl (fun w hO j u hj => ?_) (xX _) (by unfold maxLen; omega) (by rw [e5]; omega) (fun v2 ob2 hv2 => ?_)
      · rw [yW, cell_of_row w b2 (0 + j) (yR s).toArray 80 _ (hO.held ⟨b2, (yR s).toArray, 80⟩ (List.mem_append_left _ (List.mem_append_left _ (List.mem_cons_self ..))))]; simpa using hj
      have hv3 : SlS v2 (out ++ [s]) ob2 := hv2.to (by simp) (by simp)
      obtain ⟨V2, c2, rfl⟩ := hv3.form
      refine Zv (.slice V2 ((out ++ [s]).length) c2) (ZN (y5 (zD (zH (z8 (zA (Zu (k := .i64) (((k + 1 : Nat) : Int)) (IntWalk.i64_in _ (by omega)) (Zv (.int .i64 ((k + 1 : Nat) : Int)) (zP (xM (L' := [⟨gb, curb, 80⟩] ++ ob2) (fun w hO => ?_) ?_))))))))))
      · have h2 := hO.apart; rw [List.append_nil] at hO; exact Own.sub [_, _] hO
      exact zT (m' := d.length - (k + 1)) (by omega) ⟨k + 1, V2, (out ++ [s]).length, c2, out ++ [s], ob2, _, ⟨rfl, hrel.step hk hs hsk (mstep_app (fun t' ht' => by rw [last_at (by omega) ht ht']; assumption)) hv3⟩, rfl, ZU, rfl⟩
    refine ZI h5 (Zw Z5 (xU (z8 (Zf (ZB (ok_drawt 14 (by kernel_rfl) (by kernel_rfl) (by kernel_rfl) ?_))))))
    simp only [List.take_succ_cons, List.take_zero, List.drop_succ_cons, List.drop_zero]
    refine Zw (.slice V out.length cv) (Zw (.int .i64 (((out.length : Int) : Int) - 1)) (Zw (.slice V out.length cv) (Zw (.int .i64 (((out.length : Int) : Int) - 1)) (xH (Zp g ((out.length - 1) * 14)) (by kernel_rfl) (ZA (b := g) (off := 0) (c := cv) (n := out.length) (k := .i64) (j := (out.length : Int) - 1) (e := 80) (sz := 14) hV) (Zw (Zp g ((out.length - 1) * 14 + 7)) (uE 2 ⟨g, cur, 80⟩ (off := (out.length - 1) * 14 + 7) (zC t.hi) (by kernel_rfl) rfl (by kernel_rfl) (by kernel_rfl) (x6 y9 hcurc (out.length - 1) 7 (by omega) (by omega) _ (by rw [ht]; kernel_rfl)) (Zw (Zp b1 7) (Zm 0 ⟨b1, (yX s).cells, 80⟩ (off := 7) (.agg (ZJ s.hi)) (Zq (k := 130) (args := #[zC t.hi, .agg (ZJ s.hi)]) (.tuple #[zC (x9 t.hi s.hi), zC (xB t.hi s.hi)]) (fun w _ => qT t.hi s.hi w htk.2 hsk.2) (Zw (.tuple #[zC (x9 t.hi s.hi), zC (xB t.hi s.hi)]) (Zw (zC (x9 t.hi s.hi)) ?_)))))))))))
    refine Zw (zC (xB t.hi s.hi)) (xH (Zp g ((out.length - 1) * 14)) (by kernel_rfl) (ZA (b := g) (off := 0) (c := cv) (n := out.length) (k := .i64) (j := (out.length : Int) - 1) (e := 80) (sz := 14) hV) (xU (Zv (Zp g ((out.length - 1) * 14 + 7)) (tW 2 ⟨g, cur, 80⟩ (off := (out.length - 1) * 14 + 7) (zC (xB t.hi s.hi)) 7 (by kernel_rfl) rfl rfl (by kernel_rfl) (by kernel_rfl) (by kernel_rfl) (by kernel_rfl) (by kernel_rfl) (by show (out.length - 1) * 14 + 7 + 7 ≤ cur.size; omega) (by kernel_rfl) ?_))))
    have hse := fK y9 hcurc (out.length - 1) 7 (by omega) (zC (xB t.hi s.hi)).cells ⟨t.lo, xB t.hi s.hi⟩ (show 7 + 7 ≤ 14 by decide) (by rw [ht]; rfl)
    refine zP (zQ (z8 (zA (Zu (k := .i64) (((k + 1 : Nat) : Int)) (IntWalk.i64_in _ (by omega)) (Zv (.int .i64 ((k + 1 : Nat) : Int)) (zP ?_))))))
    have hset : Merged d (k + 1) V cv (out.set (out.length - 1) ⟨t.lo, xB t.hi s.hi⟩) [⟨g, kO cur ((out.length - 1) * 14 + 7) (zC (xB t.hi s.hi)).cells, 80⟩] := hrel.step hk hs hsk (mstep_set (by omega) ht (by assumption)) (by rw [List.length_set]; exact ⟨by rw [kU y9, List.length_set], .inr ⟨g, cv, _, by rw [hV], rfl, hcapc, hmaxc, by rw [hse.2]; exact hszc, hse.1⟩⟩)
    refine xM (L' := [⟨gb, curb, 80⟩] ++ [⟨g, kO cur ((out.length - 1) * 14 + 7) (zC (xB t.hi s.hi)).cells, 80⟩]) (fun w hO => Own.sub [_] hO) ?_
    have hls : (out.set (out.length - 1) ⟨t.lo, xB t.hi s.hi⟩).length = out.length := List.length_set
    exact zT (m' := d.length - (k + 1)) (by omega) ⟨k + 1, V, out.length, cv, out.set (out.length - 1) ⟨t.lo, xB t.hi s.hi⟩, [⟨g, kO cur ((out.length - 1) * 14 + 7) (zC (xB t.hi s.hi)).cells, 80⟩], _, ⟨by rw [List.length_set], hset⟩, rfl, ZU, rfl⟩
  refine Zh h3 (ZN (z7 (Zf (y5 (zD (zN (zH (z8 (z7 (zA ?_))))))))))
  refine Zv (.slice V out.length cv) (Zr (k := 132) (args := #[.slice V out.length cv]) (fun v' L' => ∃ ob', L' = od ++ ob' ∧ SlS v' out ob') (fun w hO => wU (E := od) hO hrel.sl (by omega) hrel.short) (fun v4 L2 hv2 => ?_))
  obtain ⟨ob4, rfl, hs4⟩ := hv2
  exact Zv (v4) (Zv Z4 (ZN (zB (ZG (v4) Z4 Tryz.results136 (fun w hO => ⟨v4, ob4, by rw [hall], by rw [hall, if_pos rfl, show jG l = out from by rw [← merge_eq (allMay_mem.1 hall) hdp hdso]; have he := hrel.eq; rw [List.take_of_length_le (by omega)] at he; exact he]; exact hs4, hO.sub od⟩)))))
end
section
theorem parts_in {c : Co} (h : c.may = true) : (0 ≤ c.parts ∧ c.parts ≤ 3) ∧ (¬ c.op = 9 → 1 ≤ c.parts) ∧ (c.op = 9 → c.parts ≤ 2) ∧ (vX c = 0 ∨ vX c = 1 ∨ vX c = 2 ∨ c.op = 9) := by
  obtain ⟨_, _, _, h9, hn, _⟩ := Co.facts h
  refine ⟨?_, fun e => (hn e).1, fun e => (h9 e).2, ?_⟩
  · by_cases e : c.op = 9
    · have := h9 e; omega
    · have := hn e; omega
  · by_cases e : c.op = 9
    · exact .inr (.inr (.inr e))
    · have := hn e
      unfold vX
      repeat' split
      all_goals omega
theorem cbounds_any (c : Co) (W : World) (hc : c.short) (ho : 1 ≤ c.op ∧ c.op ≤ 9) (hq : (0 ≤ c.parts ∧ c.parts ≤ 3) ∧ (¬ c.op = 9 → 1 ≤ c.parts) ∧ (c.op = 9 → c.parts ≤ 2) ∧ (vX c = 0 ∨ vX c = 1 ∨ vX c = 2 ∨ c.op = 9)) : Calls Tryz.prog 134 #[coV c] W fun e w' => e = .returned (.tuple #[zC (qX c).1, zC (qX c).2]) ∧ Below W.heap.size W w' := by
  obtain ⟨hp, hn1, h92, hlk⟩ := hq
  refine Z2 (n := 58) Tryz.func134 rfl (ZO (Zb (coV c) (fun b1 => Za (.agg ZE) (fun b2 => Za (.agg ZE) (fun b3 => ZR (Zv (.agg Z7) (Zv (.agg Z8) ?_)))))))
  refine Za (.agg ZE) (fun b4 => Za (.agg ZE) (fun b5 => Zs 1 ⟨b4, ZE, 78⟩ (off := 0) (.agg Z7) (Zs 0 ⟨b5, ZE, 78⟩ (off := 0) (.agg Z8) (gJ (L' := [⟨b3, ZE, 78⟩, ⟨b2, ZE, 78⟩, ⟨b5, Z8, 78⟩, ⟨b4, Z7, 78⟩, ⟨b1, (coV c).cells, 51⟩]) (fun w hO => hO.perm ((List.perm_append_comm (l₁ := [_, _]) (l₂ := [_, _])).append_right [_])) (ZN (z7 (j6 (fun L f => ∃ (p6 p7 : Nat) (j : Nat → Value), L = [⟨p7, (zC (gF c)).cells, 78⟩, ⟨p6, (zC ⟨0, c.v, false⟩).cells, 78⟩, ⟨b3, ZE, 78⟩, ⟨b2, ZE, 78⟩, ⟨b5, Z8, 78⟩, ⟨b4, Z7, 78⟩, ⟨b1, (coV c).cells, 51⟩] ∧ f = xF j [(1, Zp b1 0), (2, Zp b2 0), (3, Zp b3 0), (4, Zp b4 0), (5, Zp b5 0), (6, Zp p6 0), (7, Zp p7 0)]) ?_ ?_)))))))
  · refine uF (by kernel_rfl) (ZT 0 [] _ (Zp b1 2) yJ rfl (ZL 1 [] _ 4 ⟨b1, (coV c).cells, 51⟩ (off := 2) (.agg (ZP c.v)) yJ rfl rfl (ZT 2 [] _ (.agg #[.int .i64 0, .int .i64 c.v.maj, .int .i64 c.v.min, .int .i64 c.v.pat, .string (mkS c.v.pre), .string (mkS c.v.build), .bool false]) yJ rfl (ZL 3 [] _ 4 ⟨b1, (coV c).cells, 51⟩ (off := 0) (coV c) yJ rfl rfl (h_three 4 5 6 (by kernel_rfl) ?_ ?_ ?_)))))
    · refine Zx [] _ (k := 174) (args := #[coV c]) (zC (gF c)) rfl (fun w _ => wL c w hc hp) (wS 5 6 (by kernel_rfl) ?_ ?_)
      · exact Zy [] _ (.agg ZE) rfl rfl (fun b6 => Zz 6 (Zy [⟨b6, ZE, 78⟩] _ (.agg ZE) rfl rfl (fun b7 => Zz 7 (ZS [⟨b7, ZE, 78⟩, ⟨b6, ZE, 78⟩] _ 1 ⟨b6, ZE, 78⟩ (off := 0) (.agg #[.int .i64 0, .int .i64 c.v.maj, .int .i64 c.v.min, .int .i64 c.v.pat, .string (mkS c.v.pre), .string (mkS c.v.build), .bool false]) rfl rfl (Zz 8 (ZS [⟨b7, ZE, 78⟩, ⟨b6, #[.int .i64 0, .int .i64 c.v.maj, .int .i64 c.v.min, .int .i64 c.v.pat, .string (mkS c.v.pre), .string (mkS c.v.build), .bool false], 78⟩] _ 0 ⟨b7, ZE, 78⟩ (off := 0) (zC (gF c)) rfl rfl (ZZ (yQ ⟨b6, b7, _, rfl, ZU⟩))))))))
      exact Zy [] _ (.agg ZE) rfl rfl (fun b6 => Zz 5 (Zy [⟨b6, ZE, 78⟩] _ (.agg ZE) rfl rfl (fun b7 => Zz 7 (ZS [⟨b7, ZE, 78⟩, ⟨b6, ZE, 78⟩] _ 0 ⟨b7, ZE, 78⟩ (off := 0) (.agg #[.int .i64 0, .int .i64 c.v.maj, .int .i64 c.v.min, .int .i64 c.v.pat, .string (mkS c.v.pre), .string (mkS c.v.build), .bool false]) rfl rfl (Zz 8 (ZS [⟨b7, #[.int .i64 0, .int .i64 c.v.maj, .int .i64 c.v.min, .int .i64 c.v.pat, .string (mkS c.v.pre), .string (mkS c.v.build), .bool false], 78⟩, ⟨b6, ZE, 78⟩] _ 1 ⟨b6, ZE, 78⟩ (off := 0) (zC (gF c)) rfl rfl (ZZ (uL (yQ ⟨b7, b6, _, rfl, ZU⟩)))))))))
    · refine Zy [] _ (.agg ZE) rfl rfl (fun b6 => wS 4 6 (by kernel_rfl) ?_ ?_)
      · exact Zx [⟨b6, ZE, 78⟩] _ (k := 174) (args := #[coV c]) (zC (gF c)) rfl (fun w _ => wL c w hc hp) (Zz 6 (Zy [⟨b6, ZE, 78⟩] _ (.agg ZE) rfl rfl (fun b7 => Zz 7 (ZS [⟨b7, ZE, 78⟩, ⟨b6, ZE, 78⟩] _ 1 ⟨b6, ZE, 78⟩ (off := 0) (.agg #[.int .i64 0, .int .i64 c.v.maj, .int .i64 c.v.min, .int .i64 c.v.pat, .string (mkS c.v.pre), .string (mkS c.v.build), .bool false]) rfl rfl (Zz 8 (ZS [⟨b7, ZE, 78⟩, ⟨b6, #[.int .i64 0, .int .i64 c.v.maj, .int .i64 c.v.min, .int .i64 c.v.pat, .string (mkS c.v.pre), .string (mkS c.v.build), .bool false], 78⟩] _ 0 ⟨b7, ZE, 78⟩ (off := 0) (zC (gF c)) rfl rfl (ZZ (yQ ⟨b6, b7, _, rfl, ZU⟩))))))))
      exact Zy [⟨b6, ZE, 78⟩] _ (.agg ZE) rfl rfl (fun b7 => Zz 4 (Zx [⟨b7, ZE, 78⟩, ⟨b6, ZE, 78⟩] _ (k := 174) (args := #[coV c]) (zC (gF c)) rfl (fun w _ => wL c w hc hp) (Zz 7 (ZS [⟨b7, ZE, 78⟩, ⟨b6, ZE, 78⟩] _ 1 ⟨b6, ZE, 78⟩ (off := 0) (.agg #[.int .i64 0, .int .i64 c.v.maj, .int .i64 c.v.min, .int .i64 c.v.pat, .string (mkS c.v.pre), .string (mkS c.v.build), .bool false]) rfl rfl (Zz 8 (ZS [⟨b7, ZE, 78⟩, ⟨b6, #[.int .i64 0, .int .i64 c.v.maj, .int .i64 c.v.min, .int .i64 c.v.pat, .string (mkS c.v.pre), .string (mkS c.v.build), .bool false], 78⟩] _ 0 ⟨b7, ZE, 78⟩ (off := 0) (zC (gF c)) rfl rfl (ZZ (yQ ⟨b6, b7, _, rfl, ZU⟩))))))))
    refine Zy [] _ (.agg ZE) rfl rfl (fun b6 => wS 4 5 (by kernel_rfl) ?_ ?_)
    · exact Zx [⟨b6, ZE, 78⟩] _ (k := 174) (args := #[coV c]) (zC (gF c)) rfl (fun w _ => wL c w hc hp) (Zz 5 (Zy [⟨b6, ZE, 78⟩] _ (.agg ZE) rfl rfl (fun b7 => Zz 7 (ZS [⟨b7, ZE, 78⟩, ⟨b6, ZE, 78⟩] _ 0 ⟨b7, ZE, 78⟩ (off := 0) (.agg #[.int .i64 0, .int .i64 c.v.maj, .int .i64 c.v.min, .int .i64 c.v.pat, .string (mkS c.v.pre), .string (mkS c.v.build), .bool false]) rfl rfl (Zz 8 (ZS [⟨b7, #[.int .i64 0, .int .i64 c.v.maj, .int .i64 c.v.min, .int .i64 c.v.pat, .string (mkS c.v.pre), .string (mkS c.v.build), .bool false], 78⟩, ⟨b6, ZE, 78⟩] _ 1 ⟨b6, ZE, 78⟩ (off := 0) (zC (gF c)) rfl rfl (ZZ (uL (yQ ⟨b7, b6, _, rfl, ZU⟩)))))))))
    exact Zy [⟨b6, ZE, 78⟩] _ (.agg ZE) rfl rfl (fun b7 => Zz 4 (Zx [⟨b7, ZE, 78⟩, ⟨b6, ZE, 78⟩] _ (k := 174) (args := #[coV c]) (zC (gF c)) rfl (fun w _ => wL c w hc hp) (Zz 7 (ZS [⟨b7, ZE, 78⟩, ⟨b6, ZE, 78⟩] _ 0 ⟨b7, ZE, 78⟩ (off := 0) (.agg #[.int .i64 0, .int .i64 c.v.maj, .int .i64 c.v.min, .int .i64 c.v.pat, .string (mkS c.v.pre), .string (mkS c.v.build), .bool false]) rfl rfl (Zz 8 (ZS [⟨b7, #[.int .i64 0, .int .i64 c.v.maj, .int .i64 c.v.min, .int .i64 c.v.pat, .string (mkS c.v.pre), .string (mkS c.v.build), .bool false], 78⟩, ⟨b6, ZE, 78⟩] _ 1 ⟨b6, ZE, 78⟩ (off := 0) (zC (gF c)) rfl rfl (ZZ (uL (yQ ⟨b7, b6, _, rfl, ZU⟩)))))))))
  · rintro L f ⟨p6, p7, j, rfl, rfl⟩
    refine xM (L' := [⟨b3, ZE, 78⟩, ⟨b2, ZE, 78⟩, ⟨p7, (zC (gF c)).cells, 78⟩, ⟨p6, (zC ⟨0, c.v, false⟩).cells, 78⟩, ⟨b5, Z8, 78⟩, ⟨b4, Z7, 78⟩, ⟨b1, (coV c).cells, 51⟩]) (fun w hO => hO.perm ((List.perm_append_comm (l₁ := [_, _]) (l₂ := [_, _])).append_right [_, _, _])) (z8 (z7 (ZO (Zv (Zp b1 0) (Zl 6 ⟨b1, (coV c).cells, 51⟩ (off := 0) (.int .i64 c.op) (ZN (zL (z7 (zA ?_)))))))))
    by_cases h1 : (c.op : Int) = 3
    · refine Zg h1 (Zv Z4 (ZY (z7 (xO ([⟨p7, (zC (gF c)).cells, 78⟩, ⟨p6, (zC ⟨0, c.v, false⟩).cells, 78⟩, ⟨b5, Z8, 78⟩, ⟨b4, Z7, 78⟩, ⟨b1, (coV c).cells, 51⟩]) (by kernel_rfl) (fun w hO => Own.sub [⟨b3, ZE, 78⟩, ⟨b2, ZE, 78⟩] hO) (ZL 0 [⟨b3, ZE, 78⟩, ⟨b2, ZE, 78⟩] _ 3 ⟨b4, Z7, 78⟩ (off := 0) (.agg Z7) (zG (zJ (zG zI))) rfl rfl (ZL 1 [⟨b3, ZE, 78⟩, ⟨b2, ZE, 78⟩] _ 1 ⟨p6, (zC ⟨0, c.v, false⟩).cells, 78⟩ (off := 0) (zC ⟨0, c.v, false⟩) (zG (zJ (zG zI))) rfl rfl (Zz 2 (ZS [⟨b3, ZE, 78⟩, ⟨b2, ZE, 78⟩] _ 1 ⟨b2, ZE, 78⟩ (off := 0) (.agg Z7) rfl rfl (Zz 3 ?_)))))))))
      exact ZS [⟨b3, ZE, 78⟩, ⟨b2, Z7, 78⟩] _ 0 ⟨b3, ZE, 78⟩ (off := 0) (zC ⟨0, c.v, false⟩) rfl rfl (ZZ (z8 (zB (zF (z6 (ZH 1 0 ⟨b2, Z7, 78⟩ ⟨b3, (zC ⟨0, c.v, false⟩).cells, 78⟩ (off := 0) (oft := 0) (.agg Z7) (zC ⟨0, c.v, false⟩) Tryz.results134 (fun w hO => ⟨by rw [show qX c = ((zX (-1)), ⟨0, c.v, false⟩) from by unfold qX; simp [h1]]; try rfl, hO.below⟩)))))))
    refine Zh h1 (Zv Z5 (ZX (z7 (zA ?_))))
    by_cases h2 : (c.op : Int) = 4
    · refine Zg h2 (Zv Z4 (ZY (z7 (xO ([⟨p7, (zC (gF c)).cells, 78⟩, ⟨p6, (zC ⟨0, c.v, false⟩).cells, 78⟩, ⟨b5, Z8, 78⟩, ⟨b4, Z7, 78⟩, ⟨b1, (coV c).cells, 51⟩]) (by kernel_rfl) (fun w hO => Own.sub [⟨b3, ZE, 78⟩, ⟨b2, ZE, 78⟩] hO) (ZL 0 [⟨b3, ZE, 78⟩, ⟨b2, ZE, 78⟩] _ 3 ⟨b4, Z7, 78⟩ (off := 0) (.agg Z7) (zG (zJ (zG zI))) rfl rfl (ZL 1 [⟨b3, ZE, 78⟩, ⟨b2, ZE, 78⟩] _ 0 ⟨p7, (zC (gF c)).cells, 78⟩ (off := 0) (zC (gF c)) (zG (zJ (zG zI))) rfl rfl (Zz 2 (ZS [⟨b3, ZE, 78⟩, ⟨b2, ZE, 78⟩] _ 1 ⟨b2, ZE, 78⟩ (off := 0) (.agg Z7) rfl rfl (Zz 3 ?_)))))))))
      exact ZS [⟨b3, ZE, 78⟩, ⟨b2, Z7, 78⟩] _ 0 ⟨b3, ZE, 78⟩ (off := 0) (zC (gF c)) rfl rfl (ZZ (z8 (zB (zF (z6 (ZH 1 0 ⟨b2, Z7, 78⟩ ⟨b3, (zC (gF c)).cells, 78⟩ (off := 0) (oft := 0) (.agg Z7) (zC (gF c)) Tryz.results134 (fun w hO => ⟨by rw [show qX c = ((zX (-1)), (gF c)) from by unfold qX; simp [h1, h2]]; try rfl, hO.below⟩)))))))
    refine Zh h2 (Zv Z5 (ZX (z7 (zA ?_))))
    by_cases h3 : (c.op : Int) = 5
    · refine Zg h3 (Zv Z4 (ZY (z7 (xO ([⟨p7, (zC (gF c)).cells, 78⟩, ⟨p6, (zC ⟨0, c.v, false⟩).cells, 78⟩, ⟨b5, Z8, 78⟩, ⟨b4, Z7, 78⟩, ⟨b1, (coV c).cells, 51⟩]) (by kernel_rfl) (fun w hO => Own.sub [⟨b3, ZE, 78⟩, ⟨b2, ZE, 78⟩] hO) (ZL 0 [⟨b3, ZE, 78⟩, ⟨b2, ZE, 78⟩] _ 0 ⟨p7, (zC (gF c)).cells, 78⟩ (off := 0) (zC (gF c)) (zG (zJ (zG zI))) rfl rfl (ZL 1 [⟨b3, ZE, 78⟩, ⟨b2, ZE, 78⟩] _ 2 ⟨b5, Z8, 78⟩ (off := 0) (.agg Z8) (zG (zJ (zG zI))) rfl rfl (Zz 2 (ZS [⟨b3, ZE, 78⟩, ⟨b2, ZE, 78⟩] _ 1 ⟨b2, ZE, 78⟩ (off := 0) (zC (gF c)) rfl rfl (Zz 3 ?_)))))))))
      exact ZS [⟨b3, ZE, 78⟩, ⟨b2, (zC (gF c)).cells, 78⟩] _ 0 ⟨b3, ZE, 78⟩ (off := 0) (.agg Z8) rfl rfl (ZZ (z8 (zB (zF (z6 (ZH 1 0 ⟨b2, (zC (gF c)).cells, 78⟩ ⟨b3, Z8, 78⟩ (off := 0) (oft := 0) (zC (gF c)) (.agg Z8) Tryz.results134 (fun w hO => ⟨by rw [show qX c = ((gF c), (zX 1)) from by unfold qX; simp [h1, h2, h3]]; try rfl, hO.below⟩)))))))
    refine Zh h3 (Zv Z5 (ZX (z7 (zA ?_))))
    by_cases h4 : (c.op : Int) = 6
    · refine Zg h4 (Zv Z4 (ZY (z7 (xO ([⟨p7, (zC (gF c)).cells, 78⟩, ⟨p6, (zC ⟨0, c.v, false⟩).cells, 78⟩, ⟨b5, Z8, 78⟩, ⟨b4, Z7, 78⟩, ⟨b1, (coV c).cells, 51⟩]) (by kernel_rfl) (fun w hO => Own.sub [⟨b3, ZE, 78⟩, ⟨b2, ZE, 78⟩] hO) (ZL 0 [⟨b3, ZE, 78⟩, ⟨b2, ZE, 78⟩] _ 1 ⟨p6, (zC ⟨0, c.v, false⟩).cells, 78⟩ (off := 0) (zC ⟨0, c.v, false⟩) (zG (zJ (zG zI))) rfl rfl (ZL 1 [⟨b3, ZE, 78⟩, ⟨b2, ZE, 78⟩] _ 2 ⟨b5, Z8, 78⟩ (off := 0) (.agg Z8) (zG (zJ (zG zI))) rfl rfl (Zz 2 (ZS [⟨b3, ZE, 78⟩, ⟨b2, ZE, 78⟩] _ 1 ⟨b2, ZE, 78⟩ (off := 0) (zC ⟨0, c.v, false⟩) rfl rfl (Zz 3 ?_)))))))))
      exact ZS [⟨b3, ZE, 78⟩, ⟨b2, (zC ⟨0, c.v, false⟩).cells, 78⟩] _ 0 ⟨b3, ZE, 78⟩ (off := 0) (.agg Z8) rfl rfl (ZZ (z8 (zB (zF (z6 (ZH 1 0 ⟨b2, (zC ⟨0, c.v, false⟩).cells, 78⟩ ⟨b3, Z8, 78⟩ (off := 0) (oft := 0) (zC ⟨0, c.v, false⟩) (.agg Z8) Tryz.results134 (fun w hO => ⟨by rw [show qX c = (⟨0, c.v, false⟩, (zX 1)) from by unfold qX; simp [h1, h2, h3, h4]]; try rfl, hO.below⟩)))))))
    refine Zh h4 (Zv Z5 (ZX (z7 (zA ?_))))
    by_cases h5 : (c.op : Int) = 7
    · refine Zg h5 (Zv Z4 (ZY (z7 (xO ([⟨p7, (zC (gF c)).cells, 78⟩, ⟨p6, (zC ⟨0, c.v, false⟩).cells, 78⟩, ⟨b5, Z8, 78⟩, ⟨b4, Z7, 78⟩, ⟨b1, (coV c).cells, 51⟩]) (by kernel_rfl) (fun w hO => Own.sub [⟨b3, ZE, 78⟩, ⟨b2, ZE, 78⟩] hO) (ZL 0 [⟨b3, ZE, 78⟩, ⟨b2, ZE, 78⟩] _ 1 ⟨p6, (zC ⟨0, c.v, false⟩).cells, 78⟩ (off := 0) (zC ⟨0, c.v, false⟩) (zG (zJ (zG zI))) rfl rfl (ZT 1 [⟨b3, ZE, 78⟩, ⟨b2, ZE, 78⟩] _ (Zp b1 2) (zG (zJ (zG zI))) rfl (ZL 2 [⟨b3, ZE, 78⟩, ⟨b2, ZE, 78⟩] _ 4 ⟨b1, (coV c).cells, 51⟩ (off := 2) (.agg (ZP c.v)) (zG (zJ (zG zI))) rfl rfl (ZL 3 [⟨b3, ZE, 78⟩, ⟨b2, ZE, 78⟩] _ 4 ⟨b1, (coV c).cells, 51⟩ (off := 0) (coV c) (zG (zJ (zG zI))) rfl rfl (Zz 4 ?_)))))))))
      refine Zx [⟨b3, ZE, 78⟩, ⟨b2, ZE, 78⟩] _ (k := 176) (args := #[coV c]) (.int .i64 (vX c)) rfl (fun w _ => clead_any c w hc hp) (Zz 5 (Zx [⟨b3, ZE, 78⟩, ⟨b2, ZE, 78⟩] _ (k := 175) (args := #[.agg (ZP c.v), .int .i64 (vX c)]) (zC (kI c.v (vX c).toNat)) rfl (fun w _ => jA (by unfold jI; rw [if_neg (by omega)]) (chigh_any c.v (vX c) w hc (by omega))) (Zz 6 (ZS [⟨b3, ZE, 78⟩, ⟨b2, ZE, 78⟩] _ 1 ⟨b2, ZE, 78⟩ (off := 0) (zC ⟨0, c.v, false⟩) rfl rfl (Zz 7 (ZS [⟨b3, ZE, 78⟩, ⟨b2, (zC ⟨0, c.v, false⟩).cells, 78⟩] _ 0 ⟨b3, ZE, 78⟩ (off := 0) (zC (kI c.v (vX c).toNat)) rfl rfl (ZZ (z8 (zB (zF (z6 ?_)))))))))))
      exact ZH 1 0 ⟨b2, (zC ⟨0, c.v, false⟩).cells, 78⟩ ⟨b3, (zC (kI c.v (vX c).toNat)).cells, 78⟩ (off := 0) (oft := 0) (zC ⟨0, c.v, false⟩) (zC (kI c.v (vX c).toNat)) Tryz.results134 (fun w hO => ⟨by rw [show qX c = (⟨0, c.v, false⟩, (kI c.v (vX c).toNat)) from by unfold qX; simp [h1, h2, h3, h4, h5]]; try rfl, hO.below⟩)
    refine Zh h5 (Zv Z5 (ZX (z7 (zA ?_))))
    by_cases h6 : (c.op : Int) = 8
    · refine Zg h6 (Zv Z4 (ZY (z7 (xO ([⟨p7, (zC (gF c)).cells, 78⟩, ⟨p6, (zC ⟨0, c.v, false⟩).cells, 78⟩, ⟨b5, Z8, 78⟩, ⟨b4, Z7, 78⟩, ⟨b1, (coV c).cells, 51⟩]) (by kernel_rfl) (fun w hO => Own.sub [⟨b3, ZE, 78⟩, ⟨b2, ZE, 78⟩] hO) (ZL 0 [⟨b3, ZE, 78⟩, ⟨b2, ZE, 78⟩] _ 1 ⟨p6, (zC ⟨0, c.v, false⟩).cells, 78⟩ (off := 0) (zC ⟨0, c.v, false⟩) (zG (zJ (zG zI))) rfl rfl (ZT 1 [⟨b3, ZE, 78⟩, ⟨b2, ZE, 78⟩] _ (Zp b1 2) (zG (zJ (zG zI))) rfl (ZL 2 [⟨b3, ZE, 78⟩, ⟨b2, ZE, 78⟩] _ 4 ⟨b1, (coV c).cells, 51⟩ (off := 2) (.agg (ZP c.v)) (zG (zJ (zG zI))) rfl rfl (ZT 3 [⟨b3, ZE, 78⟩, ⟨b2, ZE, 78⟩] _ (Zp b1 1) (zG (zJ (zG zI))) rfl (ZL 4 [⟨b3, ZE, 78⟩, ⟨b2, ZE, 78⟩] _ 4 ⟨b1, (coV c).cells, 51⟩ (off := 1) (.int .i64 c.parts) (zG (zJ (zG zI))) rfl rfl ?_)))))))))
      refine hl_sum (k := .i64) 5 _ ((c.parts : Int) - 1) rfl (by kernel_rfl) (by kernel_rfl) (by kernel_rfl) (zG (zJ (zG zI))) (fun w hO => Own.sub [⟨b3, ZE, 78⟩, ⟨b2, ZE, 78⟩] hO) (by kernel_rfl) (fun _ => by kernel_rfl) (IntWalk.i64_in _ (by omega)) (uK 6 [⟨b3, ZE, 78⟩, ⟨b2, ZE, 78⟩] _ (.int .i64 (min ((c.parts : Int) - 1) (1 : Int))) rfl (by kernel_rfl) (by kernel_rfl) (by kernel_rfl) (zG (zJ (zG zI))) (by kernel_rfl) (fun w _ => run_min2 (k := .i64) (q := .i64) (i := (c.parts : Int) - 1) (j := 1) rfl (by kernel_rfl) (by kernel_rfl) w) (Zz 7 (Zx [⟨b3, ZE, 78⟩, ⟨b2, ZE, 78⟩] _ (k := 175) (args := #[.agg (ZP c.v), .int .i64 (min ((c.parts : Int) - 1) (1 : Int))]) (zC (kI c.v (min (c.parts - 1) 1).toNat)) rfl (fun w _ => jA (by unfold jI; rw [if_neg (by omega)]) (chigh_any c.v (min ((c.parts : Int) - 1) (1 : Int)) w hc (by omega))) (Zz 8 (ZS [⟨b3, ZE, 78⟩, ⟨b2, ZE, 78⟩] _ 1 ⟨b2, ZE, 78⟩ (off := 0) (zC ⟨0, c.v, false⟩) rfl rfl (Zz 9 (ZS [⟨b3, ZE, 78⟩, ⟨b2, (zC ⟨0, c.v, false⟩).cells, 78⟩] _ 0 ⟨b3, ZE, 78⟩ (off := 0) (zC (kI c.v (min (c.parts - 1) 1).toNat)) rfl rfl (ZZ (z8 (zB (zF ?_)))))))))))
      exact z6 (ZH 1 0 ⟨b2, (zC ⟨0, c.v, false⟩).cells, 78⟩ ⟨b3, (zC (kI c.v (min (c.parts - 1) 1).toNat)).cells, 78⟩ (off := 0) (oft := 0) (zC ⟨0, c.v, false⟩) (zC (kI c.v (min (c.parts - 1) 1).toNat)) Tryz.results134 (fun w hO => ⟨by rw [show qX c = (⟨0, c.v, false⟩, (kI c.v (min (c.parts - 1) 1).toNat)) from by unfold qX; simp [h1, h2, h3, h4, h5, h6]]; try rfl, hO.below⟩))
    refine Zh h6 (Zv Z5 (ZX (yC (zQ (z8 (z7 (ZO (Zv (Zp b1 1) ?_))))))))
    refine Zl 6 ⟨b1, (coV c).cells, 51⟩ (off := 1) (.int .i64 c.parts) ?_
    by_cases h7 : (c.parts : Int) = 0
    · refine Zg h7 (ZY (z7 (xO ([⟨p7, (zC (gF c)).cells, 78⟩, ⟨p6, (zC ⟨0, c.v, false⟩).cells, 78⟩, ⟨b5, Z8, 78⟩, ⟨b4, Z7, 78⟩, ⟨b1, (coV c).cells, 51⟩]) (by kernel_rfl) (fun w hO => Own.sub [⟨b3, ZE, 78⟩, ⟨b2, ZE, 78⟩] hO) (ZL 0 [⟨b3, ZE, 78⟩, ⟨b2, ZE, 78⟩] _ 3 ⟨b4, Z7, 78⟩ (off := 0) (.agg Z7) (zG (zG zI)) rfl rfl (ZL 1 [⟨b3, ZE, 78⟩, ⟨b2, ZE, 78⟩] _ 2 ⟨b5, Z8, 78⟩ (off := 0) (.agg Z8) (zG (zG zI)) rfl rfl (Zz 2 (ZS [⟨b3, ZE, 78⟩, ⟨b2, ZE, 78⟩] _ 1 ⟨b2, ZE, 78⟩ (off := 0) (.agg Z7) rfl rfl (Zz 3 (ZS [⟨b3, ZE, 78⟩, ⟨b2, Z7, 78⟩] _ 0 ⟨b3, ZE, 78⟩ (off := 0) (.agg Z8) rfl rfl ?_)))))))))
      exact ZZ (z8 (zB (z6 (ZH 1 0 ⟨b2, Z7, 78⟩ ⟨b3, Z8, 78⟩ (off := 0) (oft := 0) (.agg Z7) (.agg Z8) Tryz.results134 (fun w hO => ⟨by rw [show qX c = ((zX (-1)), (zX 1)) from by unfold qX; simp [h1, h2, h3, h4, h5, h6, h7]]; try rfl, hO.below⟩)))))
    refine Zh h7 (ZX (ZB (z7 (xO ([⟨p7, (zC (gF c)).cells, 78⟩, ⟨p6, (zC ⟨0, c.v, false⟩).cells, 78⟩, ⟨b5, Z8, 78⟩, ⟨b4, Z7, 78⟩, ⟨b1, (coV c).cells, 51⟩]) (by kernel_rfl) (fun w hO => Own.sub [⟨b3, ZE, 78⟩, ⟨b2, ZE, 78⟩] hO) (ZL 0 [⟨b3, ZE, 78⟩, ⟨b2, ZE, 78⟩] _ 1 ⟨p6, (zC ⟨0, c.v, false⟩).cells, 78⟩ (off := 0) (zC ⟨0, c.v, false⟩) (zG zI) rfl rfl (ZL 1 [⟨b3, ZE, 78⟩, ⟨b2, ZE, 78⟩] _ 0 ⟨p7, (zC (gF c)).cells, 78⟩ (off := 0) (zC (gF c)) (zG zI) rfl rfl (Zz 2 (ZS [⟨b3, ZE, 78⟩, ⟨b2, ZE, 78⟩] _ 1 ⟨b2, ZE, 78⟩ (off := 0) (zC ⟨0, c.v, false⟩) rfl rfl ?_))))))))
    exact Zz 3 (ZS [⟨b3, ZE, 78⟩, ⟨b2, (zC ⟨0, c.v, false⟩).cells, 78⟩] _ 0 ⟨b3, ZE, 78⟩ (off := 0) (zC (gF c)) rfl rfl (ZZ (z8 (zB (ZH 1 0 ⟨b2, (zC ⟨0, c.v, false⟩).cells, 78⟩ ⟨b3, (zC (gF c)).cells, 78⟩ (off := 0) (oft := 0) (zC ⟨0, c.v, false⟩) (zC (gF c)) Tryz.results134 (fun w hO => ⟨by rw [show qX c = (⟨0, c.v, false⟩, (gF c)) from by unfold qX; simp [h1, h2, h3, h4, h5, h6, h7]]; try rfl, hO.below⟩))))))
theorem one_row {lo hi : Cu} : (if k8 [⟨lo, hi⟩] then jG [⟨lo, hi⟩] else []) = kQ lo hi := by
  rw [v7]
  by_cases h : zV lo hi < 0
  · have hm := bC h
    rw [if_pos h, if_pos (show k8 [⟨lo, hi⟩] = true from allMay_mem.2 fun s hs => by rw [List.mem_singleton.1 hs]; exact hm)]
    exact make_self (show zR [⟨lo, hi⟩] = true from hm)
  · rw [if_neg h, if_neg (fun q => h (wQ (allMay_mem.1 q _ (List.mem_singleton.2 rfl))))]
theorem m8 (lo hi : Cu) (W : World) (hl : lo.short) (hh : hi.short) : Calls Tryz.prog 133 #[zC lo, zC hi] W fun e w' => ∃ v' ob', e = .returned v' ∧ SlS v' (kQ lo hi) ob' ∧ Own [] W w' ob' := by
  refine Z2 (n := 16) Tryz.func133 rfl (ZO (Zb (zC lo) (fun b1 => Zb (zC hi) (fun b2 => Zv (.slice none 0 0) (ZR (Zl 1 ⟨b1, (zC lo).cells, 78⟩ (off := 0) (zC lo) (Zl 0 ⟨b2, (zC hi).cells, 78⟩ (off := 0) (zC hi) ?_)))))))
  refine Zv (.agg (ZJ2 lo hi)) (qC 80 (ZJ2 lo hi) (by kernel_rfl) rfl (fun _ => by kernel_rfl) (fun b3 => Zr (k := 136) (args := #[.slice (some ⟨b3, 0, none⟩) 1 1]) (fun v' L' => ∃ mv ob', v' = .tuple #[mv, .bool (k8 [⟨lo, hi⟩])] ∧ L' = ob' ++ ([⟨b3, (ZJ2 lo hi), 80⟩, ⟨b2, (zC hi).cells, 78⟩, ⟨b1, (zC lo).cells, 78⟩]) ∧ SlS mv (kQ lo hi) ob') (fun w hO => (nK (some ⟨b3, 0, none⟩) 1 [⟨lo, hi⟩] w (Sl.reads (slit6 ⟨lo, hi⟩ b3 (ZJ2 lo hi) (by kernel_rfl)) rfl hO (fun x hx => by rw [List.mem_singleton.1 hx]; exact List.mem_cons_self)) (by show 1 ≤ _; decide) (fun s hs => by rw [List.mem_singleton.1 hs]; exact ⟨hl, hh⟩)).mono fun e w' ⟨v', ob', k1, k2, k3⟩ => ⟨_, _, k1, ⟨v', ob', rfl, rfl, by rw [one_row] at k2; exact k2⟩, Own.joinN hO k3⟩) (fun tv L2 hv2 => ?_)))
  obtain ⟨v2, o2, rfl, rfl, hr2⟩ := hv2
  refine Zv (.tuple #[v2, .bool (k8 [⟨lo, hi⟩])]) (Zv (v2) (Zv (.bool (k8 [⟨lo, hi⟩])) (Zv (v2) (Zv (.bool (k8 [⟨lo, hi⟩])) (ZR (Zv (v2) (Zv (v2) (zP ?_))))))))
  exact z8 (zB (ZF (v2) Tryz.results133 (fun w hO => ⟨v2, o2, rfl, hr2, hO.sublist (List.sublist_append_left _ _)⟩)))
theorem oneRow_len6 (lo hi : Cu) : (kQ lo hi).length ≤ 1 := by have := pA [] lo hi; simpa [kQ] using this
theorem oneRow_short6 {lo hi : Cu} (hl : lo.short) (hh : hi.short) : x8 (kQ lo hi) := fun s hs => by
  rw [v7] at hs
  split at hs
  · rw [List.mem_singleton.1 hs]; exact ⟨hl, hh⟩
  · cases hs
theorem cRegion_any (c : Co) (W : World) (hc : c.short) : Calls Tryz.prog 82 #[coV c] W fun e w' => ∃ v' ob', e = .returned v' ∧ SlS v' c.region ob' ∧ Own [] W w' ob' := by
  have hs1 := (fL hc).1
  have hs2 := (fL hc).2
  refine Z2 (n := 18) Tryz.func82 rfl (ZO (Zb (coV c) (fun b1 => Zv (.slice none 0 0) (ZN (z7 (ZO (Zl 0 ⟨b1, (coV c).cells, 51⟩ (off := 0) (coV c) (Zc (k := 73) (args := #[coV c]) (.bool c.may) (fun w _ => cMay_any c w hc) ?_))))))))
  cases h1 : c.may with
  | true =>
    refine Zv Z5 (ZX (ZB (ZO (Zl 0 ⟨b1, (coV c).cells, 51⟩ (off := 0) (coV c) (Zc (k := 134) (args := #[coV c]) (.tuple #[zC c.span.1, zC c.span.2]) (fun w _ => jA (by rw [bound_span h1]) (cbounds_any c w hc (Co.facts h1).1 (parts_in h1))) (Zv (zC c.span.1) (Zv (zC c.span.2) ?_)))))))
    refine Zr (k := 133) (args := #[zC c.span.1, zC c.span.2]) (fun v' L' => ∃ ob', L' = ob' ++ ([⟨b1, (coV c).cells, 51⟩]) ∧ SlS v' (kQ c.span.1 c.span.2) ob') (fun w hO => (m8 c.span.1 c.span.2 w hs1 hs2).mono fun e w' ⟨v', ob', k1, k2, k3⟩ => ⟨v', _, k1, ⟨ob', rfl, k2⟩, Own.joinN hO k3⟩) (fun v1 L1 hv1 => ?_)
    obtain ⟨o1, rfl, hr1⟩ := hv1
    obtain ⟨V1, c1, rfl⟩ := hr1.form
    refine Zv (.slice V1 ((kQ c.span.1 c.span.2).length) c1) (ZN (z7 (ZO (Zv (Zp b1 0) (d7 ⟨b1, (coV c).cells, 51⟩ (off := 0) (.int .i64 c.op) (by kernel_rfl) rfl (by simp) (by kernel_rfl) (by kernel_rfl) ?_)))))
    by_cases h2 : (c.op : Int) = 2
    · refine Zg h2 (ZY (ZO (Zv (.slice V1 ((kQ c.span.1 c.span.2).length) c1) (Zr (k := 135) (args := #[.slice V1 (kQ c.span.1 c.span.2).length c1]) (fun v' L' => ∃ ob', L' = ob' ++ (o1 ++ ([⟨b1, (coV c).cells, 51⟩])) ∧ SlS v' (vP (kQ c.span.1 c.span.2)) ob') (fun w hO => (not4_any V1 c1 (kQ c.span.1 c.span.2) w (Sl.reads hr1 rfl hO (fun x hx => by simp [hx])) (Nat.le_trans (oneRow_len6 _ _) (by decide)) (oneRow_short6 hs1 hs2)).mono fun e w' ⟨v', ob', k1, k2, k3⟩ => ⟨v', _, k1, ⟨ob', rfl, by rw [if_pos (oneRow_may _ _)] at k2; exact k2⟩, Own.joinN hO k3⟩) (fun v3 L3 hv3 => ?_)))))
      obtain ⟨o3, rfl, hr3⟩ := hv3
      exact Zv (v3) (ZN (zB (z6 (ZF (v3) Tryz.results82 (fun w hO => ⟨v3, o3, rfl, by rw [show c.region = vP (kQ c.span.1 c.span.2) from by unfold Co.region; rw [if_pos (by assumption), if_pos h2]]; exact hr3, hO.sublist (List.sublist_append_left _ _)⟩)))))
    refine Zh h2 (ZX (ZB (ZO (Zv (.slice V1 ((kQ c.span.1 c.span.2).length) c1) (Zv (.slice V1 ((kQ c.span.1 c.span.2).length) c1) (zP (z8 ?_)))))))
    exact zB (ZF (.slice V1 ((kQ c.span.1 c.span.2).length) c1) Tryz.results82 (fun w hO => ⟨_, o1, rfl, by rw [show c.region = kQ c.span.1 c.span.2 from by unfold Co.region; rw [if_pos (by assumption), if_neg h2]]; exact hr1, hO.sublist (List.sublist_append_left _ _)⟩))
  | false =>
    refine Zv Z4 (ZY (ZO (Zv (.slice none 0 0) (ZN (zB (z6 (ZF (.slice none 0 0) Tryz.results82 ?_)))))))
    exact fun w hO => ⟨_, [], rfl, by rw [show c.region = [] from by unfold Co.region; simp [h1]]; exact Sl.nil _ _, kF hO⟩
theorem zone_one {c : Co} (h : c.may = true) (hp : ¬ c.v.pre = []) : c.zone = kQ ⟨0, { c.v with pre := [48] }, false⟩ ⟨0, { c.v with pre := [] }, false⟩ := by
  have hb := (Co.facts h).2.2.1
  have hz : c.zone = [⟨⟨0, { c.v with pre := [48], build := [] }, false⟩, ⟨0, { c.v with pre := [], build := [] }, false⟩⟩] := by
    unfold Co.zone
    rw [h, decide_eq_false hp]; rfl
  have hm : zR c.zone = true := zone_may
  have e1 : ({ c.v with pre := [48] } : Ver) = { c.v with pre := [48], build := [] } := by rw [← hb]
  have e2 : ({ c.v with pre := [] } : Ver) = { c.v with pre := [], build := [] } := by rw [← hb]
  rw [e1, e2, v7]
  rw [hz] at hm ⊢
  rw [if_pos (wQ (show Sp.may _ = true from xJ hm _ (List.mem_singleton.2 rfl)))]
theorem cZone_any (c : Co) (W : World) (hc : c.short) : Calls Tryz.prog 84 #[coV c] W fun e w' => ∃ v' ob', e = .returned v' ∧ SlS v' c.zone ob' ∧ Own [] W w' ob' := by
  have hl1 : (⟨0, { c.v with pre := [48] }, false⟩ : Cu).short := ⟨by show ([48] : List UInt8).length ≤ _; decide, hc.2⟩
  have hb1 : (⟨0, { c.v with pre := [] }, false⟩ : Cu).short := ⟨Nat.zero_le _, hc.2⟩
  refine Z2 (n := 25) Tryz.func84 rfl (ZO (Zb (coV c) (fun b1 => Zv (.slice none 0 0) (ZN (z7 (ZO (Zl 0 ⟨b1, (coV c).cells, 51⟩ (off := 0) (coV c) (Zc (k := 73) (args := #[coV c]) (.bool c.may) (fun w _ => cMay_any c w hc) ?_))))))))
  cases h1 : c.may with
  | true =>
    refine Zv Z5 (Zv Z5 (Zv (Zp b1 2) (Zv (Zp b1 5) (Zl 0 ⟨b1, (coV c).cells, 51⟩ (off := 5) (.string (mkS c.v.pre)) ?_))))
    by_cases h2 : (c.v.pre : List UInt8) = []
    · refine zU Z4 (by kernel_rfl) (yM (a := c.v.pre) (b := ([])) rfl (by kernel_rfl) (by kernel_rfl) (decide_eq_true (h2))) (Zv Z4 (ZY (ZO (Zv (.slice none 0 0) (ZN (zB (z6 ?_)))))))
      exact ZF (.slice none 0 0) Tryz.results84 (fun w hO => ⟨_, [], rfl, by rw [show c.zone = [] from by unfold Co.zone; simp [h1, h2]]; exact Sl.nil _ _, kF hO⟩)
    refine zU Z5 (by kernel_rfl) (yM (a := c.v.pre) (b := ([])) rfl (by kernel_rfl) (by kernel_rfl) (decide_eq_false (h2))) (Zv Z5 (ZX (ZB (z7 (uF (by kernel_rfl) (ZT 0 [] _ (Zp b1 2) (zG zI) rfl (ZL 1 [] _ 0 ⟨b1, (coV c).cells, 51⟩ (off := 2) (.agg (ZP c.v)) (zG zI) rfl rfl (ZT 2 [] _ (Zp b1 2) (zG zI) rfl ?_))))))))
    refine ZL 3 [] _ 0 ⟨b1, (coV c).cells, 51⟩ (off := 2) (.agg (ZP c.v)) (zG zI) rfl rfl (wS 4 5 (by kernel_rfl) ?_ ?_)
    · refine Zy [] _ (.agg Z1) rfl rfl (fun b2 => Zz 5 (Zy [⟨b2, Z1, 44⟩] _ (.agg Z1) rfl rfl (fun b3 => Zz 6 (ZS [⟨b3, Z1, 44⟩, ⟨b2, Z1, 44⟩] _ 1 ⟨b2, Z1, 44⟩ (off := 0) (.agg (ZP c.v)) rfl rfl (Zz 7 (ZS [⟨b3, Z1, 44⟩, ⟨b2, (ZP c.v), 44⟩] _ 0 ⟨b3, Z1, 44⟩ (off := 0) (.agg (ZP c.v)) rfl rfl (ZZ (z8 (ZO (Zv (Zp b2 3) ?_))))))))))
      refine Zs 1 ⟨b2, (ZP c.v), 44⟩ (off := 3) (.string ⟨#[48]⟩) (Zv (Zp b3 3) (Zs 0 ⟨b3, (ZP c.v), 44⟩ (off := 3) (.string ⟨#[]⟩) (ZR (Zl 1 ⟨b2, #[.int .i64 c.v.maj, .int .i64 c.v.min, .int .i64 c.v.pat, .string ⟨#[48]⟩, .string (mkS c.v.build)], 44⟩ (off := 0) (.agg #[.int .i64 c.v.maj, .int .i64 c.v.min, .int .i64 c.v.pat, .string ⟨#[48]⟩, .string (mkS c.v.build)]) (Zv (.agg #[.int .i64 0, .int .i64 c.v.maj, .int .i64 c.v.min, .int .i64 c.v.pat, .string ⟨#[48]⟩, .string (mkS c.v.build), .bool false]) (Zl 0 ⟨b3, #[.int .i64 c.v.maj, .int .i64 c.v.min, .int .i64 c.v.pat, .string ⟨#[]⟩, .string (mkS c.v.build)], 44⟩ (off := 0) (.agg #[.int .i64 c.v.maj, .int .i64 c.v.min, .int .i64 c.v.pat, .string ⟨#[]⟩, .string (mkS c.v.build)]) (Zv (.agg #[.int .i64 0, .int .i64 c.v.maj, .int .i64 c.v.min, .int .i64 c.v.pat, .string ⟨#[]⟩, .string (mkS c.v.build), .bool false]) (Zr (k := 133) (args := #[.agg #[.int .i64 0, .int .i64 c.v.maj, .int .i64 c.v.min, .int .i64 c.v.pat, .string ⟨#[48]⟩, .string (mkS c.v.build), .bool false], .agg #[.int .i64 0, .int .i64 c.v.maj, .int .i64 c.v.min, .int .i64 c.v.pat, .string ⟨#[]⟩, .string (mkS c.v.build), .bool false]]) (fun v' L' => ∃ ob', L' = ob' ++ ([⟨b3, #[.int .i64 c.v.maj, .int .i64 c.v.min, .int .i64 c.v.pat, .string ⟨#[]⟩, .string (mkS c.v.build)], 44⟩, ⟨b2, #[.int .i64 c.v.maj, .int .i64 c.v.min, .int .i64 c.v.pat, .string ⟨#[48]⟩, .string (mkS c.v.build)], 44⟩, ⟨b1, (coV c).cells, 51⟩]) ∧ SlS v' (kQ (⟨0, { c.v with pre := [48] }, false⟩) (⟨0, { c.v with pre := [] }, false⟩)) ob') (fun w hO => (m8 (⟨0, { c.v with pre := [48] }, false⟩) (⟨0, { c.v with pre := [] }, false⟩) w hl1 hb1).mono fun e w' ⟨v', ob', k1, k2, k3⟩ => ⟨v', _, k1, ⟨ob', rfl, k2⟩, Own.joinN hO k3⟩) (fun v1 L1 hv1 => ?_)))))))))
      obtain ⟨o1, rfl, hr1⟩ := hv1
      obtain ⟨V1, c1, rfl⟩ := hr1.form
      exact Zv (.slice V1 ((kQ (⟨0, { c.v with pre := [48] }, false⟩) (⟨0, { c.v with pre := [] }, false⟩)).length) c1) (ZN (zB (ZF (.slice V1 ((kQ (⟨0, { c.v with pre := [48] }, false⟩) (⟨0, { c.v with pre := [] }, false⟩)).length) c1) Tryz.results84 (fun w hO => ⟨_, o1, rfl, by rw [zone_one h1 h2]; exact hr1, hO.sublist (List.sublist_append_left _ _)⟩))))
    refine Zy [] _ (.agg Z1) rfl rfl (fun b2 => Zz 4 (Zy [⟨b2, Z1, 44⟩] _ (.agg Z1) rfl rfl (fun b3 => Zz 6 (ZS [⟨b3, Z1, 44⟩, ⟨b2, Z1, 44⟩] _ 0 ⟨b3, Z1, 44⟩ (off := 0) (.agg (ZP c.v)) rfl rfl (Zz 7 (ZS [⟨b3, (ZP c.v), 44⟩, ⟨b2, Z1, 44⟩] _ 1 ⟨b2, Z1, 44⟩ (off := 0) (.agg (ZP c.v)) rfl rfl (ZZ (z8 (ZO (Zv (Zp b3 3) ?_))))))))))
    refine Zs 0 ⟨b3, (ZP c.v), 44⟩ (off := 3) (.string ⟨#[48]⟩) (Zv (Zp b2 3) (Zs 1 ⟨b2, (ZP c.v), 44⟩ (off := 3) (.string ⟨#[]⟩) (ZR (Zl 0 ⟨b3, #[.int .i64 c.v.maj, .int .i64 c.v.min, .int .i64 c.v.pat, .string ⟨#[48]⟩, .string (mkS c.v.build)], 44⟩ (off := 0) (.agg #[.int .i64 c.v.maj, .int .i64 c.v.min, .int .i64 c.v.pat, .string ⟨#[48]⟩, .string (mkS c.v.build)]) (Zv (.agg #[.int .i64 0, .int .i64 c.v.maj, .int .i64 c.v.min, .int .i64 c.v.pat, .string ⟨#[48]⟩, .string (mkS c.v.build), .bool false]) (Zl 1 ⟨b2, #[.int .i64 c.v.maj, .int .i64 c.v.min, .int .i64 c.v.pat, .string ⟨#[]⟩, .string (mkS c.v.build)], 44⟩ (off := 0) (.agg #[.int .i64 c.v.maj, .int .i64 c.v.min, .int .i64 c.v.pat, .string ⟨#[]⟩, .string (mkS c.v.build)]) (Zv (.agg #[.int .i64 0, .int .i64 c.v.maj, .int .i64 c.v.min, .int .i64 c.v.pat, .string ⟨#[]⟩, .string (mkS c.v.build), .bool false]) (Zr (k := 133) (args := #[.agg #[.int .i64 0, .int .i64 c.v.maj, .int .i64 c.v.min, .int .i64 c.v.pat, .string ⟨#[48]⟩, .string (mkS c.v.build), .bool false], .agg #[.int .i64 0, .int .i64 c.v.maj, .int .i64 c.v.min, .int .i64 c.v.pat, .string ⟨#[]⟩, .string (mkS c.v.build), .bool false]]) (fun v' L' => ∃ ob', L' = ob' ++ ([⟨b3, #[.int .i64 c.v.maj, .int .i64 c.v.min, .int .i64 c.v.pat, .string ⟨#[48]⟩, .string (mkS c.v.build)], 44⟩, ⟨b2, #[.int .i64 c.v.maj, .int .i64 c.v.min, .int .i64 c.v.pat, .string ⟨#[]⟩, .string (mkS c.v.build)], 44⟩, ⟨b1, (coV c).cells, 51⟩]) ∧ SlS v' (kQ (⟨0, { c.v with pre := [48] }, false⟩) (⟨0, { c.v with pre := [] }, false⟩)) ob') (fun w hO => (m8 (⟨0, { c.v with pre := [48] }, false⟩) (⟨0, { c.v with pre := [] }, false⟩) w hl1 hb1).mono fun e w' ⟨v', ob', k1, k2, k3⟩ => ⟨v', _, k1, ⟨ob', rfl, k2⟩, Own.joinN hO k3⟩) (fun v1 L1 hv1 => ?_)))))))))
    obtain ⟨o1, rfl, hr1⟩ := hv1
    obtain ⟨V1, c1, rfl⟩ := hr1.form
    exact Zv (.slice V1 ((kQ (⟨0, { c.v with pre := [48] }, false⟩) (⟨0, { c.v with pre := [] }, false⟩)).length) c1) (ZN (zB (ZF (.slice V1 ((kQ (⟨0, { c.v with pre := [48] }, false⟩) (⟨0, { c.v with pre := [] }, false⟩)).length) c1) Tryz.results84 (fun w hO => ⟨_, o1, rfl, by rw [zone_one h1 h2]; exact hr1, hO.sublist (List.sublist_append_left _ _)⟩))))
  | false =>
    refine Zv Z4 (Zv Z4 (Zk (Zk (Zk (Zk (Zv Z4 (ZY (z7 (zA ?_)))))))))
    exact Zv (.slice none 0 0) (ZN (zB (z6 (ZF (.slice none 0 0) Tryz.results84 (fun w hO => ⟨_, [], rfl, by rw [show c.zone = [] from by unfold Co.zone; simp [h1]]; exact Sl.nil _ _, kF hO⟩)))))
end
section
theorem last_pl {l : List (List UInt8)} (h : 1 ≤ l.length) {x : List UInt8} (hx : tg l (l.length - 1) = x) : l.getLast? = some x := by
  rw [List.getLast?_eq_getElem?, List.getElem?_eq_getElem (by omega), wA (by omega), hx]
theorem guess_is {s r ah tl : List UInt8} {op : Int} {pl : List (List UInt8)} (h1 : (sgo s 8).1 = op) (h2 : (sgo s 8).2 = r) (h3 : (yH 45 r).1 = ah) (h4 : (yH 45 r).2.1 = tl) (h5 : wH 2 ah = pl) {x : List UInt8} (hx : tg pl (pl.length - 1) = x) (hl : 1 ≤ pl.length) :
    jC s = if x = [42] then (⟨9, ((pl.length : Int) - 1), ⟨zS (tg pl 0), zS (tg pl 1), zS (tg pl 2), tl, []⟩⟩ : Co) else (⟨op, (pl.length : Int), ⟨zS (tg pl 0), zS (tg pl 1), zS (tg pl 2), tl, []⟩⟩ : Co) := by
  have hp : wB s = pl := by unfold wB; rw [h2, h3, h5]
  unfold jC starP
  rw [hp, h2, h4, h1, last_pl hl hx]
  by_cases q : x = [42]
  · rw [if_pos q, q, decide_eq_true rfl]; rfl
  · rw [if_neg q, decide_eq_false (fun e => q (Option.some.inj e))]; rfl
theorem fit_or {s pt : List UInt8} {c : Co} (hg : jC s = c) (hp : c.print = pt) (h : pt = s ∨ pt = [94] ++ s) : pcV s = c ∧ pcE s = 0 := by
  have h2 := prog_some (s := s) (by rw [hg, hp]; exact h)
  rw [hg] at h2
  exact fS h2
theorem fit_no {s pt : List UInt8} {c : Co} (hg : jC s = c) (hp : c.print = pt) (h1 : ¬ pt = s) (h2 : ¬ pt = [94] ++ s) : pcV s = ⟨0, 0, Ver.zero⟩ ∧ pcE s = 6 :=
  d9 (prog_none (by rw [hg, hp]; exact fun q => q.elim h1 h2))
theorem cParse_any (s : List UInt8) (W : World) (hs : s.length ≤ 1000000) (ht : HasTab W) : Calls Tryz.prog 37 #[.string (mkS s)] W fun e w' => e = .returned (.tuple #[coV (pcV s), .int .i64 (pcE s)]) ∧ Below W.heap.size W w' := by
  obtain ⟨op, hop⟩ : ∃ x, (sgo s 8).1 = x := ⟨_, rfl⟩
  obtain ⟨r, hr⟩ : ∃ x, (sgo s 8).2 = x := ⟨_, rfl⟩
  obtain ⟨ah, hah⟩ : ∃ x, (yH 45 r).1 = x := ⟨_, rfl⟩
  obtain ⟨tl, htl⟩ : ∃ x, (yH 45 r).2.1 = x := ⟨_, rfl⟩
  obtain ⟨fd, hfd⟩ : ∃ x, (yH 45 r).2.2 = x := ⟨_, rfl⟩
  obtain ⟨pl, hpl⟩ : ∃ x, wH 2 ah = x := ⟨_, rfl⟩
  have hrl : r.length ≤ s.length := hr ▸ sgo_le s 8
  have hal : ah.length + tl.length ≤ r.length := by rw [← hah, ← htl]; exact cutAt_le 45 r
  obtain ⟨hp1, hp3⟩ : 1 ≤ pl.length ∧ pl.length ≤ 3 := hpl ▸ pcsK_len 2 ah
  have htp : ∀ i, (tg pl i).length ≤ 1000000 := fun i => tg_short (fun x hx => by rw [← hpl] at hx; exact Nat.le_trans (pcsK_mem 2 ah x hx) (by omega)) i
  refine Z2 (n := 84) Tryz.func37 rfl (ZO (Za (.agg Z0) (fun b1 => Zv (.int .i64 0) (ZR (Zv (.string (mkS s)) (Zc (k := 60) (args := #[.string (mkS s)]) (.tuple #[.int .i64 op, .string (mkS r)]) (fun w _ => jA (by rw [hop, hr]) (ccut_any s w hs)) (Zv (.tuple #[.int .i64 op, .string (mkS r)]) ?_)))))))
  refine Zv (.int .i64 op) (Zv (.string (mkS r)) (Zv (.int .i64 op) (Zv (.string (mkS r)) (ZR (Zv (.string (mkS r)) (Zc (k := 61) (args := #[.string (mkS r), .string ⟨#[45]⟩]) (.tuple #[.string (mkS ah), .string (mkS tl), .bool fd]) (fun w _ => jA (by rw [hah, htl, hfd]) (cutb_any r 45 w (by omega))) (Zv (.tuple #[.string (mkS ah), .string (mkS tl), .bool fd]) (Zv (.string (mkS ah)) ?_))))))))
  refine Zv (.string (mkS tl)) (Zv (.bool fd) (Zv (.string (mkS ah)) (Zv (.string (mkS tl)) (Zv (.bool fd) (ZR (Za (.agg Zp0) (fun b2 => zP (z8 ?_))))))))
  refine ZO (Zv (.string (mkS ah)) (Zr (k := 62) (args := #[.string (mkS ah), .string ⟨#[46]⟩, .int .i64 3]) (fun v' L' => ∃ ob', L' = ob' ++ ([⟨b2, Zp0, 88⟩, ⟨b1, Z0, 51⟩]) ∧ SlT v' pl ob') (fun w hO => (splitn_any ah w (by omega)).mono fun e w' ⟨v', ob', k1, k2, k3⟩ => ⟨v', _, k1, ⟨ob', rfl, by rw [hpl] at k2; exact k2⟩, Own.joinN hO k3⟩) (fun v1 L1 hv1 => ?_)))
  obtain ⟨o1, rfl, hsl⟩ := hv1
  obtain ⟨A1, c1, rfl⟩ := hsl.form
  obtain ⟨g1, cur1, rfl, rfl, hc1, hm1, hz1, ht1⟩ := Sl.block hsl (by omega)
  rw [bB] at ht1
  refine Zv (.slice (some ⟨g1, 0, none⟩) pl.length c1) (ZN (z7 (ZO (Zv (.slice (some ⟨g1, 0, none⟩) pl.length c1) (Zv (.int .i64 (pl.length : Int)) (Zv (.int .i64 0) (ZN (j6 (fun L f => ∃ (j : Nat → Value), L = [⟨g1, cur1, 9⟩, ⟨b2, #[.int .i64 (zS (tg pl 0)), .int .i64 (zS (tg pl 1)), .int .i64 (zS (tg pl 2))], 88⟩, ⟨b1, Z0, 51⟩] ∧ f = xF j [(0, .string (mkS s)), (2, Zp b1 0), (4, .int .i64 op), (6, .string (mkS tl)), (8, Zp b2 0), (9, .slice (some ⟨g1, 0, none⟩) pl.length c1)]) ?_ ?_))))))))
  · refine zL (yL (fun L f m => (∃  (j : Nat → Value), (0 ≤ pl.length) ∧ L = [⟨g1, cur1, 9⟩, ⟨b2, Zp0, 88⟩, ⟨b1, Z0, 51⟩] ∧ f = xF j [(0, .string (mkS s)), (2, Zp b1 0), (4, .int .i64 op), (6, .string (mkS tl)), (8, Zp b2 0), (9, .slice (some ⟨g1, 0, none⟩) pl.length c1), (27, .slice (some ⟨g1, 0, none⟩) pl.length c1), (28, .int .i64 (pl.length : Int)), (29, .int .i64 0)] ∧ m = 4) ∨ (∃  (j : Nat → Value), (1 ≤ pl.length) ∧ L = [⟨g1, cur1, 9⟩, ⟨b2, #[.int .i64 (zS (tg pl 0)), .int .i64 0, .int .i64 0], 88⟩, ⟨b1, Z0, 51⟩] ∧ f = xF j [(0, .string (mkS s)), (2, Zp b1 0), (4, .int .i64 op), (6, .string (mkS tl)), (8, Zp b2 0), (9, .slice (some ⟨g1, 0, none⟩) pl.length c1), (27, .slice (some ⟨g1, 0, none⟩) pl.length c1), (28, .int .i64 (pl.length : Int)), (29, .int .i64 1)] ∧ m = 3) ∨ (∃  (j : Nat → Value), (2 ≤ pl.length) ∧ L = [⟨g1, cur1, 9⟩, ⟨b2, #[.int .i64 (zS (tg pl 0)), .int .i64 (zS (tg pl 1)), .int .i64 0], 88⟩, ⟨b1, Z0, 51⟩] ∧ f = xF j [(0, .string (mkS s)), (2, Zp b1 0), (4, .int .i64 op), (6, .string (mkS tl)), (8, Zp b2 0), (9, .slice (some ⟨g1, 0, none⟩) pl.length c1), (27, .slice (some ⟨g1, 0, none⟩) pl.length c1), (28, .int .i64 (pl.length : Int)), (29, .int .i64 2)] ∧ m = 2) ∨ (∃  (j : Nat → Value), (3 ≤ pl.length) ∧ L = [⟨g1, cur1, 9⟩, ⟨b2, #[.int .i64 (zS (tg pl 0)), .int .i64 (zS (tg pl 1)), .int .i64 (zS (tg pl 2))], 88⟩, ⟨b1, Z0, 51⟩] ∧ f = xF j [(0, .string (mkS s)), (2, Zp b1 0), (4, .int .i64 op), (6, .string (mkS tl)), (8, Zp b2 0), (9, .slice (some ⟨g1, 0, none⟩) pl.length c1), (27, .slice (some ⟨g1, 0, none⟩) pl.length c1), (28, .int .i64 (pl.length : Int)), (29, .int .i64 3)] ∧ m = 1)) 4 (.inl ⟨_, Nat.zero_le _, rfl, ZU, rfl⟩) ?_)
    rintro L f m (⟨j, hrel, rfl, rfl, rfl⟩ | ⟨j, hrel, rfl, rfl, rfl⟩ | ⟨j, hrel, rfl, rfl, rfl⟩ | ⟨j, hrel, rfl, rfl, rfl⟩)
    · have qn := hrel
      refine ZO (Zg (p := (0 : Int) < (pl.length : Int)) (by omega) (ZN (z7 (Zt (ZB (z7 (zL (z7 ?_))))))))
      refine zA (Zv (.int .i64 0) (zU (Zp g1 (0 * 1 + 0)) (by kernel_rfl) (yP (b := g1) (off := 0) (n := pl.length) (c := c1) (k := .i64) (j := 0) (e := 9) (sz := 1) rfl (by kernel_rfl) (by kernel_rfl) (by kernel_rfl) (by kernel_rfl) (by omega) (by omega) (by rfl)) (jB 0 ⟨g1, cur1, 9⟩ (off := 0 * 1 + 0) (.string (mkS (tg pl 0))) (by kernel_rfl) rfl (by kernel_rfl) (by kernel_rfl) (x6 vS ht1 0 0 (by omega) (by omega) _ (by rw [wA (by omega)]; kernel_rfl)) (Zv (.int .i64 0) (Zv (.string (mkS (tg pl 0))) (ZN (zA (Zv (.int .i64 0) (Zv (.string (mkS (tg pl 0))) (Zc (k := 63) (args := #[.string (mkS (tg pl 0))]) (.tuple #[.int .i64 (zS (tg pl 0)), .bool (xZ (tg pl 0))]) (fun w _ => jY (tg pl 0) _ rfl w (Nat.le_trans (htp 0) (by decide))) ?_))))))))))
      refine Zv (.tuple #[.int .i64 (zS (tg pl 0)), .bool (xZ (tg pl 0))]) (Zv (.int .i64 (zS (tg pl 0))) (Zv (.bool (xZ (tg pl 0))) (Zv (Zp b2 0) (Zs 1 ⟨b2, Zp0, 88⟩ (off := 0) (.int .i64 (zS (tg pl 0))) (zP (zQ (z8 (zA (Zv (.int .i64 1) (Zv (.int .i64 1) (zP ?_)))))))))))
      exact zT (m' := 3) (by decide) (.inr (.inl ⟨_, (by omega : 1 ≤ pl.length), rfl, ZU, rfl⟩))
    · have qn := hrel
      refine z7 (zA ?_)
      by_cases h1 : (1 : Int) < (pl.length : Int)
      · have hk : 1 < pl.length := by omega
        refine Zg h1 (ZN (z7 (Zt (ZB (z7 (zL (ZO (Zv (.int .i64 1) ?_))))))))
        refine zU (Zp g1 (1 * 1 + 0)) (by kernel_rfl) (yP (b := g1) (off := 0) (n := pl.length) (c := c1) (k := .i64) (j := 1) (e := 9) (sz := 1) rfl (by kernel_rfl) (by kernel_rfl) (by kernel_rfl) (by kernel_rfl) (by omega) (by omega) (by rfl)) (jB 0 ⟨g1, cur1, 9⟩ (off := 1 * 1 + 0) (.string (mkS (tg pl 1))) (by kernel_rfl) rfl (by kernel_rfl) (by kernel_rfl) (x6 vS ht1 1 0 (by omega) (by omega) _ (by rw [wA (by omega)]; kernel_rfl)) (Zv (.int .i64 1) (Zv (.string (mkS (tg pl 1))) (ZN (zA (Zv (.int .i64 1) (Zv (.string (mkS (tg pl 1))) (Zc (k := 63) (args := #[.string (mkS (tg pl 1))]) (.tuple #[.int .i64 (zS (tg pl 1)), .bool (xZ (tg pl 1))]) (fun w _ => jY (tg pl 1) _ rfl w (Nat.le_trans (htp 1) (by decide))) (Zv (.tuple #[.int .i64 (zS (tg pl 1)), .bool (xZ (tg pl 1))]) (Zv (.int .i64 (zS (tg pl 1))) ?_))))))))))
        exact Zv (.bool (xZ (tg pl 1))) (Zv (Zp b2 1) (Zs 1 ⟨b2, #[.int .i64 (zS (tg pl 0)), .int .i64 0, .int .i64 0], 88⟩ (off := 1) (.int .i64 (zS (tg pl 1))) (zP (zQ (z8 (zA (Zv (.int .i64 2) (Zv (.int .i64 2) (zP (zT (m' := 2) (by decide) (.inr (.inr (.inl ⟨_, (by omega : 2 ≤ pl.length), rfl, ZU, rfl⟩)))))))))))))
      exact Zh h1 (ZN (z7 (Zf (y5 (zD (zN (zH (yQ ⟨_, by rw [wV (l := pl) (i := 1) (by omega), wV (l := pl) (i := 2) (by omega)], ZU⟩))))))))
    · have qn := hrel
      refine z7 (zA ?_)
      by_cases h2 : (2 : Int) < (pl.length : Int)
      · have hk : 2 < pl.length := by omega
        refine Zg h2 (ZN (z7 (Zt (ZB (z7 (zL (ZO (Zv (.int .i64 2) ?_))))))))
        refine zU (Zp g1 (2 * 1 + 0)) (by kernel_rfl) (yP (b := g1) (off := 0) (n := pl.length) (c := c1) (k := .i64) (j := 2) (e := 9) (sz := 1) rfl (by kernel_rfl) (by kernel_rfl) (by kernel_rfl) (by kernel_rfl) (by omega) (by omega) (by rfl)) (jB 0 ⟨g1, cur1, 9⟩ (off := 2 * 1 + 0) (.string (mkS (tg pl 2))) (by kernel_rfl) rfl (by kernel_rfl) (by kernel_rfl) (x6 vS ht1 2 0 (by omega) (by omega) _ (by rw [wA (by omega)]; kernel_rfl)) (Zv (.int .i64 2) (Zv (.string (mkS (tg pl 2))) (ZN (zA (Zv (.int .i64 2) (Zv (.string (mkS (tg pl 2))) (Zc (k := 63) (args := #[.string (mkS (tg pl 2))]) (.tuple #[.int .i64 (zS (tg pl 2)), .bool (xZ (tg pl 2))]) (fun w _ => jY (tg pl 2) _ rfl w (Nat.le_trans (htp 2) (by decide))) (Zv (.tuple #[.int .i64 (zS (tg pl 2)), .bool (xZ (tg pl 2))]) (Zv (.int .i64 (zS (tg pl 2))) ?_))))))))))
        exact Zv (.bool (xZ (tg pl 2))) (Zv (Zp b2 2) (Zs 1 ⟨b2, #[.int .i64 (zS (tg pl 0)), .int .i64 (zS (tg pl 1)), .int .i64 0], 88⟩ (off := 2) (.int .i64 (zS (tg pl 2))) (zP (zQ (z8 (zA (Zv (.int .i64 3) (Zv (.int .i64 3) (zP (zT (m' := 1) (by decide) (.inr (.inr (.inr (⟨_, (by omega : 3 ≤ pl.length), rfl, ZU, rfl⟩))))))))))))))
      exact Zh h2 (ZN (z7 (Zf (y5 (zD (zN (zH (yQ ⟨_, by rw [wV (l := pl) (i := 2) (by omega)], ZU⟩))))))))
    have qn := hrel
    exact ZO (Zh (p := (3 : Int) < (pl.length : Int)) (by omega) (ZN (z7 (Zf (y5 (zD (zN (zH (yQ ⟨_, rfl, ZU⟩)))))))))
  · rintro L f ⟨j, rfl, rfl⟩
    obtain ⟨la, hla⟩ : ∃ x, tg pl (pl.length - 1) = x := ⟨_, rfl⟩
    have hgu := guess_is hop hr hah htl hpl hla (by omega)
    refine z8 (ZO (Zv (.int .i64 op) (Zv (.slice (some ⟨g1, 0, none⟩) pl.length c1) (Zv (.int .i64 (pl.length : Int)) (Zv (.agg #[.int .i64 op, .int .i64 (pl.length : Int), .int .i64 0, .int .i64 0, .int .i64 0, .string ⟨#[]⟩, .string ⟨#[]⟩]) (Za (.agg Z0) (fun b3 => Zs 0 ⟨b3, Z0, 51⟩ (off := 0) (.agg #[.int .i64 op, .int .i64 (pl.length : Int), .int .i64 0, .int .i64 0, .int .i64 0, .string ⟨#[]⟩, .string ⟨#[]⟩]) (ZN (z7 ?_)))))))))
    refine ZO (Zv (.slice (some ⟨g1, 0, none⟩) pl.length c1) (Zv (.slice (some ⟨g1, 0, none⟩) pl.length c1) (Zv (.int .i64 (pl.length : Int)) (Zu (k := .i64) (((pl.length : Int) : Int) - 1) (IntWalk.i64_in _ (by omega)) (zU (Zp g1 ((pl.length - 1) * 1 + 0)) (by kernel_rfl) (yP (b := g1) (off := 0) (n := pl.length) (c := c1) (k := .i64) (j := ((pl.length : Int) - 1)) (e := 9) (sz := 1) rfl (by kernel_rfl) (by kernel_rfl) (by kernel_rfl) (by kernel_rfl) (by omega) (by omega) (by omega)) (jB 1 ⟨g1, cur1, 9⟩ (off := (pl.length - 1) * 1 + 0) (.string (mkS la)) (by kernel_rfl) rfl (by kernel_rfl) (by kernel_rfl) (x6 vS ht1 (pl.length - 1) 0 (by omega) (by omega) _ (by rw [wA (by omega), hla]; kernel_rfl)) ?_))))))
    by_cases h3 : (la : List UInt8) = [42]
    · refine zU Z4 (by kernel_rfl) (yM (a := la) (b := ([42])) rfl (by kernel_rfl) (by kernel_rfl) (decide_eq_true (h3))) (ZY (ZO (Zv (Zp b3 0) (Zs 0 ⟨b3, #[.int .i64 op, .int .i64 (pl.length : Int), .int .i64 0, .int .i64 0, .int .i64 0, .string ⟨#[]⟩, .string ⟨#[]⟩], 51⟩ (off := 0) (.int .i64 9) (ZN (zA (Zv (Zp b3 1) ?_)))))))
      refine Zl 0 ⟨b3, #[.int .i64 9, .int .i64 (pl.length : Int), .int .i64 0, .int .i64 0, .int .i64 0, .string ⟨#[]⟩, .string ⟨#[]⟩], 51⟩ (off := 1) (.int .i64 (pl.length : Int)) (Zu (k := .i64) (((pl.length : Int) : Int) - 1) (IntWalk.i64_in _ (by omega)) (Zv (Zp b3 1) (Zs 0 ⟨b3, #[.int .i64 9, .int .i64 (pl.length : Int), .int .i64 0, .int .i64 0, .int .i64 0, .string ⟨#[]⟩, .string ⟨#[]⟩], 51⟩ (off := 1) (.int .i64 (((pl.length : Int) : Int) - 1)) (ZR (Zv (Zp b2 0) (Zl 2 ⟨b2, #[.int .i64 (zS (tg pl 0)), .int .i64 (zS (tg pl 1)), .int .i64 (zS (tg pl 2))], 88⟩ (off := 0) (.int .i64 (zS (tg pl 0))) (Zv (Zp b2 1) (Zl 2 ⟨b2, #[.int .i64 (zS (tg pl 0)), .int .i64 (zS (tg pl 1)), .int .i64 (zS (tg pl 2))], 88⟩ (off := 1) (.int .i64 (zS (tg pl 1))) ?_))))))))
      refine Zv (Zp b2 2) (Zl 2 ⟨b2, #[.int .i64 (zS (tg pl 0)), .int .i64 (zS (tg pl 1)), .int .i64 (zS (tg pl 2))], 88⟩ (off := 2) (.int .i64 (zS (tg pl 2))) (Zv (.string (mkS tl)) (Zv (.agg #[.int .i64 (zS (tg pl 0)), .int .i64 (zS (tg pl 1)), .int .i64 (zS (tg pl 2)), .string (mkS tl), .string ⟨#[]⟩]) (Zv (Zp b3 2) (Zs 0 ⟨b3, #[.int .i64 9, .int .i64 (((pl.length : Int) : Int) - 1), .int .i64 0, .int .i64 0, .int .i64 0, .string ⟨#[]⟩, .string ⟨#[]⟩], 51⟩ (off := 2) (.agg #[.int .i64 (zS (tg pl 0)), .int .i64 (zS (tg pl 1)), .int .i64 (zS (tg pl 2)), .string (mkS tl), .string ⟨#[]⟩]) (ZN (z7 (ZO (Zl 0 ⟨b3, #[.int .i64 9, .int .i64 (((pl.length : Int) : Int) - 1), .int .i64 (zS (tg pl 0)), .int .i64 (zS (tg pl 1)), .int .i64 (zS (tg pl 2)), .string (mkS tl), .string ⟨#[]⟩], 51⟩ (off := 0) (.agg #[.int .i64 9, .int .i64 (((pl.length : Int) : Int) - 1), .int .i64 (zS (tg pl 0)), .int .i64 (zS (tg pl 1)), .int .i64 (zS (tg pl 2)), .string (mkS tl), .string ⟨#[]⟩]) ?_)))))))))
      have hcs : ((⟨9, ((pl.length : Int) - 1), ⟨zS (tg pl 0), zS (tg pl 1), zS (tg pl 2), tl, []⟩⟩ : Co)).short := ⟨by show tl.length ≤ _; omega, Nat.zero_le _⟩
      obtain ⟨pt, hpt⟩ : ∃ x, Co.print (⟨9, ((pl.length : Int) - 1), ⟨zS (tg pl 0), zS (tg pl 1), zS (tg pl 2), tl, []⟩⟩ : Co) = x := ⟨_, rfl⟩
      refine Zc (k := 64) (args := #[.agg #[.int .i64 9, .int .i64 (((pl.length : Int) : Int) - 1), .int .i64 (zS (tg pl 0)), .int .i64 (zS (tg pl 1)), .int .i64 (zS (tg pl 2)), .string (mkS tl), .string ⟨#[]⟩]]) (.string (mkS pt)) (fun w hO => jA (by rw [← hpt]) (tL (⟨9, ((pl.length : Int) - 1), ⟨zS (tg pl 0), zS (tg pl 1), zS (tg pl 2), tl, []⟩⟩ : Co) w hcs (ht.on hO.below))) (Zv (.string (mkS pt)) (ZR (Zv (.string (mkS pt)) (Zv (.string (mkS s)) ?_))))
      by_cases h4 : (pt : List UInt8) = s
      · refine zU Z5 (by kernel_rfl) (yV (a := pt) (b := s) rfl (by kernel_rfl) (by kernel_rfl) (decide_eq_true (h4))) (Zv Z5 (Zk (Zk (Zk (Zk (Zv Z5 (ZX (yC (z8 ?_)))))))))
        refine ZO (Zv (.string (mkS tl)) (Zc (k := 65) (args := #[.string (mkS tl)]) (.string (mkS tl)) (fun w _ => uZ (mkS tl) w (by rw [yY]; omega)) (Zv (Zp b3 2) (Zv (Zp b3 5) (Zs 0 ⟨b3, #[.int .i64 9, .int .i64 (((pl.length : Int) : Int) - 1), .int .i64 (zS (tg pl 0)), .int .i64 (zS (tg pl 1)), .int .i64 (zS (tg pl 2)), .string (mkS tl), .string ⟨#[]⟩], 51⟩ (off := 5) (.string (mkS tl)) (ZR (Zl 0 ⟨b3, #[.int .i64 9, .int .i64 (((pl.length : Int) : Int) - 1), .int .i64 (zS (tg pl 0)), .int .i64 (zS (tg pl 1)), .int .i64 (zS (tg pl 2)), .string (mkS tl), .string ⟨#[]⟩], 51⟩ (off := 0) (.agg #[.int .i64 9, .int .i64 (((pl.length : Int) : Int) - 1), .int .i64 (zS (tg pl 0)), .int .i64 (zS (tg pl 1)), .int .i64 (zS (tg pl 2)), .string (mkS tl), .string ⟨#[]⟩]) ?_)))))))
        exact Zs 3 ⟨b1, Z0, 51⟩ (off := 0) (.agg #[.int .i64 9, .int .i64 (((pl.length : Int) : Int) - 1), .int .i64 (zS (tg pl 0)), .int .i64 (zS (tg pl 1)), .int .i64 (zS (tg pl 2)), .string (mkS tl), .string ⟨#[]⟩]) (Zv (.int .i64 0) (ZN (zB (ZD 3 ⟨b1, #[.int .i64 9, .int .i64 (((pl.length : Int) : Int) - 1), .int .i64 (zS (tg pl 0)), .int .i64 (zS (tg pl 1)), .int .i64 (zS (tg pl 2)), .string (mkS tl), .string ⟨#[]⟩], 51⟩ (off := 0) (.agg #[.int .i64 9, .int .i64 (((pl.length : Int) : Int) - 1), .int .i64 (zS (tg pl 0)), .int .i64 (zS (tg pl 1)), .int .i64 (zS (tg pl 2)), .string (mkS tl), .string ⟨#[]⟩]) (.int .i64 0) Tryz.results37 (fun w hO => ⟨by have q := fit_or (c := (⟨9, ((pl.length : Int) - 1), ⟨zS (tg pl 0), zS (tg pl 1), zS (tg pl 2), tl, []⟩⟩ : Co)) (hgu.trans (if_pos h3)) hpt (.inl h4); rw [q.1, q.2]; rfl, hO.below⟩)))))
      refine zU Z4 (by kernel_rfl) (yV (a := pt) (b := s) rfl (by kernel_rfl) (by kernel_rfl) (decide_eq_false (h4))) (Zv Z4 (Zv (.string (mkS pt)) (Zv (.string (mkS s)) (zU (.string (mkS ([94] ++ s))) (by kernel_rfl) (yZ (a := [94]) (b := s) rfl (by kernel_rfl) (by kernel_rfl) (by simp only [List.length_append, List.length_cons, List.length_nil]; omega)) ?_))))
      by_cases h5 : (pt : List UInt8) = ([94] ++ s)
      · refine zU Z5 (by kernel_rfl) (yV (a := pt) (b := ([94] ++ s)) rfl (by kernel_rfl) (by kernel_rfl) (decide_eq_true (h5))) (Zv Z5 (ZX (ZB (ZO (Zv (.string (mkS tl)) (Zc (k := 65) (args := #[.string (mkS tl)]) (.string (mkS tl)) (fun w _ => uZ (mkS tl) w (by rw [yY]; omega)) (Zv (Zp b3 2) ?_)))))))
        refine Zv (Zp b3 5) (Zs 0 ⟨b3, #[.int .i64 9, .int .i64 (((pl.length : Int) : Int) - 1), .int .i64 (zS (tg pl 0)), .int .i64 (zS (tg pl 1)), .int .i64 (zS (tg pl 2)), .string (mkS tl), .string ⟨#[]⟩], 51⟩ (off := 5) (.string (mkS tl)) (ZR (Zl 0 ⟨b3, #[.int .i64 9, .int .i64 (((pl.length : Int) : Int) - 1), .int .i64 (zS (tg pl 0)), .int .i64 (zS (tg pl 1)), .int .i64 (zS (tg pl 2)), .string (mkS tl), .string ⟨#[]⟩], 51⟩ (off := 0) (.agg #[.int .i64 9, .int .i64 (((pl.length : Int) : Int) - 1), .int .i64 (zS (tg pl 0)), .int .i64 (zS (tg pl 1)), .int .i64 (zS (tg pl 2)), .string (mkS tl), .string ⟨#[]⟩]) (Zs 3 ⟨b1, Z0, 51⟩ (off := 0) (.agg #[.int .i64 9, .int .i64 (((pl.length : Int) : Int) - 1), .int .i64 (zS (tg pl 0)), .int .i64 (zS (tg pl 1)), .int .i64 (zS (tg pl 2)), .string (mkS tl), .string ⟨#[]⟩]) (Zv (.int .i64 0) (ZN (zB ?_)))))))
        exact ZD 3 ⟨b1, #[.int .i64 9, .int .i64 (((pl.length : Int) : Int) - 1), .int .i64 (zS (tg pl 0)), .int .i64 (zS (tg pl 1)), .int .i64 (zS (tg pl 2)), .string (mkS tl), .string ⟨#[]⟩], 51⟩ (off := 0) (.agg #[.int .i64 9, .int .i64 (((pl.length : Int) : Int) - 1), .int .i64 (zS (tg pl 0)), .int .i64 (zS (tg pl 1)), .int .i64 (zS (tg pl 2)), .string (mkS tl), .string ⟨#[]⟩]) (.int .i64 0) Tryz.results37 (fun w hO => ⟨by have q := fit_or (c := (⟨9, ((pl.length : Int) - 1), ⟨zS (tg pl 0), zS (tg pl 1), zS (tg pl 2), tl, []⟩⟩ : Co)) (hgu.trans (if_pos h3)) hpt (.inr h5); rw [q.1, q.2]; rfl, hO.below⟩)
      refine zU Z4 (by kernel_rfl) (yV (a := pt) (b := ([94] ++ s)) rfl (by kernel_rfl) (by kernel_rfl) (decide_eq_false (h5))) (Zv Z4 (ZY (ZO (Zv (.agg Z0) (Zs 3 ⟨b1, Z0, 51⟩ (off := 0) (.agg Z0) (Zv (.int .i64 6) (zP (z8 ?_))))))))
      exact zB (z6 (ZD 3 ⟨b1, Z0, 51⟩ (off := 0) (.agg Z0) (.int .i64 6) Tryz.results37 (fun w hO => ⟨by have q := fit_no (c := (⟨9, ((pl.length : Int) - 1), ⟨zS (tg pl 0), zS (tg pl 1), zS (tg pl 2), tl, []⟩⟩ : Co)) (hgu.trans (if_pos h3)) hpt h4 h5; rw [q.1, q.2]; rfl, hO.below⟩)))
    refine zU Z5 (by kernel_rfl) (yM (a := la) (b := ([42])) rfl (by kernel_rfl) (by kernel_rfl) (decide_eq_false (h3))) (ZX (ZB (ZO (Zv (Zp b2 0) (Zl 2 ⟨b2, #[.int .i64 (zS (tg pl 0)), .int .i64 (zS (tg pl 1)), .int .i64 (zS (tg pl 2))], 88⟩ (off := 0) (.int .i64 (zS (tg pl 0))) (Zv (Zp b2 1) (Zl 2 ⟨b2, #[.int .i64 (zS (tg pl 0)), .int .i64 (zS (tg pl 1)), .int .i64 (zS (tg pl 2))], 88⟩ (off := 1) (.int .i64 (zS (tg pl 1))) ?_)))))))
    refine Zv (Zp b2 2) (Zl 2 ⟨b2, #[.int .i64 (zS (tg pl 0)), .int .i64 (zS (tg pl 1)), .int .i64 (zS (tg pl 2))], 88⟩ (off := 2) (.int .i64 (zS (tg pl 2))) (Zv (.string (mkS tl)) (Zv (.agg #[.int .i64 (zS (tg pl 0)), .int .i64 (zS (tg pl 1)), .int .i64 (zS (tg pl 2)), .string (mkS tl), .string ⟨#[]⟩]) (Zv (Zp b3 2) (Zs 0 ⟨b3, #[.int .i64 op, .int .i64 (pl.length : Int), .int .i64 0, .int .i64 0, .int .i64 0, .string ⟨#[]⟩, .string ⟨#[]⟩], 51⟩ (off := 2) (.agg #[.int .i64 (zS (tg pl 0)), .int .i64 (zS (tg pl 1)), .int .i64 (zS (tg pl 2)), .string (mkS tl), .string ⟨#[]⟩]) (ZN (z7 (ZO (Zl 0 ⟨b3, #[.int .i64 op, .int .i64 (pl.length : Int), .int .i64 (zS (tg pl 0)), .int .i64 (zS (tg pl 1)), .int .i64 (zS (tg pl 2)), .string (mkS tl), .string ⟨#[]⟩], 51⟩ (off := 0) (.agg #[.int .i64 op, .int .i64 (pl.length : Int), .int .i64 (zS (tg pl 0)), .int .i64 (zS (tg pl 1)), .int .i64 (zS (tg pl 2)), .string (mkS tl), .string ⟨#[]⟩]) ?_)))))))))
    have hcs : ((⟨op, (pl.length : Int), ⟨zS (tg pl 0), zS (tg pl 1), zS (tg pl 2), tl, []⟩⟩ : Co)).short := ⟨by show tl.length ≤ _; omega, Nat.zero_le _⟩
    obtain ⟨pt, hpt⟩ : ∃ x, Co.print (⟨op, (pl.length : Int), ⟨zS (tg pl 0), zS (tg pl 1), zS (tg pl 2), tl, []⟩⟩ : Co) = x := ⟨_, rfl⟩
    refine Zc (k := 64) (args := #[.agg #[.int .i64 op, .int .i64 (pl.length : Int), .int .i64 (zS (tg pl 0)), .int .i64 (zS (tg pl 1)), .int .i64 (zS (tg pl 2)), .string (mkS tl), .string ⟨#[]⟩]]) (.string (mkS pt)) (fun w hO => jA (by rw [← hpt]) (tL (⟨op, (pl.length : Int), ⟨zS (tg pl 0), zS (tg pl 1), zS (tg pl 2), tl, []⟩⟩ : Co) w hcs (ht.on hO.below))) (Zv (.string (mkS pt)) (ZR (Zv (.string (mkS pt)) (Zv (.string (mkS s)) ?_))))
    by_cases h6 : (pt : List UInt8) = s
    · refine zU Z5 (by kernel_rfl) (yV (a := pt) (b := s) rfl (by kernel_rfl) (by kernel_rfl) (decide_eq_true (h6))) (Zv Z5 (Zk (Zk (Zk (Zk (Zv Z5 (ZX (yC (z8 ?_)))))))))
      refine ZO (Zv (.string (mkS tl)) (Zc (k := 65) (args := #[.string (mkS tl)]) (.string (mkS tl)) (fun w _ => uZ (mkS tl) w (by rw [yY]; omega)) (Zv (Zp b3 2) (Zv (Zp b3 5) (Zs 0 ⟨b3, #[.int .i64 op, .int .i64 (pl.length : Int), .int .i64 (zS (tg pl 0)), .int .i64 (zS (tg pl 1)), .int .i64 (zS (tg pl 2)), .string (mkS tl), .string ⟨#[]⟩], 51⟩ (off := 5) (.string (mkS tl)) (ZR (Zl 0 ⟨b3, #[.int .i64 op, .int .i64 (pl.length : Int), .int .i64 (zS (tg pl 0)), .int .i64 (zS (tg pl 1)), .int .i64 (zS (tg pl 2)), .string (mkS tl), .string ⟨#[]⟩], 51⟩ (off := 0) (.agg #[.int .i64 op, .int .i64 (pl.length : Int), .int .i64 (zS (tg pl 0)), .int .i64 (zS (tg pl 1)), .int .i64 (zS (tg pl 2)), .string (mkS tl), .string ⟨#[]⟩]) ?_)))))))
      exact Zs 3 ⟨b1, Z0, 51⟩ (off := 0) (.agg #[.int .i64 op, .int .i64 (pl.length : Int), .int .i64 (zS (tg pl 0)), .int .i64 (zS (tg pl 1)), .int .i64 (zS (tg pl 2)), .string (mkS tl), .string ⟨#[]⟩]) (Zv (.int .i64 0) (ZN (zB (ZD 3 ⟨b1, #[.int .i64 op, .int .i64 (pl.length : Int), .int .i64 (zS (tg pl 0)), .int .i64 (zS (tg pl 1)), .int .i64 (zS (tg pl 2)), .string (mkS tl), .string ⟨#[]⟩], 51⟩ (off := 0) (.agg #[.int .i64 op, .int .i64 (pl.length : Int), .int .i64 (zS (tg pl 0)), .int .i64 (zS (tg pl 1)), .int .i64 (zS (tg pl 2)), .string (mkS tl), .string ⟨#[]⟩]) (.int .i64 0) Tryz.results37 (fun w hO => ⟨by have q := fit_or (c := (⟨op, (pl.length : Int), ⟨zS (tg pl 0), zS (tg pl 1), zS (tg pl 2), tl, []⟩⟩ : Co)) (hgu.trans (if_neg h3)) hpt (.inl h6); rw [q.1, q.2]; rfl, hO.below⟩)))))
    refine zU Z4 (by kernel_rfl) (yV (a := pt) (b := s) rfl (by kernel_rfl) (by kernel_rfl) (decide_eq_false (h6))) (Zv Z4 (Zv (.string (mkS pt)) (Zv (.string (mkS s)) (zU (.string (mkS ([94] ++ s))) (by kernel_rfl) (yZ (a := [94]) (b := s) rfl (by kernel_rfl) (by kernel_rfl) (by simp only [List.length_append, List.length_cons, List.length_nil]; omega)) ?_))))
    by_cases h7 : (pt : List UInt8) = ([94] ++ s)
    · refine zU Z5 (by kernel_rfl) (yV (a := pt) (b := ([94] ++ s)) rfl (by kernel_rfl) (by kernel_rfl) (decide_eq_true (h7))) (Zv Z5 (ZX (ZB (ZO (Zv (.string (mkS tl)) (Zc (k := 65) (args := #[.string (mkS tl)]) (.string (mkS tl)) (fun w _ => uZ (mkS tl) w (by rw [yY]; omega)) (Zv (Zp b3 2) ?_)))))))
      refine Zv (Zp b3 5) (Zs 0 ⟨b3, #[.int .i64 op, .int .i64 (pl.length : Int), .int .i64 (zS (tg pl 0)), .int .i64 (zS (tg pl 1)), .int .i64 (zS (tg pl 2)), .string (mkS tl), .string ⟨#[]⟩], 51⟩ (off := 5) (.string (mkS tl)) (ZR (Zl 0 ⟨b3, #[.int .i64 op, .int .i64 (pl.length : Int), .int .i64 (zS (tg pl 0)), .int .i64 (zS (tg pl 1)), .int .i64 (zS (tg pl 2)), .string (mkS tl), .string ⟨#[]⟩], 51⟩ (off := 0) (.agg #[.int .i64 op, .int .i64 (pl.length : Int), .int .i64 (zS (tg pl 0)), .int .i64 (zS (tg pl 1)), .int .i64 (zS (tg pl 2)), .string (mkS tl), .string ⟨#[]⟩]) (Zs 3 ⟨b1, Z0, 51⟩ (off := 0) (.agg #[.int .i64 op, .int .i64 (pl.length : Int), .int .i64 (zS (tg pl 0)), .int .i64 (zS (tg pl 1)), .int .i64 (zS (tg pl 2)), .string (mkS tl), .string ⟨#[]⟩]) (Zv (.int .i64 0) (ZN (zB ?_)))))))
      exact ZD 3 ⟨b1, #[.int .i64 op, .int .i64 (pl.length : Int), .int .i64 (zS (tg pl 0)), .int .i64 (zS (tg pl 1)), .int .i64 (zS (tg pl 2)), .string (mkS tl), .string ⟨#[]⟩], 51⟩ (off := 0) (.agg #[.int .i64 op, .int .i64 (pl.length : Int), .int .i64 (zS (tg pl 0)), .int .i64 (zS (tg pl 1)), .int .i64 (zS (tg pl 2)), .string (mkS tl), .string ⟨#[]⟩]) (.int .i64 0) Tryz.results37 (fun w hO => ⟨by have q := fit_or (c := (⟨op, (pl.length : Int), ⟨zS (tg pl 0), zS (tg pl 1), zS (tg pl 2), tl, []⟩⟩ : Co)) (hgu.trans (if_neg h3)) hpt (.inr h7); rw [q.1, q.2]; rfl, hO.below⟩)
    refine zU Z4 (by kernel_rfl) (yV (a := pt) (b := ([94] ++ s)) rfl (by kernel_rfl) (by kernel_rfl) (decide_eq_false (h7))) (Zv Z4 (ZY (ZO (Zv (.agg Z0) (Zs 3 ⟨b1, Z0, 51⟩ (off := 0) (.agg Z0) (Zv (.int .i64 6) (zP (z8 ?_))))))))
    exact zB (z6 (ZD 3 ⟨b1, Z0, 51⟩ (off := 0) (.agg Z0) (.int .i64 6) Tryz.results37 (fun w hO => ⟨by have q := fit_no (c := (⟨op, (pl.length : Int), ⟨zS (tg pl 0), zS (tg pl 1), zS (tg pl 2), tl, []⟩⟩ : Co)) (hgu.trans (if_neg h3)) hpt h6 h7; rw [q.1, q.2]; rfl, hO.below⟩)))
end
end Go.Proofs.YtkljdpiaghepfaaGreatDoor
