/-
  What the statement's proof leans on: the ways of walking, tG mathematics, and what the program's functions return; each theorem says on what conditions.
-/
import Derived.Test.YtkljdpiaghepfaaGreatDoorMD5
set_option maxRecDepth 1000000
set_option maxHeartbeats 8000000
set_option linter.unusedVariables false
set_option linter.unusedSimpArgs false
namespace Go.Proofs.YtkljdpiaghepfaaGreatDoor
open Go.RowKit

section
theorem n4 {l : List Sp} {c d : Cu} (hl : yY l) (hc : c.short) (hd : d.short) : yY (q7 l c d) := by
  unfold q7
  split
  · intro x hx
    rcases List.mem_append.1 hx with h | h
    · exact hl x h
    · obtain rfl : x = _ := by simpa using h
      exact ⟨hc, hd⟩
  · exact hl
theorem add_any (A : Option Addr) (cap : Nat) (l : List Sp) (ob : List Blk) (c d : Cu) (W : World) (hv : SlS (.slice A l.length cap) l ob) (hO : Own (ob.map Blk.b) W W ob) (hn : l.length ≤ 1000000) (hl : yY l) (hc : c.short) (hd : d.short) :
    Calls Tryz.prog 131 #[.slice A l.length cap, zD c, zD d] W fun e w' => ∃ v' ob', e = .returned v' ∧ SlS v' (q7 l c d) ob' ∧ Own (ob.map Blk.b) W w' ob' := by
  unfold SlS at hv ⊢
  refine mZ (n := 19) hO Tryz.func131 rfl (by kernel_rfl) (by kernel_rfl) (ZO (Zb (zD c) (fun b1 => Zb (zD d) (fun b2 => Zv (.slice none 0 0) (ZR (Zl 1 ⟨b1, (zD c).cells, 78⟩ (off := 0) (zD c) (Zl 0 ⟨b2, (zD d).cells, 78⟩ (off := 0) (zD d) ?_)))))))
  refine Zv (.agg #[.int .i64 c.e, .int .i64 c.v.maj, .int .i64 c.v.min, .int .i64 c.v.pat, .string (mkS c.v.pre), .string (mkS c.v.build), .bool c.aft, .int .i64 d.e, .int .i64 d.v.maj, .int .i64 d.v.min, .int .i64 d.v.pat, .string (mkS d.v.pre), .string (mkS d.v.build), .bool d.aft]) (Za (.agg #[.int .i64 0, .int .i64 0, .int .i64 0, .int .i64 0, .string ⟨#[]⟩, .string ⟨#[]⟩, .bool false, .int .i64 0, .int .i64 0, .int .i64 0, .int .i64 0, .string ⟨#[]⟩, .string ⟨#[]⟩, .bool false]) (fun b3 => Zs 0 ⟨b3, #[.int .i64 0, .int .i64 0, .int .i64 0, .int .i64 0, .string ⟨#[]⟩, .string ⟨#[]⟩, .bool false, .int .i64 0, .int .i64 0, .int .i64 0, .int .i64 0, .string ⟨#[]⟩, .string ⟨#[]⟩, .bool false], 80⟩ (off := 0) (.agg #[.int .i64 c.e, .int .i64 c.v.maj, .int .i64 c.v.min, .int .i64 c.v.pat, .string (mkS c.v.pre), .string (mkS c.v.build), .bool c.aft, .int .i64 d.e, .int .i64 d.v.maj, .int .i64 d.v.min, .int .i64 d.v.pat, .string (mkS d.v.pre), .string (mkS d.v.build), .bool d.aft]) (ZN (z6 (ZO (Zl 0 ⟨b3, #[.int .i64 c.e, .int .i64 c.v.maj, .int .i64 c.v.min, .int .i64 c.v.pat, .string (mkS c.v.pre), .string (mkS c.v.build), .bool c.aft, .int .i64 d.e, .int .i64 d.v.maj, .int .i64 d.v.min, .int .i64 d.v.pat, .string (mkS d.v.pre), .string (mkS d.v.build), .bool d.aft], 80⟩ (off := 0) (.agg #[.int .i64 c.e, .int .i64 c.v.maj, .int .i64 c.v.min, .int .i64 c.v.pat, .string (mkS c.v.pre), .string (mkS c.v.build), .bool c.aft, .int .i64 d.e, .int .i64 d.v.maj, .int .i64 d.v.min, .int .i64 d.v.pat, .string (mkS d.v.pre), .string (mkS d.v.build), .bool d.aft]) (Zc (k := 139) (args := #[.agg #[.int .i64 c.e, .int .i64 c.v.maj, .int .i64 c.v.min, .int .i64 c.v.pat, .string (mkS c.v.pre), .string (mkS c.v.build), .bool c.aft, .int .i64 d.e, .int .i64 d.v.maj, .int .i64 d.v.min, .int .i64 d.v.pat, .string (mkS d.v.pre), .string (mkS d.v.build), .bool d.aft]]) (.bool ((Sp.mk c d).may)) (fun w _ => wW ⟨c, d⟩ w ⟨hc, hd⟩) ?_)))))))
  cases h1 : (Sp.mk c d).may with
  | true =>
    refine Zv (.bool false) (ZX (ZB (ZO (Zv (.slice A l.length cap) (Zl 0 ⟨b3, #[.int .i64 c.e, .int .i64 c.v.maj, .int .i64 c.v.min, .int .i64 c.v.pat, .string (mkS c.v.pre), .string (mkS c.v.build), .bool c.aft, .int .i64 d.e, .int .i64 d.v.maj, .int .i64 d.v.min, .int .i64 d.v.pat, .string (mkS d.v.pre), .string (mkS d.v.build), .bool d.aft], 80⟩ (off := 0) (.agg #[.int .i64 c.e, .int .i64 c.v.maj, .int .i64 c.v.min, .int .i64 c.v.pat, .string (mkS c.v.pre), .string (mkS c.v.build), .bool c.aft, .int .i64 d.e, .int .i64 d.v.maj, .int .i64 d.v.min, .int .i64 d.v.pat, .string (mkS d.v.pre), .string (mkS d.v.build), .bool d.aft]) (qZ 80 #[.int .i64 c.e, .int .i64 c.v.maj, .int .i64 c.v.min, .int .i64 c.v.pat, .string (mkS c.v.pre), .string (mkS c.v.build), .bool c.aft, .int .i64 d.e, .int .i64 d.v.maj, .int .i64 d.v.min, .int .i64 d.v.pat, .string (mkS d.v.pre), .string (mkS d.v.build), .bool d.aft] (by kernel_rfl) rfl (fun _ => by kernel_rfl) (fun b4 => kA (L' := [⟨b4, #[.int .i64 c.e, .int .i64 c.v.maj, .int .i64 c.v.min, .int .i64 c.v.pat, .string (mkS c.v.pre), .string (mkS c.v.build), .bool c.aft, .int .i64 d.e, .int .i64 d.v.maj, .int .i64 d.v.min, .int .i64 d.v.pat, .string (mkS d.v.pre), .string (mkS d.v.build), .bool d.aft], 80⟩, ⟨b3, #[.int .i64 c.e, .int .i64 c.v.maj, .int .i64 c.v.min, .int .i64 c.v.pat, .string (mkS c.v.pre), .string (mkS c.v.build), .bool c.aft, .int .i64 d.e, .int .i64 d.v.maj, .int .i64 d.v.min, .int .i64 d.v.pat, .string (mkS d.v.pre), .string (mkS d.v.build), .bool d.aft], 80⟩, ⟨b2, (zD d).cells, 78⟩, ⟨b1, (zD c).cells, 78⟩] ++ ob ++ []) (by rw [List.append_nil]; rfl) ?_)))))))
    obtain ⟨i, z, e1, e2, e3, e4, e5⟩ := gP
    refine gJ (sz := 14) (by kernel_rfl) rfl Tryz.underlying29 e1 e2 e3 e4 (by kernel_rfl) hv (a := ⟨b4, 0, none⟩) (m := 1) (c := 1) (news := yW ⟨c, d⟩) (by kernel_rfl) rfl (fun w hO j u hj => ?_) (kM _) (by unfold maxLen; omega) (by rw [e5]; omega) (fun v' ob' hv' => ?_)
    · rw [yM, cell_of_row w b4 (0 + j) (yW ⟨c, d⟩).toArray 80 _ (hO.held ⟨b4, (yW ⟨c, d⟩).toArray, 80⟩ (List.mem_append_left _ (List.mem_append_left _ (List.mem_cons_self ..))))]; simpa using hj
    refine Zv (v') (ZN (zB (ZF (v') Tryz.results131 (fun w hO => ⟨v', ob', rfl, by unfold q7; rw [h1, if_pos rfl, List.length_append, List.flatMap_append]; simpa using hv', Own.take hO (fun x hx => List.mem_append_left _ (List.mem_append_right _ hx)) ?_⟩))))
    have := hO.apart; rw [List.append_nil, List.map_append, List.nodup_append] at this; exact this.2.1
  | false =>
    refine Zv (.bool true) (ZY (ZO (Zv (.slice A l.length cap) (Zv (.slice A l.length cap) (ZN (zB (z8 ?_)))))))
    exact ZF (.slice A l.length cap) Tryz.results131 (fun w hO => ⟨_, ob, rfl, by unfold q7; rw [h1, if_neg (by decide)]; exact hv, Own.sub [_, _, _] hO⟩)
theorem add_call {M : List Nat} {W w : World} {v : Value} {l : List Sp} {E ob : List Blk} (c d : Cu) (hO : Own M W w (E ++ ob)) (hv : SlS v l ob) (hn : l.length ≤ 1000000) (hl : yY l) (hc : c.short) (hd : d.short) :
    Calls Tryz.prog 131 #[v, zD c, zD d] w fun e w' => ∃ v' L', e = .returned v' ∧ (∃ ob', L' = E ++ ob' ∧ SlS v' (q7 l c d) ob') ∧ Own M W w' L' := by
  obtain ⟨A, cap, rfl⟩ := hv.form
  refine (add_any A cap l ob c d w hv (Own.lend (hO.sub E)) hn hl hc hd).mono fun e w' ⟨v', ob', h1, h2, h3⟩ => ⟨v', E ++ ob', h1, ⟨ob', rfl, h2⟩, ?_⟩
  have hp : Own M W w (ob ++ E) := hO.perm List.perm_append_comm
  exact (Own.join hp h3).perm List.perm_append_comm
theorem uO {M : List Nat} {W w : World} {v : Value} {l : List Sp} {E ob : List Blk} (hO : Own M W w (E ++ ob)) (hv : SlS v l ob) (hn : l.length ≤ 1000000) (hl : yY l) :
    Calls Tryz.prog 132 #[v] w fun e w' => ∃ v' L', e = .returned v' ∧ (∃ ob', L' = E ++ ob' ∧ SlS v' l ob') ∧ Own M W w' L' := by
  obtain ⟨A, cap, rfl⟩ := hv.form
  refine (unshare_any A cap l ob w hv (Own.lend (hO.sub E)) hn hl).mono fun e w' ⟨ob', h1, h2, h3⟩ => ⟨_, E ++ ob', h1, ⟨ob', rfl, h2⟩, ?_⟩
  have hp : Own M W w (ob ++ E) := hO.perm List.perm_append_comm
  exact (Own.join hp h3).perm List.perm_append_comm
theorem dA (k : Int) : (y5 k).short := ⟨Nat.zero_le 1000000, Nat.zero_le 1000000⟩
structure NotB (l : List Sp) (k : Nat) (v : Value) (out : List Sp) (f : Cu) (ob : List Blk) : Prop where
  le : k ≤ l.length
  sl : SlS v out ob
  len : out.length ≤ k
  short : yY out
  fs : f.short
  eq : (l.take k).foldl tI ([], y5 (-1)) = (out, f)
theorem NotB.start (l : List Sp) : NotB l 0 (.slice none 0 0) [] (y5 (-1)) [] := ⟨Nat.zero_le _, Sl.nil _ _, Nat.le_refl _, fun s hs => by simp at hs, dA _, by rw [List.take_zero]; rfl⟩
theorem NotB.step {l : List Sp} {k : Nat} {v v2 : Value} {out : List Sp} {f : Cu} {ob ob2 : List Blk} (h : NotB l k v out f ob) (hk : k < l.length) {s : Sp} (hs : l[k] = s) (hss : s.short) (h2 : SlS v2 (q7 out f s.lo) ob2) : NotB l (k + 1) v2 (q7 out f s.lo) s.hi ob2 :=
  ⟨by omega, h2, by have := h.len; have := n5 out f s.lo; omega, n4 h.short h.fs hss.1, hss.2, by rw [List.take_succ_eq_append_getElem hk, List.foldl_append, h.eq, hs]; rfl⟩
theorem not4_any (A : Option Addr) (cap : Nat) (l : List Sp) (W : World) (hv : Reads yW W W.heap.size A l) (hn : l.length ≤ 300000) (hl : yY l) :
    Calls Tryz.prog 135 #[.slice A l.length cap] W fun e w' => ∃ v' ob', e = .returned v' ∧ SlS v' (if zK l then jD l else []) ob' ∧ Own [] W w' ob' := by
  refine zP (n := 30) Tryz.func135 rfl (by kernel_rfl) (by kernel_rfl) (ZO (Zv (.slice none 0 0) (ZN (z6 (ZO (Zv (.slice A l.length cap) (Zc (k := 129) (args := #[.slice A l.length cap]) (.bool (zK l)) (fun w hO => jK A cap l w (hv.on hO.below hO.size) (by omega) hl) ?_)))))))
  cases h1 : zK l with
  | true =>
    refine Zv (.bool false) (ZX (ZB (ZO (Zv (.slice none 0 0) (ZN (z6 ?_))))))
    refine z7 (Zv (.agg #[.int .i64 (-1), .int .i64 0, .int .i64 0, .int .i64 0, .string ⟨#[]⟩, .string ⟨#[]⟩, .bool false]) (Za (.agg #[.int .i64 0, .int .i64 0, .int .i64 0, .int .i64 0, .string ⟨#[]⟩, .string ⟨#[]⟩, .bool false]) (fun b1 => Zs 0 ⟨b1, #[.int .i64 0, .int .i64 0, .int .i64 0, .int .i64 0, .string ⟨#[]⟩, .string ⟨#[]⟩, .bool false], 78⟩ (off := 0) (.agg #[.int .i64 (-1), .int .i64 0, .int .i64 0, .int .i64 0, .string ⟨#[]⟩, .string ⟨#[]⟩, .bool false]) (ZN (z6 (ZO (Zv (.slice A l.length cap) (Zv (.int .i64 (l.length : Int)) (Zv (.int .i64 0) ?_)))))))))
    refine ZN (zL (yP (fun L f m => ∃ (k : Nat) (v : Value) (out : List Sp) (fc : Cu) (ob : List Blk) (j : Nat → Value), (NotB l k v out fc ob) ∧ L = ⟨b1, (zD fc).cells, 78⟩ :: ob ∧ f = kG j [(3, v), (4, .pointer (some ⟨b1, 0, none⟩)), (11, .slice A l.length cap), (12, .int .i64 (l.length : Int)), (13, .int .i64 (k : Int))] ∧ m = l.length - k) (l.length - 0) ⟨0, _, [], y5 (-1), [], _, NotB.start l, rfl, ZU, rfl⟩ ?_))
    rintro L f m ⟨k, v, out, fc, ob, j, hrel, rfl, rfl, rfl⟩
    have hkl := hrel.le; have hlen := hrel.len
    refine z6 (z7 ?_)
    by_cases h2 : (k : Int) < (l.length : Int)
    · have hk : k < l.length := by omega
      obtain ⟨b, off, hA, hlt, hcell⟩ := hv (by omega)
      obtain ⟨s, hs⟩ : ∃ s, l[k] = s := ⟨_, rfl⟩
      have hsk : s.short := hs ▸ hl l[k] (List.getElem_mem hk)
      refine Zd (p := (k : Int) < (l.length : Int)) true (decide_eq_true (h2)) (ZN (z6 (Zt (ZB (z6 (zL (ZO (zV (.pointer (some ⟨b, off + k * 14, none⟩)) (by kernel_rfl) (ZA (b := b) (off := off) (c := cap) (n := l.length) (k := .i64) (j := (k : Int)) (e := 80) (sz := 14) hA) ?_))))))))
      refine Zo (yK s) (a := ⟨b, off + k * 14, none⟩) (fun w hO => y9 zX (fun j u h => (hO.below.cell (p := ⟨b, off + j, none⟩) hlt).trans (hcell j u h)) k 0 hk (by omega) _ (by rw [hs]; kernel_rfl)) (Za (.agg #[.int .i64 0, .int .i64 0, .int .i64 0, .int .i64 0, .string ⟨#[]⟩, .string ⟨#[]⟩, .bool false, .int .i64 0, .int .i64 0, .int .i64 0, .int .i64 0, .string ⟨#[]⟩, .string ⟨#[]⟩, .bool false]) (fun b2 => Zs 0 ⟨b2, #[.int .i64 0, .int .i64 0, .int .i64 0, .int .i64 0, .string ⟨#[]⟩, .string ⟨#[]⟩, .bool false, .int .i64 0, .int .i64 0, .int .i64 0, .int .i64 0, .string ⟨#[]⟩, .string ⟨#[]⟩, .bool false], 80⟩ (off := 0) (yK s) (ZR (Zv (v) (Zl 1 ⟨b1, (zD fc).cells, 78⟩ (off := 0) (.agg #[.int .i64 fc.e, .int .i64 fc.v.maj, .int .i64 fc.v.min, .int .i64 fc.v.pat, .string (mkS fc.v.pre), .string (mkS fc.v.build), .bool fc.aft]) (Zv (.pointer (some ⟨b2, 0, none⟩)) (Zl 0 ⟨b2, (yK s).cells, 80⟩ (off := 0) (.agg #[.int .i64 s.lo.e, .int .i64 s.lo.v.maj, .int .i64 s.lo.v.min, .int .i64 s.lo.v.pat, .string (mkS s.lo.v.pre), .string (mkS s.lo.v.build), .bool s.lo.aft]) (yE (k := 131) (args := #[v, zD fc, zD s.lo]) (fun v' L' => ∃ ob', L' = [⟨b2, (yK s).cells, 80⟩, ⟨b1, (zD fc).cells, 78⟩] ++ ob' ∧ SlS v' (q7 out fc s.lo) ob') (by kernel_rfl) (fun _ => by kernel_rfl) (fun w hO => add_call (E := [⟨b2, (yK s).cells, 80⟩, ⟨b1, (zD fc).cells, 78⟩]) fc s.lo hO hrel.sl (by omega) hrel.short hrel.fs hsk.1) (fun v2 L2 hv2 => ?_)))))))))
      obtain ⟨ob2, rfl, hs2⟩ := hv2
      refine Zv (v2) (ZN (z7 (Zv (.pointer (some ⟨b2, 7, none⟩)) (Zl 0 ⟨b2, (yK s).cells, 80⟩ (off := 7) (.agg #[.int .i64 s.hi.e, .int .i64 s.hi.v.maj, .int .i64 s.hi.v.min, .int .i64 s.hi.v.pat, .string (mkS s.hi.v.pre), .string (mkS s.hi.v.build), .bool s.hi.aft]) (Zs 1 ⟨b1, (zD fc).cells, 78⟩ (off := 0) (.agg #[.int .i64 s.hi.e, .int .i64 s.hi.v.maj, .int .i64 s.hi.v.min, .int .i64 s.hi.v.pat, .string (mkS s.hi.v.pre), .string (mkS s.hi.v.build), .bool s.hi.aft]) (zR (zT (zA (z7 (Zu (k := .i64) (((k + 1 : Nat) : Int)) (IntWalk.i64_in _ (by omega)) ?_))))))))))
      exact Zv (.int .i64 ((k + 1 : Nat) : Int)) (zR (kC (fun w hO => Own.sub [_] hO) (zU (m' := l.length - (k + 1)) (by omega) ⟨k + 1, v2, q7 out fc s.lo, s.hi, ob2, _, hrel.step hk hs hsk hs2, rfl, ZU, rfl⟩)))
    refine Zd (p := (k : Int) < (l.length : Int)) false (decide_eq_false (h2)) (ZN (z6 (Zf (y8 (zC (zN (zI (zA (z6 (z7 ?_))))))))))
    refine Zv (v) (Zl 0 ⟨b1, (zD fc).cells, 78⟩ (off := 0) (.agg #[.int .i64 fc.e, .int .i64 fc.v.maj, .int .i64 fc.v.min, .int .i64 fc.v.pat, .string (mkS fc.v.pre), .string (mkS fc.v.build), .bool fc.aft]) (Zv (.agg #[.int .i64 1, .int .i64 0, .int .i64 0, .int .i64 0, .string ⟨#[]⟩, .string ⟨#[]⟩, .bool false]) (yE (k := 131) (args := #[v, zD fc, zD (y5 1)]) (fun v' L' => ∃ ob', L' = [⟨b1, (zD fc).cells, 78⟩] ++ ob' ∧ SlS v' (q7 out fc (y5 1)) ob') (by kernel_rfl) (fun _ => by kernel_rfl) (fun w hO => add_call (E := [⟨b1, (zD fc).cells, 78⟩]) fc (y5 1) hO hrel.sl (by omega) hrel.short hrel.fs (dA 1)) (fun v3 L2 hv2 => ?_))))
    obtain ⟨ob3, rfl, hs3⟩ := hv2
    refine yE (k := 132) (args := #[v3]) (fun v' L' => ∃ ob', L' = [⟨b1, (zD fc).cells, 78⟩] ++ ob' ∧ SlS v' (q7 out fc (y5 1)) ob') (by kernel_rfl) (fun _ => by kernel_rfl) (fun w hO => uO (E := [⟨b1, (zD fc).cells, 78⟩]) hO hs3 (by have := n5 out fc (y5 1); omega) (n4 hrel.short hrel.fs (dA 1))) (fun v4 L2 hv2 => ?_)
    obtain ⟨ob4, rfl, hs4⟩ := hv2
    exact Zv (v4) (ZN (zB (ZF (v4) Tryz.results135 (fun w hO => ⟨v4, ob4, rfl, by rw [if_pos rfl, show jD l = q7 out fc (y5 1) from by rw [← notG_eq h1]; unfold notG; have he := hrel.eq; rw [List.take_of_length_le (by omega)] at he; rw [he]]; exact hs4, Own.sub [_] hO⟩))))
  | false =>
    refine Zv (.bool true) (ZY (ZO (Zv (.slice none 0 0) (ZN (zB (z8 (ZF (.slice none 0 0) Tryz.results135 ?_)))))))
    exact fun w hO => ⟨_, [], rfl, by rw [if_neg (by decide)]; exact Sl.nil _ _, by simpa using hO⟩
end
section
abbrev VSp := {s : Sp // s.may = true ∧ s.short}
instance : Inhabited VSp := ⟨⟨⟨y5 (-1), y5 1⟩, by decide, dA _, dA _⟩⟩
def jY (x : VSp) : List Value := yW x.1
def cfV (x y : VSp) : Int := zM x.1.lo y.1.lo
theorem swoV : Go.Sort.SWO (ltOf cfV) := by
  have ml : ∀ x : VSp, x.1.lo.may = true := fun x => (y6 x.2.1).1
  refine ⟨fun x => ?_, fun x y z h1 h2 => ?_, fun x y z h1 h2 => ?_⟩
  · unfold ltOf cfV; rw [g7]; rfl
  · unfold ltOf cfV at *
    rw [decide_eq_true_eq] at *
    exact xT (ml x) (ml y) (ml z) h1 h2
  · unfold ltOf cfV at *
    rw [decide_eq_false_iff_not] at *
    have := qW (ml z) (ml y) (ml x) (jN h2) (jN h1)
    have h3 := xJ (a := x.1.lo) (b := z.1.lo)
    omega
theorem make1_any (s t : Sp) (W : World) (hs : s.short) (ht : t.short) :
    Calls Tryz.prog 179 #[yK s, yK t] W fun e w' => e = .returned (.int .i64 (zM s.lo t.lo)) ∧ Below W.heap.size W w' := by
  refine zP (n := 10) Tryz.func179 rfl (by kernel_rfl) (by kernel_rfl) (ZO (Zb (yK s) (fun b1 => Zb (yK t) (fun b2 => Zv (.int .i64 0) (ZR (Zv (.pointer (some ⟨b1, 0, none⟩)) (Zl 1 ⟨b1, (yK s).cells, 80⟩ (off := 0) (.agg #[.int .i64 s.lo.e, .int .i64 s.lo.v.maj, .int .i64 s.lo.v.min, .int .i64 s.lo.v.pat, .string (mkS s.lo.v.pre), .string (mkS s.lo.v.build), .bool s.lo.aft]) ?_)))))))
  exact Zv (.pointer (some ⟨b2, 0, none⟩)) (Zl 0 ⟨b2, (yK t).cells, 80⟩ (off := 0) (.agg #[.int .i64 t.lo.e, .int .i64 t.lo.v.maj, .int .i64 t.lo.v.min, .int .i64 t.lo.v.pat, .string (mkS t.lo.v.pre), .string (mkS t.lo.v.build), .bool t.lo.aft]) (Zc (k := 173) (args := #[.agg #[.int .i64 s.lo.e, .int .i64 s.lo.v.maj, .int .i64 s.lo.v.min, .int .i64 s.lo.v.pat, .string (mkS s.lo.v.pre), .string (mkS s.lo.v.build), .bool s.lo.aft], .agg #[.int .i64 t.lo.e, .int .i64 t.lo.v.maj, .int .i64 t.lo.v.min, .int .i64 t.lo.v.pat, .string (mkS t.lo.v.pre), .string (mkS t.lo.v.build), .bool t.lo.aft]]) (.int .i64 (zM s.lo t.lo)) (fun w _ => m9 s.lo t.lo w hs.1 ht.1) (Zv (.int .i64 (zM s.lo t.lo)) (ZN (zB (ZF (.int .i64 (zM s.lo t.lo)) Tryz.results179 (fun w hO => ⟨rfl, hO.below⟩)))))))
theorem lays4 (blk off size : Nat) (w : World) : CmpLays Tryz.prog 179 #[] jY 14 cfV blk off size w := fun m os dk _ x y =>
  (make1_any x.1 y.1 _ x.2.2 y.2.2).mono fun e w' ⟨h1, h2⟩ => ⟨h1, h2.asGrow⟩
theorem flatK_list (d : Array VSp) : (Go.Sort.flatK jY 14 d).toList = d.toList.flatMap jY := by
  apply List.ext_getElem?
  intro t
  have hlen : (d.toList.flatMap jY).length = d.size * 14 := by rw [kO (g := jY) (sz := 14) (fun x : VSp => zX x.1)]; simp
  by_cases ht : t < d.size * 14
  · have hk : t / 14 < d.toList.length := by simp; omega
    have h1 : (Go.Sort.flatK jY 14 d).toList[t]? = some (Go.Sort.flatK jY 14 d)[t]! := by
      rw [getElem!_pos _ t (by simpa using ht), Array.getElem?_toList, Array.getElem?_eq_getElem (by simpa using ht)]
    have h2 := flat_at (g := jY) (sz := 14) (fun x : VSp => zX x.1) d.toList (t / 14) hk
    have h3 : (d.toList.flatMap jY)[t]? = (jY d.toList[t / 14])[t % 14]? := by
      have e : t = t / 14 * 14 + t % 14 := by omega
      have hm : t % 14 < 14 := Nat.mod_lt _ (by decide)
      rw [← h2, List.getElem?_take, if_pos hm, List.getElem?_drop, ← e]
    rw [h1, h3, Go.Sort.get_flatK jY 14 d t ht]
    have hd : d[t / 14]! = d.toList[t / 14] := by rw [getElem!_pos d (t / 14) (by simpa using hk)]; simp
    have hlt : t % 14 < (jY d.toList[t / 14]).length := by rw [show (jY d.toList[t / 14]).length = 14 from zX _]; exact Nat.mod_lt _ (by decide)
    rw [hd, List.getElem?_eq_getElem hlt, getElem!_pos (jY d.toList[t / 14]) (t % 14) hlt]
  · rw [List.getElem?_eq_none (by simpa using Nat.le_of_not_lt ht), List.getElem?_eq_none (by rw [hlen]; omega)]
theorem take_put (cur F : Array Value) (h : F.size ≤ cur.size) : (Go.Sort.putCells id 0 F cur).toList.take F.size = F.toList := by
  apply List.ext_getElem?
  intro j
  by_cases hj : j < F.size
  · rw [List.getElem?_take_of_lt hj, Array.getElem?_toList]
    simp [Go.Sort.putCells, hj, show j < cur.size by omega]
  · rw [List.getElem?_take_eq_none (by omega), List.getElem?_eq_none (by simp; omega)]
theorem size_put (cur F : Array Value) : (Go.Sort.putCells id 0 F cur).size = cur.size := by simp [Go.Sort.putCells]
theorem perm_val {l m : List VSp} (h : l.Perm m) : (l.map (·.1)).Perm (m.map (·.1)) := h.map _
theorem sorted_of (l : List VSp) (h : ∀ i j (hi : i < j) (hj : j < l.length), ¬ zM l[j].1.lo (l[i]'(by omega)).1.lo < 0) : fH (l.map (·.1)) := by
  induction l with
  | nil => trivial
  | cons s r ih =>
    refine ⟨fun t ht => ?_, ih fun i j hi hj => h (i + 1) (j + 1) (by omega) (by simpa using hj)⟩
    obtain ⟨y, hy, rfl⟩ := List.mem_map.1 ht
    obtain ⟨j, hj, rfl⟩ := List.mem_iff_getElem.1 hy
    exact jN (h 0 (j + 1) (by omega) (by simpa using hj))
theorem lift_list (l : List Sp) (hm : ∀ s ∈ l, s.may = true ∧ s.short) : ∃ m : List VSp, m.map (·.1) = l := by
  induction l with
  | nil => exact ⟨[], rfl⟩
  | cons s r ih =>
    obtain ⟨m, e⟩ := ih (fun t ht => hm t (List.mem_cons_of_mem _ ht))
    exact ⟨⟨s, hm s (List.mem_cons_self ..)⟩ :: m, by rw [List.map_cons, e]⟩
theorem sort_any (g cap : Nat) (cur : Array Value) (l : List Sp) (W : World) (hm : ∀ s ∈ l, s.may = true ∧ s.short) (hO : Own [g] W W [⟨g, cur, 80⟩]) (hcap : l.length ≤ cap) (hmax : cap ≤ maxLen) (hsz : cur.size = cap * 14) (hcur : cur.toList.take (l.length * 14) = l.flatMap yW) (hn : l.length ≤ 1000000) :
    Calls Tryz.prog 178 #[.slice (some ⟨g, 0, none⟩) l.length cap, .func (.func 179) #[] #[]] W fun e w' =>
      e = .returned (.tuple #[]) ∧ ∃ l' cur', l'.Perm l ∧ fH l' ∧ cur'.size = cap * 14 ∧ cur'.toList.take (l.length * 14) = l'.flatMap yW ∧ Own [g] W w' [⟨g, cur', 80⟩] := by
  obtain ⟨m, rfl⟩ := lift_list l hm
  have hlen : (m.map (·.1)).length = m.toArray.size := by simp
  have hg : W.heap[g]? = some (.cells cur 80) := hO.held _ List.mem_cons_self
  have hglt : g < W.heap.size := hO.lt (x := ⟨g, cur, 80⟩) List.mem_cons_self
  have hflat : (m.map (·.1)).flatMap yW = m.flatMap jY := by rw [List.flatMap_map]; rfl
  have hH : Go.Sort.HoldsK jY 14 W g 0 m.toArray := by
    intro j hj
    have hj' : j < m.length * 14 := by simpa using hj
    have e : (Go.Sort.flatK jY 14 m.toArray).toList[j]? = cur.toList[j]? := by
      rw [flatK_list, show m.toArray.toList = m from by simp, ← hflat, ← hcur, List.getElem?_take, if_pos (by simpa using hj')]
    have e2 : cur[j]? = some (Go.Sort.flatK jY 14 m.toArray)[j]! := by
      rw [← Array.getElem?_toList, ← e, Array.getElem?_toList, Array.getElem?_eq_getElem hj, getElem!_pos _ j hj]
    refine ⟨?_, by simp [World.frozen?, hg]⟩
    simp only [World.cell?, hg, Nat.zero_add]
    simpa using e2
  have hcon := Tryz.slices_SortFunc 14 Tryz.isAgg80 Tryz.sizeOf80 jY (fun x => zX x.1) (fun x v hv => kM x.1 v hv) cfV swoV 179 #[] g 0 cap m.toArray W
    (enters_of Tryz.func179 (by kernel_rfl) rfl) (lays4 g 0 m.toArray.size W) hH hglt (by simp at hlen ⊢; rw [List.length_map] at hn; omega)
  rw [hlen]
  change Calls Tryz.prog 178 _ _ _ at hcon
  refine hcon.mono fun e w' ⟨he, d', n, os, hp, hs, hw⟩ => ⟨he, d'.toList.map (·.1), Go.Sort.putCells id 0 (Go.Sort.flatK jY 14 d') cur, ?_, ?_, ?_, ?_, ?_⟩
  · have h2 := hp.2.2
    have hsz2 := hp.1
    rw [show d'.extract 0 m.toArray.size = d' from by rw [← hsz2]; simp, show m.toArray.extract 0 m.toArray.size = m.toArray from by simp] at h2
    have := perm_val h2
    simpa using this
  · refine sorted_of _ fun i j hi hj => ?_
    have hj' : j < d'.size := by simpa using hj
    have := hs i j (Nat.zero_le _) hi (by rw [← hp.1]; exact hj')
    unfold ltOf cfV at this
    rw [decide_eq_false_iff_not, getElem!_pos d' j hj', getElem!_pos d' i (by omega)] at this
    simpa using this
  · rw [size_put]; exact hsz
  · have hF : (Go.Sort.flatK jY 14 d').size = m.toArray.size * 14 := by rw [Go.Sort.size_flatK, hp.1]
    have := take_put cur (Go.Sort.flatK jY 14 d') (by rw [hF, hsz, ← hlen]; exact Nat.mul_le_mul_right _ hcap)
    rw [hF, flatK_list] at this
    rw [this, List.flatMap_map]; rfl
  · subst hw
    have hheap : ∀ k, k < W.heap.size → (sortWorldK jY 14 W g 0 n d' os).heap[k]? = (Go.Sort.putRowK jY 14 (Go.Sort.ahead W n) g 0 d').heap[k]? := fun k hk => by
      show ((Go.Sort.putRowK jY 14 (Go.Sort.ahead W n) g 0 d').heap ++ os)[k]? = _
      rw [Array.getElem?_append_left (by rw [Go.Sort.size_putRowK]; exact hk)]
    refine ⟨rfl, rfl, rfl, ?_, Nat.le_add_right _ _, fun k hk hne => ?_, fun x hx => ?_, fun x hx => .inr (by rw [List.mem_singleton] at hx; rw [hx]; exact List.mem_singleton_self _), by simp⟩
    · show W.heap.size ≤ ((Go.Sort.putRowK jY 14 (Go.Sort.ahead W n) g 0 d').heap ++ os).size
      rw [Array.size_append, Go.Sort.size_putRowK]; exact Nat.le_add_right _ _
    · rw [hheap k hk]
      have hne' : g ≠ k := fun e => hne (by simp [e])
      simp [Go.Sort.putRowK, Go.Sort.putRow, Go.Sort.mapBlock, Go.Sort.ahead, Array.getElem?_modify, hne']
    · obtain rfl : x = _ := by simpa using hx
      show (sortWorldK jY 14 W g 0 n d' os).heap[g]? = _
      rw [hheap g hglt]
      simp [Go.Sort.putRowK, Go.Sort.putRow, Go.Sort.mapBlock, Go.Sort.ahead, Array.getElem?_modify, hg, Go.Sort.onCells]
end
section
theorem clone4_any (A : Option Addr) (cap : Nat) (l : List Sp) (W : World) (hv : Reads yW W W.heap.size A l) (hn : l.length ≤ 1000000) :
    Calls Tryz.prog 177 #[.slice A l.length cap] W fun e w' => ∃ v' ob', e = .returned v' ∧ SlS v' l ob' ∧ Own [] W w' ob' := by
  cases A with
  | none =>
    obtain rfl : l = [] := by
      cases l with
      | nil => rfl
      | cons x r => obtain ⟨b, off, e, _⟩ := hv (by simp); cases e
    refine zP (n := 8) Tryz.func177 rfl (by kernel_rfl) (by kernel_rfl) (ZO (Zv (.slice none 0 0) (ZN (z6 (ZO (Zv (.slice none (([] : List Sp).length) cap) (Zv (.bool true) (zR ?_))))))))
    exact zA (Zt (ZO (Zv (.slice none 0 0) (ZN (zB (z8 (ZF (.slice none 0 0) Tryz.results177 (fun w hO => ⟨_, [], rfl, Sl.nil _ _, by simpa using hO⟩))))))))
  | some a =>
    refine zP (n := 8) Tryz.func177 rfl (by kernel_rfl) (by kernel_rfl) (ZO (Zv (.slice none 0 0) (ZN (z6 (ZO (Zv (.slice (some a) l.length cap) (Zv (.bool false) (zR ?_))))))))
    refine zA (Zf (ZB (ZO (qZ 80 #[] (by kernel_rfl) rfl (fun _ => by kernel_rfl) (fun b1 => Zv (.slice (some a) l.length cap) ?_)))))
    obtain ⟨i, z, e1, e2, e3, e4, e5⟩ := gP
    exact kA (L' := [] ++ [⟨b1, #[], 80⟩] ++ []) rfl (jU (E := []) (ob := [⟨b1, #[], 80⟩]) (L0 := []) (sz := 14) (l := l) (A := some a) (c := cap) (n := 0) (xs := []) zX (by kernel_rfl) rfl Tryz.underlying29 e1 e2 e3 e4 (by kernel_rfl) ⟨rfl, .inr ⟨b1, 0, #[], rfl, rfl, Nat.le_refl _, Nat.zero_le _, rfl, rfl⟩⟩ (by kernel_rfl) (fun w hO => hv.on hO.below hO.size) kM (by unfold maxLen; omega) (by rw [e5]; omega) (fun va oa hva => Zv (va) (ZN (zB (ZF (va) Tryz.results177 (fun w hO => ⟨va, oa, rfl, hva.to (by simp) (by simp), by simpa using hO⟩))))))
theorem sort_call {M : List Nat} {W w : World} {v : Value} {l : List Sp} {E ob : List Blk} (hO : Own M W w (E ++ ob)) (hv : SlS v l ob) (hn : l.length ≤ 1000000) (hm : ∀ s ∈ l, s.may = true ∧ s.short) :
    Calls Tryz.prog 178 #[v, .func (.func 179) #[] #[]] w fun e w' => ∃ v' L', e = .returned v' ∧ (∃ l' ob', v' = .tuple #[] ∧ L' = E ++ ob' ∧ l'.Perm l ∧ fH l' ∧ SlS v l' ob') ∧ Own M W w' L' := by
  obtain ⟨A, cap, rfl⟩ := hv.form
  by_cases h0 : l.length = 0
  · obtain rfl : l = [] := List.eq_nil_of_length_eq_zero h0
    have h := Tryz.slices_SortFunc_none (α := Nat) A cap (.func (.func 179) #[] #[]) w
    change Calls Tryz.prog 178 _ _ _ at h
    exact h.mono fun e w' ⟨h1, h2⟩ => ⟨_, E ++ ob, h1, ⟨[], ob, rfl, rfl, List.Perm.refl _, trivial, hv⟩, h2 ▸ hO⟩
  · unfold SlS at hv
    obtain ⟨g, cur, rfl, rfl, hcap, hmax, hsz, hcur⟩ := hv.block (by omega)
    refine (sort_any g cap cur l w hm (Own.lend (hO.sub E)) hcap hmax hsz hcur hn).mono fun e w' ⟨h1, l', cur', h2, h3, h4, h5, h6⟩ => ⟨_, E ++ [⟨g, cur', 80⟩], h1, ⟨l', _, rfl, rfl, h2, h3, ?_⟩, ?_⟩
    · unfold SlS
      have hl := h2.length_eq
      rw [← hl] at h5 hcap ⊢
      exact ⟨by rw [kO zX], .inr ⟨g, cap, cur', rfl, rfl, hcap, hmax, h4, h5⟩⟩
    · have hp : Own M W w ([⟨g, cur, 80⟩] ++ E) := hO.perm List.perm_append_comm
      exact (Own.join hp h6).perm List.perm_append_comm
structure Merged (d : List Sp) (k : Nat) (V : Option Addr) (c : Nat) (out : List Sp) (ob : List Blk) : Prop where
  le : k ≤ d.length
  sl : Sl 80 14 (.slice V out.length c) out.length (out.flatMap yW) ob
  len : out.length ≤ k
  short : yY out
  eq : (d.take k).foldl j9 [] = out
theorem Merged.start (d : List Sp) : Merged d 0 none 0 [] [] := ⟨Nat.zero_le _, Sl.nil _ _, Nat.le_refl _, fun s hs => by simp at hs, by rw [List.take_zero]; rfl⟩
theorem mstep_app {out : List Sp} {s : Sp} (h : ∀ t ∈ out.getLast?, zM t.hi s.lo < 0) : j9 out s = out ++ [s] := by
  unfold j9
  cases hg : out.getLast? with
  | none => have : out = [] := by simpa using hg
            subst this; rfl
  | some t => dsimp only; rw [if_pos (h t hg)]
theorem mstep_set {out : List Sp} {s t : Sp} (h0 : 0 < out.length) (ht : out[out.length - 1]'(by omega) = t) (h : ¬ zM t.hi s.lo < 0) : j9 out s = out.set (out.length - 1) ⟨t.lo, yV t.hi s.hi⟩ := by
  have hg : out.getLast? = some t := by rw [List.getLast?_eq_getElem?, List.getElem?_eq_getElem (by omega), ht]
  unfold j9
  rw [hg]
  dsimp only
  rw [if_neg h, List.dropLast_eq_take, List.set_eq_take_append_cons_drop, if_pos (by omega), List.drop_of_length_le (by omega)]
theorem mstep_short {out : List Sp} {s : Sp} (ho : yY out) (hs : s.short) : yY (j9 out s) := by
  unfold j9
  split
  · intro x hx; obtain rfl : x = _ := by simpa using hx
    exact hs
  · rename_i t ht
    split
    · intro x hx
      rcases List.mem_append.1 hx with h | h
      · exact ho x h
      · obtain rfl : x = _ := by simpa using h
        exact hs
    · intro x hx
      rcases List.mem_append.1 hx with h | h
      · exact ho x (List.dropLast_subset _ h)
      · obtain rfl : x = _ := by simpa using h
        exact ⟨(ho t (List.mem_of_getLast? ht)).1, dX (ho t (List.mem_of_getLast? ht)).2 hs.2⟩
theorem Merged.step {d : List Sp} {k : Nat} {V V2 : Option Addr} {c c2 : Nat} {out out2 : List Sp} {ob ob2 : List Blk} (h : Merged d k V c out ob) (hk : k < d.length) {s : Sp} (hs : d[k] = s) (hss : s.short) (he : j9 out s = out2) (h2 : Sl 80 14 (.slice V2 out2.length c2) out2.length (out2.flatMap yW) ob2) : Merged d (k + 1) V2 c2 out2 ob2 :=
  ⟨by omega, h2, by have := h.len; have := mstep_len out s; rw [he] at this; omega, he ▸ mstep_short h.short hss, by rw [List.take_succ_eq_append_getElem hk, List.foldl_append, h.eq, hs]; exact he⟩
end
section
theorem mP (A : Option Addr) (cap : Nat) (l : List Sp) (W : World) (hv : Reads yW W W.heap.size A l) (hn : l.length ≤ 300000) (hl : yY l) :
    Calls Tryz.prog 136 #[.slice A l.length cap] W fun e w' => ∃ v' ob', e = .returned (.tuple #[v', .bool (xS l)]) ∧ SlS v' (if xS l then vU l else []) ob' ∧ Own [] W w' ob' := by
  refine zP (n := 69) Tryz.func136 rfl (by kernel_rfl) (by kernel_rfl) (ZO (Zv (.slice none 0 0) (Zv (.bool false) (ZN (z6 (ZO (Zv (.slice A l.length cap) (Zv (.int .i64 (l.length : Int)) ?_))))))))
  refine Zv (.int .i64 0) (ZN (zL (yP (fun L f m => ∃ (k : Nat) (j : Nat → Value), (k ≤ l.length ∧ xS (l.take k) = true) ∧ L = [] ∧ f = kG j [(0, .slice A l.length cap), (11, .slice A l.length cap), (12, .int .i64 (l.length : Int)), (13, .int .i64 (k : Int))] ∧ m = l.length - k) (l.length - 0) ⟨0, _, ⟨Nat.zero_le _, by rw [List.take_zero]; rfl⟩, rfl, ZU, rfl⟩ ?_)))
  rintro L f m ⟨k, j, hrel, rfl, rfl, rfl⟩
  have hkl := hrel.1
  refine z6 (z7 ?_)
  by_cases h1 : (k : Int) < (l.length : Int)
  · have hk : k < l.length := by omega
    obtain ⟨b, off, hA, hlt, hcell⟩ := hv (by omega)
    obtain ⟨s, hs⟩ : ∃ s, l[k] = s := ⟨_, rfl⟩
    have hsk : s.short := hs ▸ hl _ (List.getElem_mem _)
    refine Zd (p := (k : Int) < (l.length : Int)) true (decide_eq_true (h1)) (ZN (z6 (Zt (ZB (z6 (zL (ZO (zV (.pointer (some ⟨b, off + k * 14, none⟩)) (by kernel_rfl) (ZA (b := b) (off := off) (c := cap) (n := l.length) (k := .i64) (j := (k : Int)) (e := 80) (sz := 14) hA) ?_))))))))
    refine Zo (yK s) (a := ⟨b, off + k * 14, none⟩) (fun w hO => y9 zX (fun j u h => (hO.below.cell (p := ⟨b, off + j, none⟩) hlt).trans (hcell j u h)) k 0 hk (by omega) _ (by rw [hs]; kernel_rfl)) (Za (.agg #[.int .i64 0, .int .i64 0, .int .i64 0, .int .i64 0, .string ⟨#[]⟩, .string ⟨#[]⟩, .bool false, .int .i64 0, .int .i64 0, .int .i64 0, .int .i64 0, .string ⟨#[]⟩, .string ⟨#[]⟩, .bool false]) (fun b1 => Zs 0 ⟨b1, #[.int .i64 0, .int .i64 0, .int .i64 0, .int .i64 0, .string ⟨#[]⟩, .string ⟨#[]⟩, .bool false, .int .i64 0, .int .i64 0, .int .i64 0, .int .i64 0, .string ⟨#[]⟩, .string ⟨#[]⟩, .bool false], 80⟩ (off := 0) (yK s) (ZR (Zl 0 ⟨b1, (yK s).cells, 80⟩ (off := 0) (yK s) (Zc (k := 139) (args := #[yK s]) (.bool s.may) (fun w _ => wW s w hsk) ?_)))))
    cases h2 : s.may with
    | true =>
      refine Zv (.bool false) (ZX (x5 (zT (zA (z7 (Zu (k := .i64) (((k + 1 : Nat) : Int)) (IntWalk.i64_in _ (by omega)) (Zv (.int .i64 ((k + 1 : Nat) : Int)) (zR ?_))))))))
      have hnext : xS (l.take (k + 1)) = true := allMay_take l k hk hrel.2 (by rw [hs]; assumption)
      exact kC (fun w hO => Own.sub [_] hO) (zU (m' := l.length - (k + 1)) (by omega) ⟨k + 1, _, ⟨by omega, hnext⟩, rfl, ZU, rfl⟩)
    | false =>
      refine Zv (.bool true) (ZY (ZO (Zv (.slice none 0 0) (Zv (.bool false) (ZN (zB (zG ?_)))))))
      exact z8 (yB (zG (z8 (hY (.slice none 0 0) (.bool false) Tryz.results136 (by kernel_rfl) (by kernel_rfl) (fun w hO => ⟨_, [], by rw [fF l k hk (by rw [hs]; assumption)], by rw [fF l k hk (by rw [hs]; assumption), if_neg (by decide)]; exact Sl.nil _ _, Own.take hO (by simp) (by simp)⟩)))))
  have hall : xS l = true := by have h := hrel.2; rwa [List.take_of_length_le (by omega)] at h
  refine Zd (p := (k : Int) < (l.length : Int)) false (decide_eq_false (h1)) (ZN (z6 (Zf (y8 (zC (zN (zI (zA (z6 (z7 ?_))))))))))
  refine Zv (.slice A l.length cap) (yE (k := 177) (args := #[.slice A l.length cap]) (fun v' L' => SlS v' l L') (by kernel_rfl) (fun _ => by kernel_rfl) (fun w hO => (clone4_any A cap l w (hv.on hO.below hO.size) (by omega)).mono fun e w' ⟨v', ob', h1, h2, h3⟩ => ⟨v', ob', h1, h2, by simpa using Own.joinN hO h3⟩) (fun cv oc hcv => ?_))
  obtain ⟨B, capb, rfl⟩ := hcv.form
  refine Zv (.slice B l.length capb) (ZR (Zv (.slice B l.length capb) (yE (k := 178) (args := #[.slice B l.length capb, .func (.func 179) #[] #[]]) (fun v' L' => ∃ l', v' = .tuple #[] ∧ l'.Perm l ∧ fH l' ∧ SlS (.slice B l.length capb) l' L') (by kernel_rfl) (fun _ => by kernel_rfl) (fun w hO => (sort_call (E := []) hO hcv (by omega) (fun s hs => ⟨allMay_mem.1 hall s hs, hl s hs⟩)).mono fun e w' ⟨v', L', k1, ⟨l', ob', k2, k3, k4, k5, k6⟩, k7⟩ => ⟨v', L', k1, ⟨l', k2, k4, k5, by subst k3; exact k6⟩, k7⟩) (fun v5 od hv5 => ?_))))
  obtain ⟨d, rfl, hdp, hdso, hds⟩ := hv5
  have hdl : d.length = l.length := hdp.length_eq
  have hdm : ∀ s ∈ d, s.may = true ∧ s.short := fun s hs => ⟨allMay_mem.1 hall s (hdp.mem_iff.1 hs), hl s (hdp.mem_iff.1 hs)⟩
  unfold SlS at hds
  rw [← hdl] at hds ⊢
  refine kA (L' := od ++ []) (by simp) (ZR (Zv (.slice none 0 0) (ZN (z6 (ZO (Zv (.slice B d.length capb) ?_))))))
  refine Zv (.int .i64 (d.length : Int)) (Zv (.int .i64 0) (ZN (zL (yP (fun L f m => ∃ (k : Nat) (V : Option Addr) (q : Nat) (cv : Nat) (out : List Sp) (ob : List Blk) (j : Nat → Value), (q = out.length ∧ Merged d k V cv out ob) ∧ L = od ++ ob ∧ f = kG j [(7, .slice V q cv), (25, .slice B d.length capb), (26, .int .i64 (d.length : Int)), (27, .int .i64 (k : Int))] ∧ m = d.length - k) (d.length - 0) ⟨0, none, 0, 0, [], [], _, ⟨rfl, Merged.start d⟩, rfl, ZU, rfl⟩ ?_))))
  rintro L f m ⟨k, V, q, cv, out, ob, j, hrel, rfl, rfl, rfl⟩
  obtain ⟨hq, hrel⟩ := hrel; subst hq; have hkl := hrel.le; have hlen := hrel.len
  refine z6 (z7 ?_)
  by_cases h3 : (k : Int) < (d.length : Int)
  · have hk : k < d.length := by omega
    obtain ⟨gb, curb, hB, rfl, hcapb, hmaxb, hszb, hcurb⟩ := Sl.block hds (by omega)
    obtain ⟨s, hs⟩ : ∃ s, d[k] = s := ⟨_, rfl⟩
    have hsk : s.short := (hdm s (hs ▸ List.getElem_mem _)).2
    refine Zd (p := (k : Int) < (d.length : Int)) true (decide_eq_true (h3)) (ZN (z6 (Zt (ZB (z6 (zL (ZO (zV (.pointer (some ⟨gb, k * 14, none⟩)) (by kernel_rfl) (u7 (b := gb) (off := 0) (c := capb) (n := d.length) (k := .i64) (j := (k : Int)) (e := 80) (sz := 14) rfl (by kernel_rfl) hB (by kernel_rfl) (by kernel_rfl) (by kernel_rfl) (by omega) (by omega) (by show 0 + k * 14 = k * 14; omega)) ?_))))))))
    refine jF 0 ⟨gb, curb, 80⟩ (off := k * 14) (yK s) (by kernel_rfl) rfl (by kernel_rfl) (by kernel_rfl) (xD zX hcurb k 0 (by omega) (by omega) _ (by rw [hs]; kernel_rfl)) (Za (.agg #[.int .i64 0, .int .i64 0, .int .i64 0, .int .i64 0, .string ⟨#[]⟩, .string ⟨#[]⟩, .bool false, .int .i64 0, .int .i64 0, .int .i64 0, .int .i64 0, .string ⟨#[]⟩, .string ⟨#[]⟩, .bool false]) (fun b1 => Zs 0 ⟨b1, #[.int .i64 0, .int .i64 0, .int .i64 0, .int .i64 0, .string ⟨#[]⟩, .string ⟨#[]⟩, .bool false, .int .i64 0, .int .i64 0, .int .i64 0, .int .i64 0, .string ⟨#[]⟩, .string ⟨#[]⟩, .bool false], 80⟩ (off := 0) (yK s) (ZR (Zv (.slice V out.length cv) (Zv (.int .i64 (out.length : Int)) (Zu (k := .i64) (((out.length : Int) : Int) - 1) (IntWalk.i64_in _ (by omega)) (Zv (.int .i64 (((out.length : Int) : Int) - 1)) (zR ?_))))))))
    refine zA (z6 (z6 (qY (by kernel_rfl) (by kernel_rfl) (Zw (.int .i64 (((out.length : Int) : Int) - 1)) ?_))))
    by_cases h4 : (((out.length : Int) : Int) - 1 : Int) < 0
    · refine nH (p := (((out.length : Int) : Int) - 1 : Int) < 0) true (by kernel_rfl) (fun _ => by kernel_rfl) (decide_eq_true (h4)) ?_
      refine Zw (.bool true) (Zj (Zj (Zj (Zj (Zj (Zj (Zj (Zj (Zj (Zw (.bool true) (kZ ?_)))))))))))
      refine zA (Zt (ZO (Zv (.slice V out.length cv) (Zl 0 ⟨b1, (yK s).cells, 80⟩ (off := 0) (yK s) (qZ 80 #[.int .i64 s.lo.e, .int .i64 s.lo.v.maj, .int .i64 s.lo.v.min, .int .i64 s.lo.v.pat, .string (mkS s.lo.v.pre), .string (mkS s.lo.v.build), .bool s.lo.aft, .int .i64 s.hi.e, .int .i64 s.hi.v.maj, .int .i64 s.hi.v.min, .int .i64 s.hi.v.pat, .string (mkS s.hi.v.pre), .string (mkS s.hi.v.build), .bool s.hi.aft] (by kernel_rfl) rfl (fun _ => by kernel_rfl) (fun b2 => kA (L' := [⟨b2, #[.int .i64 s.lo.e, .int .i64 s.lo.v.maj, .int .i64 s.lo.v.min, .int .i64 s.lo.v.pat, .string (mkS s.lo.v.pre), .string (mkS s.lo.v.build), .bool s.lo.aft, .int .i64 s.hi.e, .int .i64 s.hi.v.maj, .int .i64 s.hi.v.min, .int .i64 s.hi.v.pat, .string (mkS s.hi.v.pre), .string (mkS s.hi.v.build), .bool s.hi.aft], 80⟩, ⟨b1, (yK s).cells, 80⟩, ⟨gb, curb, 80⟩] ++ ob ++ []) (by rw [List.append_nil]; rfl) ?_))))))
      obtain ⟨i, z, e1, e2, e3, e4, e5⟩ := gP
      refine gJ (sz := 14) (by kernel_rfl) rfl Tryz.underlying29 e1 e2 e3 e4 (by kernel_rfl) hrel.sl (a := ⟨b2, 0, none⟩) (m := 1) (c := 1) (news := yW s) (by kernel_rfl) rfl (fun w hO j u hj => ?_) (kM _) (by unfold maxLen; omega) (by rw [e5]; omega) (fun v2 ob2 hv2 => ?_)
      · rw [yM, cell_of_row w b2 (0 + j) (yW s).toArray 80 _ (hO.held ⟨b2, (yW s).toArray, 80⟩ (List.mem_append_left _ (List.mem_append_left _ (List.mem_cons_self ..))))]; simpa using hj
      have hv3 : SlS v2 (out ++ [s]) ob2 := hv2.to (by simp) (by simp)
      obtain ⟨V2, c2, rfl⟩ := hv3.form
      refine Zv (.slice V2 ((out ++ [s]).length) c2) (ZN (y8 (zC (zI (zA (z7 (Zu (k := .i64) (((k + 1 : Nat) : Int)) (IntWalk.i64_in _ (by omega)) (Zv (.int .i64 ((k + 1 : Nat) : Int)) (zR (kC (L' := [⟨gb, curb, 80⟩] ++ ob2) (fun w hO => ?_) ?_))))))))))
      · have h2 := hO.apart; rw [List.append_nil] at hO; exact Own.sub [_, _] hO
      exact zU (m' := d.length - (k + 1)) (by omega) ⟨k + 1, V2, (out ++ [s]).length, c2, out ++ [s], ob2, _, ⟨rfl, hrel.step hk hs hsk (mstep_app (fun t' ht' => by have : out = [] := List.eq_nil_of_length_eq_zero (by omega); subst this; simp at ht')) hv3⟩, rfl, ZU, rfl⟩
    obtain ⟨g, cur, hV, rfl, hcapc, hmaxc, hszc, hcurc⟩ := Sl.block hrel.sl (by omega)
    obtain ⟨t, ht⟩ : ∃ t, out[out.length - 1]'(by omega) = t := ⟨_, rfl⟩
    have htk : t.short := ht ▸ hrel.short _ (List.getElem_mem _)
    refine Ze (p := (((out.length : Int) : Int) - 1 : Int) < 0) false (decide_eq_false (h4)) (Zw (.bool false) (Zw (.slice V out.length cv) (Zw (.int .i64 (((out.length : Int) : Int) - 1)) (kX (.pointer (some ⟨g, (out.length - 1) * 14, none⟩)) (by kernel_rfl) (ZA (b := g) (off := 0) (c := cv) (n := out.length) (k := .i64) (j := (out.length : Int) - 1) (e := 80) (sz := 14) hV) (Zw (.pointer (some ⟨g, (out.length - 1) * 14 + 7, none⟩)) (v7 2 ⟨g, cur, 80⟩ (off := (out.length - 1) * 14 + 7) (zD t.hi) (by kernel_rfl) rfl (by kernel_rfl) (by kernel_rfl) (xD zX hcurc (out.length - 1) 7 (by omega) (by omega) _ (by rw [ht]; kernel_rfl)) (Zw (.pointer (some ⟨b1, 0, none⟩)) (Zm 0 ⟨b1, (yK s).cells, 80⟩ (off := 0) (.agg #[.int .i64 s.lo.e, .int .i64 s.lo.v.maj, .int .i64 s.lo.v.min, .int .i64 s.lo.v.pat, .string (mkS s.lo.v.pre), .string (mkS s.lo.v.build), .bool s.lo.aft]) (Zq (k := 173) (args := #[zD t.hi, .agg #[.int .i64 s.lo.e, .int .i64 s.lo.v.maj, .int .i64 s.lo.v.min, .int .i64 s.lo.v.pat, .string (mkS s.lo.v.pre), .string (mkS s.lo.v.build), .bool s.lo.aft]]) (.int .i64 (zM t.hi s.lo)) (fun w _ => m9 t.hi s.lo w htk.2 hsk.1) ?_)))))))))
    by_cases h5 : (zM t.hi s.lo : Int) < 0
    · refine nH (p := (zM t.hi s.lo : Int) < 0) true (by kernel_rfl) (fun _ => by kernel_rfl) (decide_eq_true (h5)) ?_
      refine Zw (.bool true) (kZ (zA (Zt (ZO (Zv (.slice V out.length cv) (Zl 0 ⟨b1, (yK s).cells, 80⟩ (off := 0) (yK s) (qZ 80 #[.int .i64 s.lo.e, .int .i64 s.lo.v.maj, .int .i64 s.lo.v.min, .int .i64 s.lo.v.pat, .string (mkS s.lo.v.pre), .string (mkS s.lo.v.build), .bool s.lo.aft, .int .i64 s.hi.e, .int .i64 s.hi.v.maj, .int .i64 s.hi.v.min, .int .i64 s.hi.v.pat, .string (mkS s.hi.v.pre), .string (mkS s.hi.v.build), .bool s.hi.aft] (by kernel_rfl) rfl (fun _ => by kernel_rfl) (fun b2 => kA (L' := [⟨b2, #[.int .i64 s.lo.e, .int .i64 s.lo.v.maj, .int .i64 s.lo.v.min, .int .i64 s.lo.v.pat, .string (mkS s.lo.v.pre), .string (mkS s.lo.v.build), .bool s.lo.aft, .int .i64 s.hi.e, .int .i64 s.hi.v.maj, .int .i64 s.hi.v.min, .int .i64 s.hi.v.pat, .string (mkS s.hi.v.pre), .string (mkS s.hi.v.build), .bool s.hi.aft], 80⟩, ⟨b1, (yK s).cells, 80⟩, ⟨gb, curb, 80⟩] ++ [⟨g, cur, 80⟩] ++ []) (by rw [List.append_nil]; rfl) ?_))))))))
      obtain ⟨i, z, e1, e2, e3, e4, e5⟩ := gP
      refine gJ (sz := 14) (by kernel_rfl) rfl Tryz.underlying29 e1 e2 e3 e4 (by kernel_rfl) hrel.sl (a := ⟨b2, 0, none⟩) (m := 1) (c := 1) (news := yW s) (by kernel_rfl) rfl (fun w hO j u hj => ?_) (kM _) (by unfold maxLen; omega) (by rw [e5]; omega) (fun v2 ob2 hv2 => ?_)
      · rw [yM, cell_of_row w b2 (0 + j) (yW s).toArray 80 _ (hO.held ⟨b2, (yW s).toArray, 80⟩ (List.mem_append_left _ (List.mem_append_left _ (List.mem_cons_self ..))))]; simpa using hj
      have hv3 : SlS v2 (out ++ [s]) ob2 := hv2.to (by simp) (by simp)
      obtain ⟨V2, c2, rfl⟩ := hv3.form
      refine Zv (.slice V2 ((out ++ [s]).length) c2) (ZN (y8 (zC (zI (zA (z7 (Zu (k := .i64) (((k + 1 : Nat) : Int)) (IntWalk.i64_in _ (by omega)) (Zv (.int .i64 ((k + 1 : Nat) : Int)) (zR (kC (L' := [⟨gb, curb, 80⟩] ++ ob2) (fun w hO => ?_) ?_))))))))))
      · have h2 := hO.apart; rw [List.append_nil] at hO; exact Own.sub [_, _] hO
      exact zU (m' := d.length - (k + 1)) (by omega) ⟨k + 1, V2, (out ++ [s]).length, c2, out ++ [s], ob2, _, ⟨rfl, hrel.step hk hs hsk (mstep_app (fun t' ht' => by rw [last_at (by omega) ht ht']; assumption)) hv3⟩, rfl, ZU, rfl⟩
    refine Ze (p := (zM t.hi s.lo : Int) < 0) false (decide_eq_false (h5)) (Zw (.bool false) (kZ (zA (Zf (ZB (ok_drawt 14 (by kernel_rfl) (by kernel_rfl) (by kernel_rfl) ?_))))))
    simp only [List.take_succ_cons, List.take_zero, List.drop_succ_cons, List.drop_zero]
    refine Zw (.slice V out.length cv) (Zw (.int .i64 (((out.length : Int) : Int) - 1)) (Zw (.slice V out.length cv) (Zw (.int .i64 (((out.length : Int) : Int) - 1)) (kX (.pointer (some ⟨g, (out.length - 1) * 14, none⟩)) (by kernel_rfl) (ZA (b := g) (off := 0) (c := cv) (n := out.length) (k := .i64) (j := (out.length : Int) - 1) (e := 80) (sz := 14) hV) (Zw (.pointer (some ⟨g, (out.length - 1) * 14 + 7, none⟩)) (v7 2 ⟨g, cur, 80⟩ (off := (out.length - 1) * 14 + 7) (zD t.hi) (by kernel_rfl) rfl (by kernel_rfl) (by kernel_rfl) (xD zX hcurc (out.length - 1) 7 (by omega) (by omega) _ (by rw [ht]; kernel_rfl)) (Zw (.pointer (some ⟨b1, 7, none⟩)) (Zm 0 ⟨b1, (yK s).cells, 80⟩ (off := 7) (.agg #[.int .i64 s.hi.e, .int .i64 s.hi.v.maj, .int .i64 s.hi.v.min, .int .i64 s.hi.v.pat, .string (mkS s.hi.v.pre), .string (mkS s.hi.v.build), .bool s.hi.aft]) (Zq (k := 130) (args := #[zD t.hi, .agg #[.int .i64 s.hi.e, .int .i64 s.hi.v.maj, .int .i64 s.hi.v.min, .int .i64 s.hi.v.pat, .string (mkS s.hi.v.pre), .string (mkS s.hi.v.build), .bool s.hi.aft]]) (.tuple #[zD (yQ t.hi s.hi), zD (yV t.hi s.hi)]) (fun w _ => qF t.hi s.hi w htk.2 hsk.2) (Zw (.tuple #[zD (yQ t.hi s.hi), zD (yV t.hi s.hi)]) (Zw (zD (yQ t.hi s.hi)) ?_)))))))))))
    refine Zw (zD (yV t.hi s.hi)) (kX (.pointer (some ⟨g, (out.length - 1) * 14, none⟩)) (by kernel_rfl) (ZA (b := g) (off := 0) (c := cv) (n := out.length) (k := .i64) (j := (out.length : Int) - 1) (e := 80) (sz := 14) hV) (kZ (Zv (.pointer (some ⟨g, (out.length - 1) * 14 + 7, none⟩)) (t6 2 ⟨g, cur, 80⟩ (off := (out.length - 1) * 14 + 7) (zD (yV t.hi s.hi)) 7 (by kernel_rfl) rfl rfl (by kernel_rfl) (by kernel_rfl) (by kernel_rfl) (by kernel_rfl) (by kernel_rfl) (by show (out.length - 1) * 14 + 7 + 7 ≤ cur.size; omega) (by kernel_rfl) ?_))))
    have hse := dO zX hcurc (out.length - 1) 7 (by omega) (zD (yV t.hi s.hi)).cells ⟨t.lo, yV t.hi s.hi⟩ (show 7 + 7 ≤ 14 by decide) (by rw [ht]; rfl)
    refine zR (zT (zA (z7 (Zu (k := .i64) (((k + 1 : Nat) : Int)) (IntWalk.i64_in _ (by omega)) (Zv (.int .i64 ((k + 1 : Nat) : Int)) (zR ?_))))))
    have hset : Merged d (k + 1) V cv (out.set (out.length - 1) ⟨t.lo, yV t.hi s.hi⟩) [⟨g, kD cur ((out.length - 1) * 14 + 7) (zD (yV t.hi s.hi)).cells, 80⟩] := hrel.step hk hs hsk (mstep_set (by omega) ht (by assumption)) (by rw [List.length_set]; exact ⟨by rw [kO zX, List.length_set], .inr ⟨g, cv, _, by rw [hV], rfl, hcapc, hmaxc, by rw [hse.2]; exact hszc, hse.1⟩⟩)
    refine kC (L' := [⟨gb, curb, 80⟩] ++ [⟨g, kD cur ((out.length - 1) * 14 + 7) (zD (yV t.hi s.hi)).cells, 80⟩]) (fun w hO => Own.sub [_] hO) ?_
    have hls : (out.set (out.length - 1) ⟨t.lo, yV t.hi s.hi⟩).length = out.length := List.length_set
    exact zU (m' := d.length - (k + 1)) (by omega) ⟨k + 1, V, out.length, cv, out.set (out.length - 1) ⟨t.lo, yV t.hi s.hi⟩, [⟨g, kD cur ((out.length - 1) * 14 + 7) (zD (yV t.hi s.hi)).cells, 80⟩], _, ⟨by rw [List.length_set], hset⟩, rfl, ZU, rfl⟩
  refine Zd (p := (k : Int) < (d.length : Int)) false (decide_eq_false (h3)) (ZN (z6 (Zf (y8 (zC (zN (zI (zA (z6 (z7 ?_))))))))))
  refine Zv (.slice V out.length cv) (yE (k := 132) (args := #[.slice V out.length cv]) (fun v' L' => ∃ ob', L' = od ++ ob' ∧ SlS v' out ob') (by kernel_rfl) (fun _ => by kernel_rfl) (fun w hO => uO (E := od) hO hrel.sl (by omega) hrel.short) (fun v4 L2 hv2 => ?_))
  obtain ⟨ob4, rfl, hs4⟩ := hv2
  exact Zv (v4) (Zv (.bool true) (ZN (zB (hY (v4) (.bool true) Tryz.results136 (by kernel_rfl) (by kernel_rfl) (fun w hO => ⟨v4, ob4, by rw [hall], by rw [hall, if_pos rfl, show vU l = out from by rw [← merge_eq (allMay_mem.1 hall) hdp hdso]; have he := hrel.eq; rw [List.take_of_length_le (by omega)] at he; exact he]; exact hs4, hO.sub od⟩)))))
end
section
theorem parts_in {c : Co} (h : c.may = true) : (0 ≤ c.parts ∧ c.parts ≤ 3) ∧ (¬ c.op = 9 → 1 ≤ c.parts) ∧ (c.op = 9 → c.parts ≤ 2) ∧ (vD c = 0 ∨ vD c = 1 ∨ vD c = 2 ∨ c.op = 9) := by
  obtain ⟨_, _, _, h9, hn, _⟩ := Co.facts h
  refine ⟨?_, fun e => (hn e).1, fun e => (h9 e).2, ?_⟩
  · by_cases e : c.op = 9
    · have := h9 e; omega
    · have := hn e; omega
  · by_cases e : c.op = 9
    · exact .inr (.inr (.inr e))
    · have := hn e
      unfold vD
      repeat' split
      all_goals omega
theorem cbounds_any (c : Co) (W : World) (hc : c.short) (ho : 1 ≤ c.op ∧ c.op ≤ 9) (hq : (0 ≤ c.parts ∧ c.parts ≤ 3) ∧ (¬ c.op = 9 → 1 ≤ c.parts) ∧ (c.op = 9 → c.parts ≤ 2) ∧ (vD c = 0 ∨ vD c = 1 ∨ vD c = 2 ∨ c.op = 9)) : Calls Tryz.prog 134 #[coV c] W fun e w' => e = .returned (.tuple #[zD (qH c).1, zD (qH c).2]) ∧ Below W.heap.size W w' := by
  obtain ⟨hp, hn1, h92, hlk⟩ := hq
  refine zP (n := 58) Tryz.func134 rfl (by kernel_rfl) (by kernel_rfl) (ZO (Zb (coV c) (fun b1 => Za (.agg #[.int .i64 0, .int .i64 0, .int .i64 0, .int .i64 0, .string ⟨#[]⟩, .string ⟨#[]⟩, .bool false]) (fun b2 => Za (.agg #[.int .i64 0, .int .i64 0, .int .i64 0, .int .i64 0, .string ⟨#[]⟩, .string ⟨#[]⟩, .bool false]) (fun b3 => ZR (Zv (.agg #[.int .i64 (-1), .int .i64 0, .int .i64 0, .int .i64 0, .string ⟨#[]⟩, .string ⟨#[]⟩, .bool false]) (Zv (.agg #[.int .i64 1, .int .i64 0, .int .i64 0, .int .i64 0, .string ⟨#[]⟩, .string ⟨#[]⟩, .bool false]) ?_)))))))
  refine Za (.agg #[.int .i64 0, .int .i64 0, .int .i64 0, .int .i64 0, .string ⟨#[]⟩, .string ⟨#[]⟩, .bool false]) (fun b4 => Za (.agg #[.int .i64 0, .int .i64 0, .int .i64 0, .int .i64 0, .string ⟨#[]⟩, .string ⟨#[]⟩, .bool false]) (fun b5 => Zs 1 ⟨b4, #[.int .i64 0, .int .i64 0, .int .i64 0, .int .i64 0, .string ⟨#[]⟩, .string ⟨#[]⟩, .bool false], 78⟩ (off := 0) (.agg #[.int .i64 (-1), .int .i64 0, .int .i64 0, .int .i64 0, .string ⟨#[]⟩, .string ⟨#[]⟩, .bool false]) (Zs 0 ⟨b5, #[.int .i64 0, .int .i64 0, .int .i64 0, .int .i64 0, .string ⟨#[]⟩, .string ⟨#[]⟩, .bool false], 78⟩ (off := 0) (.agg #[.int .i64 1, .int .i64 0, .int .i64 0, .int .i64 0, .string ⟨#[]⟩, .string ⟨#[]⟩, .bool false]) (vZ (L' := [⟨b3, #[.int .i64 0, .int .i64 0, .int .i64 0, .int .i64 0, .string ⟨#[]⟩, .string ⟨#[]⟩, .bool false], 78⟩, ⟨b2, #[.int .i64 0, .int .i64 0, .int .i64 0, .int .i64 0, .string ⟨#[]⟩, .string ⟨#[]⟩, .bool false], 78⟩, ⟨b5, #[.int .i64 1, .int .i64 0, .int .i64 0, .int .i64 0, .string ⟨#[]⟩, .string ⟨#[]⟩, .bool false], 78⟩, ⟨b4, #[.int .i64 (-1), .int .i64 0, .int .i64 0, .int .i64 0, .string ⟨#[]⟩, .string ⟨#[]⟩, .bool false], 78⟩, ⟨b1, (coV c).cells, 51⟩]) (fun w hO => hO.perm ((List.perm_append_comm (l₁ := [_, _]) (l₂ := [_, _])).append_right [_])) (ZN (z6 (bA (fun L f => ∃ (p6 p7 : Nat) (j : Nat → Value), L = [⟨p7, (zD (g9 c)).cells, 78⟩, ⟨p6, (zD ⟨0, c.v, false⟩).cells, 78⟩, ⟨b3, #[.int .i64 0, .int .i64 0, .int .i64 0, .int .i64 0, .string ⟨#[]⟩, .string ⟨#[]⟩, .bool false], 78⟩, ⟨b2, #[.int .i64 0, .int .i64 0, .int .i64 0, .int .i64 0, .string ⟨#[]⟩, .string ⟨#[]⟩, .bool false], 78⟩, ⟨b5, #[.int .i64 1, .int .i64 0, .int .i64 0, .int .i64 0, .string ⟨#[]⟩, .string ⟨#[]⟩, .bool false], 78⟩, ⟨b4, #[.int .i64 (-1), .int .i64 0, .int .i64 0, .int .i64 0, .string ⟨#[]⟩, .string ⟨#[]⟩, .bool false], 78⟩, ⟨b1, (coV c).cells, 51⟩] ∧ f = kG j [(1, .pointer (some ⟨b1, 0, none⟩)), (2, .pointer (some ⟨b2, 0, none⟩)), (3, .pointer (some ⟨b3, 0, none⟩)), (4, .pointer (some ⟨b4, 0, none⟩)), (5, .pointer (some ⟨b5, 0, none⟩)), (6, .pointer (some ⟨p6, 0, none⟩)), (7, .pointer (some ⟨p7, 0, none⟩))]) ?_ ?_)))))))
  · refine uQ (by kernel_rfl) ?_
    refine ZT 0 [] _ (.pointer (some ⟨b1, 2, none⟩)) yI rfl (ZL 1 [] _ 4 ⟨b1, (coV c).cells, 51⟩ (off := 2) (.agg #[.int .i64 c.v.maj, .int .i64 c.v.min, .int .i64 c.v.pat, .string (mkS c.v.pre), .string (mkS c.v.build)]) yI rfl rfl (ZT 2 [] _ (.agg #[.int .i64 0, .int .i64 c.v.maj, .int .i64 c.v.min, .int .i64 c.v.pat, .string (mkS c.v.pre), .string (mkS c.v.build), .bool false]) yI rfl (ZL 3 [] _ 4 ⟨b1, (coV c).cells, 51⟩ (off := 0) (coV c) yI rfl rfl (h_three 4 5 6 (by kernel_rfl) ?_ ?_ ?_))))
    · refine kJ [] _ (k := 174) (args := #[coV c]) (zD (g9 c)) rfl (by kernel_rfl) (fun _ => by kernel_rfl) (fun w _ => uH c w hc hp) ?_
      refine fI 5 6 (by kernel_rfl) ?_ ?_
      · refine yS [] _ (.agg #[.int .i64 0, .int .i64 0, .int .i64 0, .int .i64 0, .string ⟨#[]⟩, .string ⟨#[]⟩, .bool false]) rfl (by kernel_rfl) rfl (by kernel_rfl) (fun b6 => ?_)
        exact zZ 6 (by kernel_rfl) (yS [⟨b6, #[.int .i64 0, .int .i64 0, .int .i64 0, .int .i64 0, .string ⟨#[]⟩, .string ⟨#[]⟩, .bool false], 78⟩] _ (.agg #[.int .i64 0, .int .i64 0, .int .i64 0, .int .i64 0, .string ⟨#[]⟩, .string ⟨#[]⟩, .bool false]) rfl (by kernel_rfl) rfl (by kernel_rfl) (fun b7 => zZ 7 (by kernel_rfl) (ZS [⟨b7, #[.int .i64 0, .int .i64 0, .int .i64 0, .int .i64 0, .string ⟨#[]⟩, .string ⟨#[]⟩, .bool false], 78⟩, ⟨b6, #[.int .i64 0, .int .i64 0, .int .i64 0, .int .i64 0, .string ⟨#[]⟩, .string ⟨#[]⟩, .bool false], 78⟩] _ 1 ⟨b6, #[.int .i64 0, .int .i64 0, .int .i64 0, .int .i64 0, .string ⟨#[]⟩, .string ⟨#[]⟩, .bool false], 78⟩ (off := 0) (.agg #[.int .i64 0, .int .i64 c.v.maj, .int .i64 c.v.min, .int .i64 c.v.pat, .string (mkS c.v.pre), .string (mkS c.v.build), .bool false]) rfl rfl (zZ 8 (by kernel_rfl) (ZS [⟨b7, #[.int .i64 0, .int .i64 0, .int .i64 0, .int .i64 0, .string ⟨#[]⟩, .string ⟨#[]⟩, .bool false], 78⟩, ⟨b6, #[.int .i64 0, .int .i64 c.v.maj, .int .i64 c.v.min, .int .i64 c.v.pat, .string (mkS c.v.pre), .string (mkS c.v.build), .bool false], 78⟩] _ 0 ⟨b7, #[.int .i64 0, .int .i64 0, .int .i64 0, .int .i64 0, .string ⟨#[]⟩, .string ⟨#[]⟩, .bool false], 78⟩ (off := 0) (zD (g9 c)) rfl rfl (x7 (by kernel_rfl) (yX ⟨b6, b7, _, rfl, ZU⟩)))))))
      exact yS [] _ (.agg #[.int .i64 0, .int .i64 0, .int .i64 0, .int .i64 0, .string ⟨#[]⟩, .string ⟨#[]⟩, .bool false]) rfl (by kernel_rfl) rfl (by kernel_rfl) (fun b6 => zZ 5 (by kernel_rfl) (yS [⟨b6, #[.int .i64 0, .int .i64 0, .int .i64 0, .int .i64 0, .string ⟨#[]⟩, .string ⟨#[]⟩, .bool false], 78⟩] _ (.agg #[.int .i64 0, .int .i64 0, .int .i64 0, .int .i64 0, .string ⟨#[]⟩, .string ⟨#[]⟩, .bool false]) rfl (by kernel_rfl) rfl (by kernel_rfl) (fun b7 => zZ 7 (by kernel_rfl) (ZS [⟨b7, #[.int .i64 0, .int .i64 0, .int .i64 0, .int .i64 0, .string ⟨#[]⟩, .string ⟨#[]⟩, .bool false], 78⟩, ⟨b6, #[.int .i64 0, .int .i64 0, .int .i64 0, .int .i64 0, .string ⟨#[]⟩, .string ⟨#[]⟩, .bool false], 78⟩] _ 0 ⟨b7, #[.int .i64 0, .int .i64 0, .int .i64 0, .int .i64 0, .string ⟨#[]⟩, .string ⟨#[]⟩, .bool false], 78⟩ (off := 0) (.agg #[.int .i64 0, .int .i64 c.v.maj, .int .i64 c.v.min, .int .i64 c.v.pat, .string (mkS c.v.pre), .string (mkS c.v.build), .bool false]) rfl rfl (zZ 8 (by kernel_rfl) (ZS [⟨b7, #[.int .i64 0, .int .i64 c.v.maj, .int .i64 c.v.min, .int .i64 c.v.pat, .string (mkS c.v.pre), .string (mkS c.v.build), .bool false], 78⟩, ⟨b6, #[.int .i64 0, .int .i64 0, .int .i64 0, .int .i64 0, .string ⟨#[]⟩, .string ⟨#[]⟩, .bool false], 78⟩] _ 1 ⟨b6, #[.int .i64 0, .int .i64 0, .int .i64 0, .int .i64 0, .string ⟨#[]⟩, .string ⟨#[]⟩, .bool false], 78⟩ (off := 0) (zD (g9 c)) rfl rfl (x7 (by kernel_rfl) (jM (yX ⟨b7, b6, _, rfl, ZU⟩)))))))))
    · refine yS [] _ (.agg #[.int .i64 0, .int .i64 0, .int .i64 0, .int .i64 0, .string ⟨#[]⟩, .string ⟨#[]⟩, .bool false]) rfl (by kernel_rfl) rfl (by kernel_rfl) (fun b6 => ?_)
      refine fI 4 6 (by kernel_rfl) ?_ ?_
      · refine kJ [⟨b6, #[.int .i64 0, .int .i64 0, .int .i64 0, .int .i64 0, .string ⟨#[]⟩, .string ⟨#[]⟩, .bool false], 78⟩] _ (k := 174) (args := #[coV c]) (zD (g9 c)) rfl (by kernel_rfl) (fun _ => by kernel_rfl) (fun w _ => uH c w hc hp) ?_
        exact zZ 6 (by kernel_rfl) (yS [⟨b6, #[.int .i64 0, .int .i64 0, .int .i64 0, .int .i64 0, .string ⟨#[]⟩, .string ⟨#[]⟩, .bool false], 78⟩] _ (.agg #[.int .i64 0, .int .i64 0, .int .i64 0, .int .i64 0, .string ⟨#[]⟩, .string ⟨#[]⟩, .bool false]) rfl (by kernel_rfl) rfl (by kernel_rfl) (fun b7 => zZ 7 (by kernel_rfl) (ZS [⟨b7, #[.int .i64 0, .int .i64 0, .int .i64 0, .int .i64 0, .string ⟨#[]⟩, .string ⟨#[]⟩, .bool false], 78⟩, ⟨b6, #[.int .i64 0, .int .i64 0, .int .i64 0, .int .i64 0, .string ⟨#[]⟩, .string ⟨#[]⟩, .bool false], 78⟩] _ 1 ⟨b6, #[.int .i64 0, .int .i64 0, .int .i64 0, .int .i64 0, .string ⟨#[]⟩, .string ⟨#[]⟩, .bool false], 78⟩ (off := 0) (.agg #[.int .i64 0, .int .i64 c.v.maj, .int .i64 c.v.min, .int .i64 c.v.pat, .string (mkS c.v.pre), .string (mkS c.v.build), .bool false]) rfl rfl (zZ 8 (by kernel_rfl) (ZS [⟨b7, #[.int .i64 0, .int .i64 0, .int .i64 0, .int .i64 0, .string ⟨#[]⟩, .string ⟨#[]⟩, .bool false], 78⟩, ⟨b6, #[.int .i64 0, .int .i64 c.v.maj, .int .i64 c.v.min, .int .i64 c.v.pat, .string (mkS c.v.pre), .string (mkS c.v.build), .bool false], 78⟩] _ 0 ⟨b7, #[.int .i64 0, .int .i64 0, .int .i64 0, .int .i64 0, .string ⟨#[]⟩, .string ⟨#[]⟩, .bool false], 78⟩ (off := 0) (zD (g9 c)) rfl rfl (x7 (by kernel_rfl) (yX ⟨b6, b7, _, rfl, ZU⟩)))))))
      exact yS [⟨b6, #[.int .i64 0, .int .i64 0, .int .i64 0, .int .i64 0, .string ⟨#[]⟩, .string ⟨#[]⟩, .bool false], 78⟩] _ (.agg #[.int .i64 0, .int .i64 0, .int .i64 0, .int .i64 0, .string ⟨#[]⟩, .string ⟨#[]⟩, .bool false]) rfl (by kernel_rfl) rfl (by kernel_rfl) (fun b7 => zZ 4 (by kernel_rfl) (kJ [⟨b7, #[.int .i64 0, .int .i64 0, .int .i64 0, .int .i64 0, .string ⟨#[]⟩, .string ⟨#[]⟩, .bool false], 78⟩, ⟨b6, #[.int .i64 0, .int .i64 0, .int .i64 0, .int .i64 0, .string ⟨#[]⟩, .string ⟨#[]⟩, .bool false], 78⟩] _ (k := 174) (args := #[coV c]) (zD (g9 c)) rfl (by kernel_rfl) (fun _ => by kernel_rfl) (fun w _ => uH c w hc hp) (zZ 7 (by kernel_rfl) (ZS [⟨b7, #[.int .i64 0, .int .i64 0, .int .i64 0, .int .i64 0, .string ⟨#[]⟩, .string ⟨#[]⟩, .bool false], 78⟩, ⟨b6, #[.int .i64 0, .int .i64 0, .int .i64 0, .int .i64 0, .string ⟨#[]⟩, .string ⟨#[]⟩, .bool false], 78⟩] _ 1 ⟨b6, #[.int .i64 0, .int .i64 0, .int .i64 0, .int .i64 0, .string ⟨#[]⟩, .string ⟨#[]⟩, .bool false], 78⟩ (off := 0) (.agg #[.int .i64 0, .int .i64 c.v.maj, .int .i64 c.v.min, .int .i64 c.v.pat, .string (mkS c.v.pre), .string (mkS c.v.build), .bool false]) rfl rfl (zZ 8 (by kernel_rfl) (ZS [⟨b7, #[.int .i64 0, .int .i64 0, .int .i64 0, .int .i64 0, .string ⟨#[]⟩, .string ⟨#[]⟩, .bool false], 78⟩, ⟨b6, #[.int .i64 0, .int .i64 c.v.maj, .int .i64 c.v.min, .int .i64 c.v.pat, .string (mkS c.v.pre), .string (mkS c.v.build), .bool false], 78⟩] _ 0 ⟨b7, #[.int .i64 0, .int .i64 0, .int .i64 0, .int .i64 0, .string ⟨#[]⟩, .string ⟨#[]⟩, .bool false], 78⟩ (off := 0) (zD (g9 c)) rfl rfl (x7 (by kernel_rfl) (yX ⟨b6, b7, _, rfl, ZU⟩))))))))
    refine yS [] _ (.agg #[.int .i64 0, .int .i64 0, .int .i64 0, .int .i64 0, .string ⟨#[]⟩, .string ⟨#[]⟩, .bool false]) rfl (by kernel_rfl) rfl (by kernel_rfl) (fun b6 => fI 4 5 (by kernel_rfl) ?_ ?_)
    · refine kJ [⟨b6, #[.int .i64 0, .int .i64 0, .int .i64 0, .int .i64 0, .string ⟨#[]⟩, .string ⟨#[]⟩, .bool false], 78⟩] _ (k := 174) (args := #[coV c]) (zD (g9 c)) rfl (by kernel_rfl) (fun _ => by kernel_rfl) (fun w _ => uH c w hc hp) ?_
      exact zZ 5 (by kernel_rfl) (yS [⟨b6, #[.int .i64 0, .int .i64 0, .int .i64 0, .int .i64 0, .string ⟨#[]⟩, .string ⟨#[]⟩, .bool false], 78⟩] _ (.agg #[.int .i64 0, .int .i64 0, .int .i64 0, .int .i64 0, .string ⟨#[]⟩, .string ⟨#[]⟩, .bool false]) rfl (by kernel_rfl) rfl (by kernel_rfl) (fun b7 => zZ 7 (by kernel_rfl) (ZS [⟨b7, #[.int .i64 0, .int .i64 0, .int .i64 0, .int .i64 0, .string ⟨#[]⟩, .string ⟨#[]⟩, .bool false], 78⟩, ⟨b6, #[.int .i64 0, .int .i64 0, .int .i64 0, .int .i64 0, .string ⟨#[]⟩, .string ⟨#[]⟩, .bool false], 78⟩] _ 0 ⟨b7, #[.int .i64 0, .int .i64 0, .int .i64 0, .int .i64 0, .string ⟨#[]⟩, .string ⟨#[]⟩, .bool false], 78⟩ (off := 0) (.agg #[.int .i64 0, .int .i64 c.v.maj, .int .i64 c.v.min, .int .i64 c.v.pat, .string (mkS c.v.pre), .string (mkS c.v.build), .bool false]) rfl rfl (zZ 8 (by kernel_rfl) (ZS [⟨b7, #[.int .i64 0, .int .i64 c.v.maj, .int .i64 c.v.min, .int .i64 c.v.pat, .string (mkS c.v.pre), .string (mkS c.v.build), .bool false], 78⟩, ⟨b6, #[.int .i64 0, .int .i64 0, .int .i64 0, .int .i64 0, .string ⟨#[]⟩, .string ⟨#[]⟩, .bool false], 78⟩] _ 1 ⟨b6, #[.int .i64 0, .int .i64 0, .int .i64 0, .int .i64 0, .string ⟨#[]⟩, .string ⟨#[]⟩, .bool false], 78⟩ (off := 0) (zD (g9 c)) rfl rfl (x7 (by kernel_rfl) (jM (yX ⟨b7, b6, _, rfl, ZU⟩))))))))
    exact yS [⟨b6, #[.int .i64 0, .int .i64 0, .int .i64 0, .int .i64 0, .string ⟨#[]⟩, .string ⟨#[]⟩, .bool false], 78⟩] _ (.agg #[.int .i64 0, .int .i64 0, .int .i64 0, .int .i64 0, .string ⟨#[]⟩, .string ⟨#[]⟩, .bool false]) rfl (by kernel_rfl) rfl (by kernel_rfl) (fun b7 => zZ 4 (by kernel_rfl) (kJ [⟨b7, #[.int .i64 0, .int .i64 0, .int .i64 0, .int .i64 0, .string ⟨#[]⟩, .string ⟨#[]⟩, .bool false], 78⟩, ⟨b6, #[.int .i64 0, .int .i64 0, .int .i64 0, .int .i64 0, .string ⟨#[]⟩, .string ⟨#[]⟩, .bool false], 78⟩] _ (k := 174) (args := #[coV c]) (zD (g9 c)) rfl (by kernel_rfl) (fun _ => by kernel_rfl) (fun w _ => uH c w hc hp) (zZ 7 (by kernel_rfl) (ZS [⟨b7, #[.int .i64 0, .int .i64 0, .int .i64 0, .int .i64 0, .string ⟨#[]⟩, .string ⟨#[]⟩, .bool false], 78⟩, ⟨b6, #[.int .i64 0, .int .i64 0, .int .i64 0, .int .i64 0, .string ⟨#[]⟩, .string ⟨#[]⟩, .bool false], 78⟩] _ 0 ⟨b7, #[.int .i64 0, .int .i64 0, .int .i64 0, .int .i64 0, .string ⟨#[]⟩, .string ⟨#[]⟩, .bool false], 78⟩ (off := 0) (.agg #[.int .i64 0, .int .i64 c.v.maj, .int .i64 c.v.min, .int .i64 c.v.pat, .string (mkS c.v.pre), .string (mkS c.v.build), .bool false]) rfl rfl (zZ 8 (by kernel_rfl) (ZS [⟨b7, #[.int .i64 0, .int .i64 c.v.maj, .int .i64 c.v.min, .int .i64 c.v.pat, .string (mkS c.v.pre), .string (mkS c.v.build), .bool false], 78⟩, ⟨b6, #[.int .i64 0, .int .i64 0, .int .i64 0, .int .i64 0, .string ⟨#[]⟩, .string ⟨#[]⟩, .bool false], 78⟩] _ 1 ⟨b6, #[.int .i64 0, .int .i64 0, .int .i64 0, .int .i64 0, .string ⟨#[]⟩, .string ⟨#[]⟩, .bool false], 78⟩ (off := 0) (zD (g9 c)) rfl rfl (x7 (by kernel_rfl) (jM (yX ⟨b7, b6, _, rfl, ZU⟩)))))))))
  · rintro L f ⟨p6, p7, j, rfl, rfl⟩
    refine kC (L' := [⟨b3, #[.int .i64 0, .int .i64 0, .int .i64 0, .int .i64 0, .string ⟨#[]⟩, .string ⟨#[]⟩, .bool false], 78⟩, ⟨b2, #[.int .i64 0, .int .i64 0, .int .i64 0, .int .i64 0, .string ⟨#[]⟩, .string ⟨#[]⟩, .bool false], 78⟩, ⟨p7, (zD (g9 c)).cells, 78⟩, ⟨p6, (zD ⟨0, c.v, false⟩).cells, 78⟩, ⟨b5, #[.int .i64 1, .int .i64 0, .int .i64 0, .int .i64 0, .string ⟨#[]⟩, .string ⟨#[]⟩, .bool false], 78⟩, ⟨b4, #[.int .i64 (-1), .int .i64 0, .int .i64 0, .int .i64 0, .string ⟨#[]⟩, .string ⟨#[]⟩, .bool false], 78⟩, ⟨b1, (coV c).cells, 51⟩]) (fun w hO => hO.perm ((List.perm_append_comm (l₁ := [_, _]) (l₂ := [_, _])).append_right [_, _, _])) (zA (z6 (ZO (Zv (.pointer (some ⟨b1, 0, none⟩)) (Zl 6 ⟨b1, (coV c).cells, 51⟩ (off := 0) (.int .i64 c.op) (ZN (zL (z6 (z7 ?_)))))))))
    by_cases h1 : (c.op : Int) = 3
    · refine zW (p := (c.op : Int) = 3) true (by kernel_rfl) (fun _ => by kernel_rfl) (decide_eq_true (h1)) ?_
      refine Zv (.bool true) (ZY (z6 (kT ([⟨p7, (zD (g9 c)).cells, 78⟩, ⟨p6, (zD ⟨0, c.v, false⟩).cells, 78⟩, ⟨b5, #[.int .i64 1, .int .i64 0, .int .i64 0, .int .i64 0, .string ⟨#[]⟩, .string ⟨#[]⟩, .bool false], 78⟩, ⟨b4, #[.int .i64 (-1), .int .i64 0, .int .i64 0, .int .i64 0, .string ⟨#[]⟩, .string ⟨#[]⟩, .bool false], 78⟩, ⟨b1, (coV c).cells, 51⟩]) (by kernel_rfl) (fun w hO => Own.sub [⟨b3, #[.int .i64 0, .int .i64 0, .int .i64 0, .int .i64 0, .string ⟨#[]⟩, .string ⟨#[]⟩, .bool false], 78⟩, ⟨b2, #[.int .i64 0, .int .i64 0, .int .i64 0, .int .i64 0, .string ⟨#[]⟩, .string ⟨#[]⟩, .bool false], 78⟩] hO) (ZL 0 [⟨b3, #[.int .i64 0, .int .i64 0, .int .i64 0, .int .i64 0, .string ⟨#[]⟩, .string ⟨#[]⟩, .bool false], 78⟩, ⟨b2, #[.int .i64 0, .int .i64 0, .int .i64 0, .int .i64 0, .string ⟨#[]⟩, .string ⟨#[]⟩, .bool false], 78⟩] _ 3 ⟨b4, #[.int .i64 (-1), .int .i64 0, .int .i64 0, .int .i64 0, .string ⟨#[]⟩, .string ⟨#[]⟩, .bool false], 78⟩ (off := 0) (.agg #[.int .i64 (-1), .int .i64 0, .int .i64 0, .int .i64 0, .string ⟨#[]⟩, .string ⟨#[]⟩, .bool false]) (zF (zQ (zF zJ))) rfl rfl (ZL 1 [⟨b3, #[.int .i64 0, .int .i64 0, .int .i64 0, .int .i64 0, .string ⟨#[]⟩, .string ⟨#[]⟩, .bool false], 78⟩, ⟨b2, #[.int .i64 0, .int .i64 0, .int .i64 0, .int .i64 0, .string ⟨#[]⟩, .string ⟨#[]⟩, .bool false], 78⟩] _ 1 ⟨p6, (zD ⟨0, c.v, false⟩).cells, 78⟩ (off := 0) (zD ⟨0, c.v, false⟩) (zF (zQ (zF zJ))) rfl rfl (zZ 2 (by kernel_rfl) (ZS [⟨b3, #[.int .i64 0, .int .i64 0, .int .i64 0, .int .i64 0, .string ⟨#[]⟩, .string ⟨#[]⟩, .bool false], 78⟩, ⟨b2, #[.int .i64 0, .int .i64 0, .int .i64 0, .int .i64 0, .string ⟨#[]⟩, .string ⟨#[]⟩, .bool false], 78⟩] _ 1 ⟨b2, #[.int .i64 0, .int .i64 0, .int .i64 0, .int .i64 0, .string ⟨#[]⟩, .string ⟨#[]⟩, .bool false], 78⟩ (off := 0) (.agg #[.int .i64 (-1), .int .i64 0, .int .i64 0, .int .i64 0, .string ⟨#[]⟩, .string ⟨#[]⟩, .bool false]) rfl rfl (zZ 3 (by kernel_rfl) (ZS [⟨b3, #[.int .i64 0, .int .i64 0, .int .i64 0, .int .i64 0, .string ⟨#[]⟩, .string ⟨#[]⟩, .bool false], 78⟩, ⟨b2, #[.int .i64 (-1), .int .i64 0, .int .i64 0, .int .i64 0, .string ⟨#[]⟩, .string ⟨#[]⟩, .bool false], 78⟩] _ 0 ⟨b3, #[.int .i64 0, .int .i64 0, .int .i64 0, .int .i64 0, .string ⟨#[]⟩, .string ⟨#[]⟩, .bool false], 78⟩ (off := 0) (zD ⟨0, c.v, false⟩) rfl rfl ?_)))))))))
      exact x7 (by kernel_rfl) (zA (zB (zG (z8 (bI 1 0 ⟨b2, #[.int .i64 (-1), .int .i64 0, .int .i64 0, .int .i64 0, .string ⟨#[]⟩, .string ⟨#[]⟩, .bool false], 78⟩ ⟨b3, (zD ⟨0, c.v, false⟩).cells, 78⟩ (off := 0) (oft := 0) (.agg #[.int .i64 (-1), .int .i64 0, .int .i64 0, .int .i64 0, .string ⟨#[]⟩, .string ⟨#[]⟩, .bool false]) (zD ⟨0, c.v, false⟩) Tryz.results134 (by kernel_rfl) (by kernel_rfl) (by kernel_rfl) (by kernel_rfl) (by kernel_rfl) (by kernel_rfl) (fun w hO => ⟨by rw [show qH c = ((y5 (-1)), ⟨0, c.v, false⟩) from by unfold qH; simp [h1]]; try rfl, hO.below⟩))))))
    refine Zd (p := (c.op : Int) = 3) false (decide_eq_false (h1)) (Zv (.bool false) (ZX (z6 (z7 ?_))))
    by_cases h2 : (c.op : Int) = 4
    · refine zW (p := (c.op : Int) = 4) true (by kernel_rfl) (fun _ => by kernel_rfl) (decide_eq_true (h2)) ?_
      refine Zv (.bool true) (ZY (z6 (kT ([⟨p7, (zD (g9 c)).cells, 78⟩, ⟨p6, (zD ⟨0, c.v, false⟩).cells, 78⟩, ⟨b5, #[.int .i64 1, .int .i64 0, .int .i64 0, .int .i64 0, .string ⟨#[]⟩, .string ⟨#[]⟩, .bool false], 78⟩, ⟨b4, #[.int .i64 (-1), .int .i64 0, .int .i64 0, .int .i64 0, .string ⟨#[]⟩, .string ⟨#[]⟩, .bool false], 78⟩, ⟨b1, (coV c).cells, 51⟩]) (by kernel_rfl) (fun w hO => Own.sub [⟨b3, #[.int .i64 0, .int .i64 0, .int .i64 0, .int .i64 0, .string ⟨#[]⟩, .string ⟨#[]⟩, .bool false], 78⟩, ⟨b2, #[.int .i64 0, .int .i64 0, .int .i64 0, .int .i64 0, .string ⟨#[]⟩, .string ⟨#[]⟩, .bool false], 78⟩] hO) (ZL 0 [⟨b3, #[.int .i64 0, .int .i64 0, .int .i64 0, .int .i64 0, .string ⟨#[]⟩, .string ⟨#[]⟩, .bool false], 78⟩, ⟨b2, #[.int .i64 0, .int .i64 0, .int .i64 0, .int .i64 0, .string ⟨#[]⟩, .string ⟨#[]⟩, .bool false], 78⟩] _ 3 ⟨b4, #[.int .i64 (-1), .int .i64 0, .int .i64 0, .int .i64 0, .string ⟨#[]⟩, .string ⟨#[]⟩, .bool false], 78⟩ (off := 0) (.agg #[.int .i64 (-1), .int .i64 0, .int .i64 0, .int .i64 0, .string ⟨#[]⟩, .string ⟨#[]⟩, .bool false]) (zF (zQ (zF zJ))) rfl rfl (ZL 1 [⟨b3, #[.int .i64 0, .int .i64 0, .int .i64 0, .int .i64 0, .string ⟨#[]⟩, .string ⟨#[]⟩, .bool false], 78⟩, ⟨b2, #[.int .i64 0, .int .i64 0, .int .i64 0, .int .i64 0, .string ⟨#[]⟩, .string ⟨#[]⟩, .bool false], 78⟩] _ 0 ⟨p7, (zD (g9 c)).cells, 78⟩ (off := 0) (zD (g9 c)) (zF (zQ (zF zJ))) rfl rfl (zZ 2 (by kernel_rfl) (ZS [⟨b3, #[.int .i64 0, .int .i64 0, .int .i64 0, .int .i64 0, .string ⟨#[]⟩, .string ⟨#[]⟩, .bool false], 78⟩, ⟨b2, #[.int .i64 0, .int .i64 0, .int .i64 0, .int .i64 0, .string ⟨#[]⟩, .string ⟨#[]⟩, .bool false], 78⟩] _ 1 ⟨b2, #[.int .i64 0, .int .i64 0, .int .i64 0, .int .i64 0, .string ⟨#[]⟩, .string ⟨#[]⟩, .bool false], 78⟩ (off := 0) (.agg #[.int .i64 (-1), .int .i64 0, .int .i64 0, .int .i64 0, .string ⟨#[]⟩, .string ⟨#[]⟩, .bool false]) rfl rfl (zZ 3 (by kernel_rfl) (ZS [⟨b3, #[.int .i64 0, .int .i64 0, .int .i64 0, .int .i64 0, .string ⟨#[]⟩, .string ⟨#[]⟩, .bool false], 78⟩, ⟨b2, #[.int .i64 (-1), .int .i64 0, .int .i64 0, .int .i64 0, .string ⟨#[]⟩, .string ⟨#[]⟩, .bool false], 78⟩] _ 0 ⟨b3, #[.int .i64 0, .int .i64 0, .int .i64 0, .int .i64 0, .string ⟨#[]⟩, .string ⟨#[]⟩, .bool false], 78⟩ (off := 0) (zD (g9 c)) rfl rfl ?_)))))))))
      exact x7 (by kernel_rfl) (zA (zB (zG (z8 (bI 1 0 ⟨b2, #[.int .i64 (-1), .int .i64 0, .int .i64 0, .int .i64 0, .string ⟨#[]⟩, .string ⟨#[]⟩, .bool false], 78⟩ ⟨b3, (zD (g9 c)).cells, 78⟩ (off := 0) (oft := 0) (.agg #[.int .i64 (-1), .int .i64 0, .int .i64 0, .int .i64 0, .string ⟨#[]⟩, .string ⟨#[]⟩, .bool false]) (zD (g9 c)) Tryz.results134 (by kernel_rfl) (by kernel_rfl) (by kernel_rfl) (by kernel_rfl) (by kernel_rfl) (by kernel_rfl) (fun w hO => ⟨by rw [show qH c = ((y5 (-1)), (g9 c)) from by unfold qH; simp [h1, h2]]; try rfl, hO.below⟩))))))
    refine Zd (p := (c.op : Int) = 4) false (decide_eq_false (h2)) (Zv (.bool false) (ZX (z6 (z7 ?_))))
    by_cases h3 : (c.op : Int) = 5
    · refine zW (p := (c.op : Int) = 5) true (by kernel_rfl) (fun _ => by kernel_rfl) (decide_eq_true (h3)) ?_
      refine Zv (.bool true) (ZY (z6 (kT ([⟨p7, (zD (g9 c)).cells, 78⟩, ⟨p6, (zD ⟨0, c.v, false⟩).cells, 78⟩, ⟨b5, #[.int .i64 1, .int .i64 0, .int .i64 0, .int .i64 0, .string ⟨#[]⟩, .string ⟨#[]⟩, .bool false], 78⟩, ⟨b4, #[.int .i64 (-1), .int .i64 0, .int .i64 0, .int .i64 0, .string ⟨#[]⟩, .string ⟨#[]⟩, .bool false], 78⟩, ⟨b1, (coV c).cells, 51⟩]) (by kernel_rfl) (fun w hO => Own.sub [⟨b3, #[.int .i64 0, .int .i64 0, .int .i64 0, .int .i64 0, .string ⟨#[]⟩, .string ⟨#[]⟩, .bool false], 78⟩, ⟨b2, #[.int .i64 0, .int .i64 0, .int .i64 0, .int .i64 0, .string ⟨#[]⟩, .string ⟨#[]⟩, .bool false], 78⟩] hO) (ZL 0 [⟨b3, #[.int .i64 0, .int .i64 0, .int .i64 0, .int .i64 0, .string ⟨#[]⟩, .string ⟨#[]⟩, .bool false], 78⟩, ⟨b2, #[.int .i64 0, .int .i64 0, .int .i64 0, .int .i64 0, .string ⟨#[]⟩, .string ⟨#[]⟩, .bool false], 78⟩] _ 0 ⟨p7, (zD (g9 c)).cells, 78⟩ (off := 0) (zD (g9 c)) (zF (zQ (zF zJ))) rfl rfl (ZL 1 [⟨b3, #[.int .i64 0, .int .i64 0, .int .i64 0, .int .i64 0, .string ⟨#[]⟩, .string ⟨#[]⟩, .bool false], 78⟩, ⟨b2, #[.int .i64 0, .int .i64 0, .int .i64 0, .int .i64 0, .string ⟨#[]⟩, .string ⟨#[]⟩, .bool false], 78⟩] _ 2 ⟨b5, #[.int .i64 1, .int .i64 0, .int .i64 0, .int .i64 0, .string ⟨#[]⟩, .string ⟨#[]⟩, .bool false], 78⟩ (off := 0) (.agg #[.int .i64 1, .int .i64 0, .int .i64 0, .int .i64 0, .string ⟨#[]⟩, .string ⟨#[]⟩, .bool false]) (zF (zQ (zF zJ))) rfl rfl (zZ 2 (by kernel_rfl) (ZS [⟨b3, #[.int .i64 0, .int .i64 0, .int .i64 0, .int .i64 0, .string ⟨#[]⟩, .string ⟨#[]⟩, .bool false], 78⟩, ⟨b2, #[.int .i64 0, .int .i64 0, .int .i64 0, .int .i64 0, .string ⟨#[]⟩, .string ⟨#[]⟩, .bool false], 78⟩] _ 1 ⟨b2, #[.int .i64 0, .int .i64 0, .int .i64 0, .int .i64 0, .string ⟨#[]⟩, .string ⟨#[]⟩, .bool false], 78⟩ (off := 0) (zD (g9 c)) rfl rfl (zZ 3 (by kernel_rfl) (ZS [⟨b3, #[.int .i64 0, .int .i64 0, .int .i64 0, .int .i64 0, .string ⟨#[]⟩, .string ⟨#[]⟩, .bool false], 78⟩, ⟨b2, (zD (g9 c)).cells, 78⟩] _ 0 ⟨b3, #[.int .i64 0, .int .i64 0, .int .i64 0, .int .i64 0, .string ⟨#[]⟩, .string ⟨#[]⟩, .bool false], 78⟩ (off := 0) (.agg #[.int .i64 1, .int .i64 0, .int .i64 0, .int .i64 0, .string ⟨#[]⟩, .string ⟨#[]⟩, .bool false]) rfl rfl ?_)))))))))
      exact x7 (by kernel_rfl) (zA (zB (zG (z8 (bI 1 0 ⟨b2, (zD (g9 c)).cells, 78⟩ ⟨b3, #[.int .i64 1, .int .i64 0, .int .i64 0, .int .i64 0, .string ⟨#[]⟩, .string ⟨#[]⟩, .bool false], 78⟩ (off := 0) (oft := 0) (zD (g9 c)) (.agg #[.int .i64 1, .int .i64 0, .int .i64 0, .int .i64 0, .string ⟨#[]⟩, .string ⟨#[]⟩, .bool false]) Tryz.results134 (by kernel_rfl) (by kernel_rfl) (by kernel_rfl) (by kernel_rfl) (by kernel_rfl) (by kernel_rfl) (fun w hO => ⟨by rw [show qH c = ((g9 c), (y5 1)) from by unfold qH; simp [h1, h2, h3]]; try rfl, hO.below⟩))))))
    refine Zd (p := (c.op : Int) = 5) false (decide_eq_false (h3)) (Zv (.bool false) (ZX (z6 (z7 ?_))))
    by_cases h4 : (c.op : Int) = 6
    · refine zW (p := (c.op : Int) = 6) true (by kernel_rfl) (fun _ => by kernel_rfl) (decide_eq_true (h4)) ?_
      refine Zv (.bool true) (ZY (z6 (kT ([⟨p7, (zD (g9 c)).cells, 78⟩, ⟨p6, (zD ⟨0, c.v, false⟩).cells, 78⟩, ⟨b5, #[.int .i64 1, .int .i64 0, .int .i64 0, .int .i64 0, .string ⟨#[]⟩, .string ⟨#[]⟩, .bool false], 78⟩, ⟨b4, #[.int .i64 (-1), .int .i64 0, .int .i64 0, .int .i64 0, .string ⟨#[]⟩, .string ⟨#[]⟩, .bool false], 78⟩, ⟨b1, (coV c).cells, 51⟩]) (by kernel_rfl) (fun w hO => Own.sub [⟨b3, #[.int .i64 0, .int .i64 0, .int .i64 0, .int .i64 0, .string ⟨#[]⟩, .string ⟨#[]⟩, .bool false], 78⟩, ⟨b2, #[.int .i64 0, .int .i64 0, .int .i64 0, .int .i64 0, .string ⟨#[]⟩, .string ⟨#[]⟩, .bool false], 78⟩] hO) (ZL 0 [⟨b3, #[.int .i64 0, .int .i64 0, .int .i64 0, .int .i64 0, .string ⟨#[]⟩, .string ⟨#[]⟩, .bool false], 78⟩, ⟨b2, #[.int .i64 0, .int .i64 0, .int .i64 0, .int .i64 0, .string ⟨#[]⟩, .string ⟨#[]⟩, .bool false], 78⟩] _ 1 ⟨p6, (zD ⟨0, c.v, false⟩).cells, 78⟩ (off := 0) (zD ⟨0, c.v, false⟩) (zF (zQ (zF zJ))) rfl rfl (ZL 1 [⟨b3, #[.int .i64 0, .int .i64 0, .int .i64 0, .int .i64 0, .string ⟨#[]⟩, .string ⟨#[]⟩, .bool false], 78⟩, ⟨b2, #[.int .i64 0, .int .i64 0, .int .i64 0, .int .i64 0, .string ⟨#[]⟩, .string ⟨#[]⟩, .bool false], 78⟩] _ 2 ⟨b5, #[.int .i64 1, .int .i64 0, .int .i64 0, .int .i64 0, .string ⟨#[]⟩, .string ⟨#[]⟩, .bool false], 78⟩ (off := 0) (.agg #[.int .i64 1, .int .i64 0, .int .i64 0, .int .i64 0, .string ⟨#[]⟩, .string ⟨#[]⟩, .bool false]) (zF (zQ (zF zJ))) rfl rfl (zZ 2 (by kernel_rfl) (ZS [⟨b3, #[.int .i64 0, .int .i64 0, .int .i64 0, .int .i64 0, .string ⟨#[]⟩, .string ⟨#[]⟩, .bool false], 78⟩, ⟨b2, #[.int .i64 0, .int .i64 0, .int .i64 0, .int .i64 0, .string ⟨#[]⟩, .string ⟨#[]⟩, .bool false], 78⟩] _ 1 ⟨b2, #[.int .i64 0, .int .i64 0, .int .i64 0, .int .i64 0, .string ⟨#[]⟩, .string ⟨#[]⟩, .bool false], 78⟩ (off := 0) (zD ⟨0, c.v, false⟩) rfl rfl (zZ 3 (by kernel_rfl) (ZS [⟨b3, #[.int .i64 0, .int .i64 0, .int .i64 0, .int .i64 0, .string ⟨#[]⟩, .string ⟨#[]⟩, .bool false], 78⟩, ⟨b2, (zD ⟨0, c.v, false⟩).cells, 78⟩] _ 0 ⟨b3, #[.int .i64 0, .int .i64 0, .int .i64 0, .int .i64 0, .string ⟨#[]⟩, .string ⟨#[]⟩, .bool false], 78⟩ (off := 0) (.agg #[.int .i64 1, .int .i64 0, .int .i64 0, .int .i64 0, .string ⟨#[]⟩, .string ⟨#[]⟩, .bool false]) rfl rfl ?_)))))))))
      exact x7 (by kernel_rfl) (zA (zB (zG (z8 (bI 1 0 ⟨b2, (zD ⟨0, c.v, false⟩).cells, 78⟩ ⟨b3, #[.int .i64 1, .int .i64 0, .int .i64 0, .int .i64 0, .string ⟨#[]⟩, .string ⟨#[]⟩, .bool false], 78⟩ (off := 0) (oft := 0) (zD ⟨0, c.v, false⟩) (.agg #[.int .i64 1, .int .i64 0, .int .i64 0, .int .i64 0, .string ⟨#[]⟩, .string ⟨#[]⟩, .bool false]) Tryz.results134 (by kernel_rfl) (by kernel_rfl) (by kernel_rfl) (by kernel_rfl) (by kernel_rfl) (by kernel_rfl) (fun w hO => ⟨by rw [show qH c = (⟨0, c.v, false⟩, (y5 1)) from by unfold qH; simp [h1, h2, h3, h4]]; try rfl, hO.below⟩))))))
    refine Zd (p := (c.op : Int) = 6) false (decide_eq_false (h4)) (Zv (.bool false) (ZX (z6 (z7 ?_))))
    by_cases h5 : (c.op : Int) = 7
    · refine zW (p := (c.op : Int) = 7) true (by kernel_rfl) (fun _ => by kernel_rfl) (decide_eq_true (h5)) ?_
      refine Zv (.bool true) (ZY (z6 (kT ([⟨p7, (zD (g9 c)).cells, 78⟩, ⟨p6, (zD ⟨0, c.v, false⟩).cells, 78⟩, ⟨b5, #[.int .i64 1, .int .i64 0, .int .i64 0, .int .i64 0, .string ⟨#[]⟩, .string ⟨#[]⟩, .bool false], 78⟩, ⟨b4, #[.int .i64 (-1), .int .i64 0, .int .i64 0, .int .i64 0, .string ⟨#[]⟩, .string ⟨#[]⟩, .bool false], 78⟩, ⟨b1, (coV c).cells, 51⟩]) (by kernel_rfl) (fun w hO => Own.sub [⟨b3, #[.int .i64 0, .int .i64 0, .int .i64 0, .int .i64 0, .string ⟨#[]⟩, .string ⟨#[]⟩, .bool false], 78⟩, ⟨b2, #[.int .i64 0, .int .i64 0, .int .i64 0, .int .i64 0, .string ⟨#[]⟩, .string ⟨#[]⟩, .bool false], 78⟩] hO) (ZL 0 [⟨b3, #[.int .i64 0, .int .i64 0, .int .i64 0, .int .i64 0, .string ⟨#[]⟩, .string ⟨#[]⟩, .bool false], 78⟩, ⟨b2, #[.int .i64 0, .int .i64 0, .int .i64 0, .int .i64 0, .string ⟨#[]⟩, .string ⟨#[]⟩, .bool false], 78⟩] _ 1 ⟨p6, (zD ⟨0, c.v, false⟩).cells, 78⟩ (off := 0) (zD ⟨0, c.v, false⟩) (zF (zQ (zF zJ))) rfl rfl (ZT 1 [⟨b3, #[.int .i64 0, .int .i64 0, .int .i64 0, .int .i64 0, .string ⟨#[]⟩, .string ⟨#[]⟩, .bool false], 78⟩, ⟨b2, #[.int .i64 0, .int .i64 0, .int .i64 0, .int .i64 0, .string ⟨#[]⟩, .string ⟨#[]⟩, .bool false], 78⟩] _ (.pointer (some ⟨b1, 2, none⟩)) (zF (zQ (zF zJ))) rfl (ZL 2 [⟨b3, #[.int .i64 0, .int .i64 0, .int .i64 0, .int .i64 0, .string ⟨#[]⟩, .string ⟨#[]⟩, .bool false], 78⟩, ⟨b2, #[.int .i64 0, .int .i64 0, .int .i64 0, .int .i64 0, .string ⟨#[]⟩, .string ⟨#[]⟩, .bool false], 78⟩] _ 4 ⟨b1, (coV c).cells, 51⟩ (off := 2) (.agg #[.int .i64 c.v.maj, .int .i64 c.v.min, .int .i64 c.v.pat, .string (mkS c.v.pre), .string (mkS c.v.build)]) (zF (zQ (zF zJ))) rfl rfl (ZL 3 [⟨b3, #[.int .i64 0, .int .i64 0, .int .i64 0, .int .i64 0, .string ⟨#[]⟩, .string ⟨#[]⟩, .bool false], 78⟩, ⟨b2, #[.int .i64 0, .int .i64 0, .int .i64 0, .int .i64 0, .string ⟨#[]⟩, .string ⟨#[]⟩, .bool false], 78⟩] _ 4 ⟨b1, (coV c).cells, 51⟩ (off := 0) (coV c) (zF (zQ (zF zJ))) rfl rfl (zZ 4 (by kernel_rfl) (kJ [⟨b3, #[.int .i64 0, .int .i64 0, .int .i64 0, .int .i64 0, .string ⟨#[]⟩, .string ⟨#[]⟩, .bool false], 78⟩, ⟨b2, #[.int .i64 0, .int .i64 0, .int .i64 0, .int .i64 0, .string ⟨#[]⟩, .string ⟨#[]⟩, .bool false], 78⟩] _ (k := 176) (args := #[coV c]) (.int .i64 (vD c)) rfl (by kernel_rfl) (fun _ => by kernel_rfl) (fun w _ => clead_any c w hc hp) ?_)))))))))
      refine zZ 5 (by kernel_rfl) (kJ [⟨b3, #[.int .i64 0, .int .i64 0, .int .i64 0, .int .i64 0, .string ⟨#[]⟩, .string ⟨#[]⟩, .bool false], 78⟩, ⟨b2, #[.int .i64 0, .int .i64 0, .int .i64 0, .int .i64 0, .string ⟨#[]⟩, .string ⟨#[]⟩, .bool false], 78⟩] _ (k := 175) (args := #[.agg #[.int .i64 c.v.maj, .int .i64 c.v.min, .int .i64 c.v.pat, .string (mkS c.v.pre), .string (mkS c.v.build)], .int .i64 (vD c)]) (zD (qG c.v (vD c).toNat)) rfl (by kernel_rfl) (fun _ => by kernel_rfl) (fun w _ => wA (by unfold uF; rw [if_neg (by omega)]) (chigh_any c.v (vD c) w hc (by omega))) (zZ 6 (by kernel_rfl) (ZS [⟨b3, #[.int .i64 0, .int .i64 0, .int .i64 0, .int .i64 0, .string ⟨#[]⟩, .string ⟨#[]⟩, .bool false], 78⟩, ⟨b2, #[.int .i64 0, .int .i64 0, .int .i64 0, .int .i64 0, .string ⟨#[]⟩, .string ⟨#[]⟩, .bool false], 78⟩] _ 1 ⟨b2, #[.int .i64 0, .int .i64 0, .int .i64 0, .int .i64 0, .string ⟨#[]⟩, .string ⟨#[]⟩, .bool false], 78⟩ (off := 0) (zD ⟨0, c.v, false⟩) rfl rfl (zZ 7 (by kernel_rfl) (ZS [⟨b3, #[.int .i64 0, .int .i64 0, .int .i64 0, .int .i64 0, .string ⟨#[]⟩, .string ⟨#[]⟩, .bool false], 78⟩, ⟨b2, (zD ⟨0, c.v, false⟩).cells, 78⟩] _ 0 ⟨b3, #[.int .i64 0, .int .i64 0, .int .i64 0, .int .i64 0, .string ⟨#[]⟩, .string ⟨#[]⟩, .bool false], 78⟩ (off := 0) (zD (qG c.v (vD c).toNat)) rfl rfl (x7 (by kernel_rfl) (zA (zB (zG (z8 (bI 1 0 ⟨b2, (zD ⟨0, c.v, false⟩).cells, 78⟩ ⟨b3, (zD (qG c.v (vD c).toNat)).cells, 78⟩ (off := 0) (oft := 0) (zD ⟨0, c.v, false⟩) (zD (qG c.v (vD c).toNat)) Tryz.results134 (by kernel_rfl) (by kernel_rfl) (by kernel_rfl) (by kernel_rfl) (by kernel_rfl) (by kernel_rfl) ?_)))))))))))
      exact fun w hO => ⟨by rw [show qH c = (⟨0, c.v, false⟩, (qG c.v (vD c).toNat)) from by unfold qH; simp [h1, h2, h3, h4, h5]]; try rfl, hO.below⟩
    refine Zd (p := (c.op : Int) = 7) false (decide_eq_false (h5)) (Zv (.bool false) (ZX (z6 (z7 ?_))))
    by_cases h6 : (c.op : Int) = 8
    · refine zW (p := (c.op : Int) = 8) true (by kernel_rfl) (fun _ => by kernel_rfl) (decide_eq_true (h6)) ?_
      refine Zv (.bool true) (ZY (z6 (kT ([⟨p7, (zD (g9 c)).cells, 78⟩, ⟨p6, (zD ⟨0, c.v, false⟩).cells, 78⟩, ⟨b5, #[.int .i64 1, .int .i64 0, .int .i64 0, .int .i64 0, .string ⟨#[]⟩, .string ⟨#[]⟩, .bool false], 78⟩, ⟨b4, #[.int .i64 (-1), .int .i64 0, .int .i64 0, .int .i64 0, .string ⟨#[]⟩, .string ⟨#[]⟩, .bool false], 78⟩, ⟨b1, (coV c).cells, 51⟩]) (by kernel_rfl) (fun w hO => Own.sub [⟨b3, #[.int .i64 0, .int .i64 0, .int .i64 0, .int .i64 0, .string ⟨#[]⟩, .string ⟨#[]⟩, .bool false], 78⟩, ⟨b2, #[.int .i64 0, .int .i64 0, .int .i64 0, .int .i64 0, .string ⟨#[]⟩, .string ⟨#[]⟩, .bool false], 78⟩] hO) (ZL 0 [⟨b3, #[.int .i64 0, .int .i64 0, .int .i64 0, .int .i64 0, .string ⟨#[]⟩, .string ⟨#[]⟩, .bool false], 78⟩, ⟨b2, #[.int .i64 0, .int .i64 0, .int .i64 0, .int .i64 0, .string ⟨#[]⟩, .string ⟨#[]⟩, .bool false], 78⟩] _ 1 ⟨p6, (zD ⟨0, c.v, false⟩).cells, 78⟩ (off := 0) (zD ⟨0, c.v, false⟩) (zF (zQ (zF zJ))) rfl rfl (ZT 1 [⟨b3, #[.int .i64 0, .int .i64 0, .int .i64 0, .int .i64 0, .string ⟨#[]⟩, .string ⟨#[]⟩, .bool false], 78⟩, ⟨b2, #[.int .i64 0, .int .i64 0, .int .i64 0, .int .i64 0, .string ⟨#[]⟩, .string ⟨#[]⟩, .bool false], 78⟩] _ (.pointer (some ⟨b1, 2, none⟩)) (zF (zQ (zF zJ))) rfl (ZL 2 [⟨b3, #[.int .i64 0, .int .i64 0, .int .i64 0, .int .i64 0, .string ⟨#[]⟩, .string ⟨#[]⟩, .bool false], 78⟩, ⟨b2, #[.int .i64 0, .int .i64 0, .int .i64 0, .int .i64 0, .string ⟨#[]⟩, .string ⟨#[]⟩, .bool false], 78⟩] _ 4 ⟨b1, (coV c).cells, 51⟩ (off := 2) (.agg #[.int .i64 c.v.maj, .int .i64 c.v.min, .int .i64 c.v.pat, .string (mkS c.v.pre), .string (mkS c.v.build)]) (zF (zQ (zF zJ))) rfl rfl (ZT 3 [⟨b3, #[.int .i64 0, .int .i64 0, .int .i64 0, .int .i64 0, .string ⟨#[]⟩, .string ⟨#[]⟩, .bool false], 78⟩, ⟨b2, #[.int .i64 0, .int .i64 0, .int .i64 0, .int .i64 0, .string ⟨#[]⟩, .string ⟨#[]⟩, .bool false], 78⟩] _ (.pointer (some ⟨b1, 1, none⟩)) (zF (zQ (zF zJ))) rfl (ZL 4 [⟨b3, #[.int .i64 0, .int .i64 0, .int .i64 0, .int .i64 0, .string ⟨#[]⟩, .string ⟨#[]⟩, .bool false], 78⟩, ⟨b2, #[.int .i64 0, .int .i64 0, .int .i64 0, .int .i64 0, .string ⟨#[]⟩, .string ⟨#[]⟩, .bool false], 78⟩] _ 4 ⟨b1, (coV c).cells, 51⟩ (off := 1) (.int .i64 c.parts) (zF (zQ (zF zJ))) rfl rfl (hl_sum (k := .i64) 5 _ ((c.parts : Int) - 1) rfl (by kernel_rfl) (by kernel_rfl) (by kernel_rfl) (zF (zQ (zF zJ))) (fun w hO => Own.sub [⟨b3, #[.int .i64 0, .int .i64 0, .int .i64 0, .int .i64 0, .string ⟨#[]⟩, .string ⟨#[]⟩, .bool false], 78⟩, ⟨b2, #[.int .i64 0, .int .i64 0, .int .i64 0, .int .i64 0, .string ⟨#[]⟩, .string ⟨#[]⟩, .bool false], 78⟩] hO) (by kernel_rfl) (fun _ => by kernel_rfl) (IntWalk.i64_in _ (by omega)) ?_)))))))))
      refine wF 6 [⟨b3, #[.int .i64 0, .int .i64 0, .int .i64 0, .int .i64 0, .string ⟨#[]⟩, .string ⟨#[]⟩, .bool false], 78⟩, ⟨b2, #[.int .i64 0, .int .i64 0, .int .i64 0, .int .i64 0, .string ⟨#[]⟩, .string ⟨#[]⟩, .bool false], 78⟩] _ (.int .i64 (min ((c.parts : Int) - 1) (1 : Int))) rfl (by kernel_rfl) (by kernel_rfl) (by kernel_rfl) (zF (zQ (zF zJ))) (by kernel_rfl) (fun w _ => run_min2 (k := .i64) (q := .i64) (i := (c.parts : Int) - 1) (j := 1) rfl (by kernel_rfl) (by kernel_rfl) w) (zZ 7 (by kernel_rfl) (kJ [⟨b3, #[.int .i64 0, .int .i64 0, .int .i64 0, .int .i64 0, .string ⟨#[]⟩, .string ⟨#[]⟩, .bool false], 78⟩, ⟨b2, #[.int .i64 0, .int .i64 0, .int .i64 0, .int .i64 0, .string ⟨#[]⟩, .string ⟨#[]⟩, .bool false], 78⟩] _ (k := 175) (args := #[.agg #[.int .i64 c.v.maj, .int .i64 c.v.min, .int .i64 c.v.pat, .string (mkS c.v.pre), .string (mkS c.v.build)], .int .i64 (min ((c.parts : Int) - 1) (1 : Int))]) (zD (qG c.v (min (c.parts - 1) 1).toNat)) rfl (by kernel_rfl) (fun _ => by kernel_rfl) (fun w _ => wA (by unfold uF; rw [if_neg (by omega)]) (chigh_any c.v (min ((c.parts : Int) - 1) (1 : Int)) w hc (by omega))) (zZ 8 (by kernel_rfl) (ZS [⟨b3, #[.int .i64 0, .int .i64 0, .int .i64 0, .int .i64 0, .string ⟨#[]⟩, .string ⟨#[]⟩, .bool false], 78⟩, ⟨b2, #[.int .i64 0, .int .i64 0, .int .i64 0, .int .i64 0, .string ⟨#[]⟩, .string ⟨#[]⟩, .bool false], 78⟩] _ 1 ⟨b2, #[.int .i64 0, .int .i64 0, .int .i64 0, .int .i64 0, .string ⟨#[]⟩, .string ⟨#[]⟩, .bool false], 78⟩ (off := 0) (zD ⟨0, c.v, false⟩) rfl rfl (zZ 9 (by kernel_rfl) (ZS [⟨b3, #[.int .i64 0, .int .i64 0, .int .i64 0, .int .i64 0, .string ⟨#[]⟩, .string ⟨#[]⟩, .bool false], 78⟩, ⟨b2, (zD ⟨0, c.v, false⟩).cells, 78⟩] _ 0 ⟨b3, #[.int .i64 0, .int .i64 0, .int .i64 0, .int .i64 0, .string ⟨#[]⟩, .string ⟨#[]⟩, .bool false], 78⟩ (off := 0) (zD (qG c.v (min (c.parts - 1) 1).toNat)) rfl rfl (x7 (by kernel_rfl) (zA (zB (zG (z8 ?_)))))))))))
      exact bI 1 0 ⟨b2, (zD ⟨0, c.v, false⟩).cells, 78⟩ ⟨b3, (zD (qG c.v (min (c.parts - 1) 1).toNat)).cells, 78⟩ (off := 0) (oft := 0) (zD ⟨0, c.v, false⟩) (zD (qG c.v (min (c.parts - 1) 1).toNat)) Tryz.results134 (by kernel_rfl) (by kernel_rfl) (by kernel_rfl) (by kernel_rfl) (by kernel_rfl) (by kernel_rfl) (fun w hO => ⟨by rw [show qH c = (⟨0, c.v, false⟩, (qG c.v (min (c.parts - 1) 1).toNat)) from by unfold qH; simp [h1, h2, h3, h4, h5, h6]]; try rfl, hO.below⟩)
    refine Zd (p := (c.op : Int) = 8) false (decide_eq_false (h6)) (Zv (.bool false) (ZX (x5 (zT (zA (z6 (ZO (Zv (.pointer (some ⟨b1, 1, none⟩)) ?_))))))))
    refine Zl 6 ⟨b1, (coV c).cells, 51⟩ (off := 1) (.int .i64 c.parts) ?_
    by_cases h7 : (c.parts : Int) = 0
    · refine zW (p := (c.parts : Int) = 0) true (by kernel_rfl) (fun _ => by kernel_rfl) (decide_eq_true (h7)) ?_
      refine ZY (z6 (kT ([⟨p7, (zD (g9 c)).cells, 78⟩, ⟨p6, (zD ⟨0, c.v, false⟩).cells, 78⟩, ⟨b5, #[.int .i64 1, .int .i64 0, .int .i64 0, .int .i64 0, .string ⟨#[]⟩, .string ⟨#[]⟩, .bool false], 78⟩, ⟨b4, #[.int .i64 (-1), .int .i64 0, .int .i64 0, .int .i64 0, .string ⟨#[]⟩, .string ⟨#[]⟩, .bool false], 78⟩, ⟨b1, (coV c).cells, 51⟩]) (by kernel_rfl) (fun w hO => Own.sub [⟨b3, #[.int .i64 0, .int .i64 0, .int .i64 0, .int .i64 0, .string ⟨#[]⟩, .string ⟨#[]⟩, .bool false], 78⟩, ⟨b2, #[.int .i64 0, .int .i64 0, .int .i64 0, .int .i64 0, .string ⟨#[]⟩, .string ⟨#[]⟩, .bool false], 78⟩] hO) (ZL 0 [⟨b3, #[.int .i64 0, .int .i64 0, .int .i64 0, .int .i64 0, .string ⟨#[]⟩, .string ⟨#[]⟩, .bool false], 78⟩, ⟨b2, #[.int .i64 0, .int .i64 0, .int .i64 0, .int .i64 0, .string ⟨#[]⟩, .string ⟨#[]⟩, .bool false], 78⟩] _ 3 ⟨b4, #[.int .i64 (-1), .int .i64 0, .int .i64 0, .int .i64 0, .string ⟨#[]⟩, .string ⟨#[]⟩, .bool false], 78⟩ (off := 0) (.agg #[.int .i64 (-1), .int .i64 0, .int .i64 0, .int .i64 0, .string ⟨#[]⟩, .string ⟨#[]⟩, .bool false]) (zF (zF zJ)) rfl rfl (ZL 1 [⟨b3, #[.int .i64 0, .int .i64 0, .int .i64 0, .int .i64 0, .string ⟨#[]⟩, .string ⟨#[]⟩, .bool false], 78⟩, ⟨b2, #[.int .i64 0, .int .i64 0, .int .i64 0, .int .i64 0, .string ⟨#[]⟩, .string ⟨#[]⟩, .bool false], 78⟩] _ 2 ⟨b5, #[.int .i64 1, .int .i64 0, .int .i64 0, .int .i64 0, .string ⟨#[]⟩, .string ⟨#[]⟩, .bool false], 78⟩ (off := 0) (.agg #[.int .i64 1, .int .i64 0, .int .i64 0, .int .i64 0, .string ⟨#[]⟩, .string ⟨#[]⟩, .bool false]) (zF (zF zJ)) rfl rfl (zZ 2 (by kernel_rfl) (ZS [⟨b3, #[.int .i64 0, .int .i64 0, .int .i64 0, .int .i64 0, .string ⟨#[]⟩, .string ⟨#[]⟩, .bool false], 78⟩, ⟨b2, #[.int .i64 0, .int .i64 0, .int .i64 0, .int .i64 0, .string ⟨#[]⟩, .string ⟨#[]⟩, .bool false], 78⟩] _ 1 ⟨b2, #[.int .i64 0, .int .i64 0, .int .i64 0, .int .i64 0, .string ⟨#[]⟩, .string ⟨#[]⟩, .bool false], 78⟩ (off := 0) (.agg #[.int .i64 (-1), .int .i64 0, .int .i64 0, .int .i64 0, .string ⟨#[]⟩, .string ⟨#[]⟩, .bool false]) rfl rfl (zZ 3 (by kernel_rfl) (ZS [⟨b3, #[.int .i64 0, .int .i64 0, .int .i64 0, .int .i64 0, .string ⟨#[]⟩, .string ⟨#[]⟩, .bool false], 78⟩, ⟨b2, #[.int .i64 (-1), .int .i64 0, .int .i64 0, .int .i64 0, .string ⟨#[]⟩, .string ⟨#[]⟩, .bool false], 78⟩] _ 0 ⟨b3, #[.int .i64 0, .int .i64 0, .int .i64 0, .int .i64 0, .string ⟨#[]⟩, .string ⟨#[]⟩, .bool false], 78⟩ (off := 0) (.agg #[.int .i64 1, .int .i64 0, .int .i64 0, .int .i64 0, .string ⟨#[]⟩, .string ⟨#[]⟩, .bool false]) rfl rfl (x7 (by kernel_rfl) ?_)))))))))
      exact zA (zB (z8 (bI 1 0 ⟨b2, #[.int .i64 (-1), .int .i64 0, .int .i64 0, .int .i64 0, .string ⟨#[]⟩, .string ⟨#[]⟩, .bool false], 78⟩ ⟨b3, #[.int .i64 1, .int .i64 0, .int .i64 0, .int .i64 0, .string ⟨#[]⟩, .string ⟨#[]⟩, .bool false], 78⟩ (off := 0) (oft := 0) (.agg #[.int .i64 (-1), .int .i64 0, .int .i64 0, .int .i64 0, .string ⟨#[]⟩, .string ⟨#[]⟩, .bool false]) (.agg #[.int .i64 1, .int .i64 0, .int .i64 0, .int .i64 0, .string ⟨#[]⟩, .string ⟨#[]⟩, .bool false]) Tryz.results134 (by kernel_rfl) (by kernel_rfl) (by kernel_rfl) (by kernel_rfl) (by kernel_rfl) (by kernel_rfl) (fun w hO => ⟨by rw [show qH c = ((y5 (-1)), (y5 1)) from by unfold qH; simp [h1, h2, h3, h4, h5, h6, h7]]; try rfl, hO.below⟩))))
    refine Zd (p := (c.parts : Int) = 0) false (decide_eq_false (h7)) (ZX (ZB (z6 (kT ([⟨p7, (zD (g9 c)).cells, 78⟩, ⟨p6, (zD ⟨0, c.v, false⟩).cells, 78⟩, ⟨b5, #[.int .i64 1, .int .i64 0, .int .i64 0, .int .i64 0, .string ⟨#[]⟩, .string ⟨#[]⟩, .bool false], 78⟩, ⟨b4, #[.int .i64 (-1), .int .i64 0, .int .i64 0, .int .i64 0, .string ⟨#[]⟩, .string ⟨#[]⟩, .bool false], 78⟩, ⟨b1, (coV c).cells, 51⟩]) (by kernel_rfl) (fun w hO => Own.sub [⟨b3, #[.int .i64 0, .int .i64 0, .int .i64 0, .int .i64 0, .string ⟨#[]⟩, .string ⟨#[]⟩, .bool false], 78⟩, ⟨b2, #[.int .i64 0, .int .i64 0, .int .i64 0, .int .i64 0, .string ⟨#[]⟩, .string ⟨#[]⟩, .bool false], 78⟩] hO) (ZL 0 [⟨b3, #[.int .i64 0, .int .i64 0, .int .i64 0, .int .i64 0, .string ⟨#[]⟩, .string ⟨#[]⟩, .bool false], 78⟩, ⟨b2, #[.int .i64 0, .int .i64 0, .int .i64 0, .int .i64 0, .string ⟨#[]⟩, .string ⟨#[]⟩, .bool false], 78⟩] _ 1 ⟨p6, (zD ⟨0, c.v, false⟩).cells, 78⟩ (off := 0) (zD ⟨0, c.v, false⟩) (zF zJ) rfl rfl (ZL 1 [⟨b3, #[.int .i64 0, .int .i64 0, .int .i64 0, .int .i64 0, .string ⟨#[]⟩, .string ⟨#[]⟩, .bool false], 78⟩, ⟨b2, #[.int .i64 0, .int .i64 0, .int .i64 0, .int .i64 0, .string ⟨#[]⟩, .string ⟨#[]⟩, .bool false], 78⟩] _ 0 ⟨p7, (zD (g9 c)).cells, 78⟩ (off := 0) (zD (g9 c)) (zF zJ) rfl rfl (zZ 2 (by kernel_rfl) (ZS [⟨b3, #[.int .i64 0, .int .i64 0, .int .i64 0, .int .i64 0, .string ⟨#[]⟩, .string ⟨#[]⟩, .bool false], 78⟩, ⟨b2, #[.int .i64 0, .int .i64 0, .int .i64 0, .int .i64 0, .string ⟨#[]⟩, .string ⟨#[]⟩, .bool false], 78⟩] _ 1 ⟨b2, #[.int .i64 0, .int .i64 0, .int .i64 0, .int .i64 0, .string ⟨#[]⟩, .string ⟨#[]⟩, .bool false], 78⟩ (off := 0) (zD ⟨0, c.v, false⟩) rfl rfl ?_))))))))
    exact zZ 3 (by kernel_rfl) (ZS [⟨b3, #[.int .i64 0, .int .i64 0, .int .i64 0, .int .i64 0, .string ⟨#[]⟩, .string ⟨#[]⟩, .bool false], 78⟩, ⟨b2, (zD ⟨0, c.v, false⟩).cells, 78⟩] _ 0 ⟨b3, #[.int .i64 0, .int .i64 0, .int .i64 0, .int .i64 0, .string ⟨#[]⟩, .string ⟨#[]⟩, .bool false], 78⟩ (off := 0) (zD (g9 c)) rfl rfl (x7 (by kernel_rfl) (zA (zB (bI 1 0 ⟨b2, (zD ⟨0, c.v, false⟩).cells, 78⟩ ⟨b3, (zD (g9 c)).cells, 78⟩ (off := 0) (oft := 0) (zD ⟨0, c.v, false⟩) (zD (g9 c)) Tryz.results134 (by kernel_rfl) (by kernel_rfl) (by kernel_rfl) (by kernel_rfl) (by kernel_rfl) (by kernel_rfl) (fun w hO => ⟨by rw [show qH c = (⟨0, c.v, false⟩, (g9 c)) from by unfold qH; simp [h1, h2, h3, h4, h5, h6, h7]]; try rfl, hO.below⟩))))))
theorem one_row {lo hi : Cu} : (if xS [⟨lo, hi⟩] then vU [⟨lo, hi⟩] else []) = kF lo hi := by
  rw [dU]
  by_cases h : zM lo hi < 0
  · have hm := bQ h
    rw [if_pos h, if_pos (show xS [⟨lo, hi⟩] = true from allMay_mem.2 fun s hs => by rw [List.mem_singleton.1 hs]; exact hm)]
    exact make_self (show zK [⟨lo, hi⟩] = true from hm)
  · rw [if_neg h, if_neg (fun q => h (uL (allMay_mem.1 q _ (List.mem_singleton.2 rfl))))]
theorem fB (lo hi : Cu) (W : World) (hl : lo.short) (hh : hi.short) : Calls Tryz.prog 133 #[zD lo, zD hi] W fun e w' => ∃ v' ob', e = .returned v' ∧ SlS v' (kF lo hi) ob' ∧ Own [] W w' ob' := by
  refine zP (n := 16) Tryz.func133 rfl (by kernel_rfl) (by kernel_rfl) (ZO (Zb (zD lo) (fun b1 => Zb (zD hi) (fun b2 => Zv (.slice none 0 0) (ZR (Zl 1 ⟨b1, (zD lo).cells, 78⟩ (off := 0) (zD lo) (Zl 0 ⟨b2, (zD hi).cells, 78⟩ (off := 0) (zD hi) ?_)))))))
  refine Zv (.agg #[.int .i64 lo.e, .int .i64 lo.v.maj, .int .i64 lo.v.min, .int .i64 lo.v.pat, .string (mkS lo.v.pre), .string (mkS lo.v.build), .bool lo.aft, .int .i64 hi.e, .int .i64 hi.v.maj, .int .i64 hi.v.min, .int .i64 hi.v.pat, .string (mkS hi.v.pre), .string (mkS hi.v.build), .bool hi.aft]) (qZ 80 #[.int .i64 lo.e, .int .i64 lo.v.maj, .int .i64 lo.v.min, .int .i64 lo.v.pat, .string (mkS lo.v.pre), .string (mkS lo.v.build), .bool lo.aft, .int .i64 hi.e, .int .i64 hi.v.maj, .int .i64 hi.v.min, .int .i64 hi.v.pat, .string (mkS hi.v.pre), .string (mkS hi.v.build), .bool hi.aft] (by kernel_rfl) rfl (fun _ => by kernel_rfl) (fun b3 => yE (k := 136) (args := #[.slice (some ⟨b3, 0, none⟩) 1 1]) (fun v' L' => ∃ mv ob', v' = .tuple #[mv, .bool (xS [⟨lo, hi⟩])] ∧ L' = ob' ++ ([⟨b3, #[.int .i64 lo.e, .int .i64 lo.v.maj, .int .i64 lo.v.min, .int .i64 lo.v.pat, .string (mkS lo.v.pre), .string (mkS lo.v.build), .bool lo.aft, .int .i64 hi.e, .int .i64 hi.v.maj, .int .i64 hi.v.min, .int .i64 hi.v.pat, .string (mkS hi.v.pre), .string (mkS hi.v.build), .bool hi.aft], 80⟩, ⟨b2, (zD hi).cells, 78⟩, ⟨b1, (zD lo).cells, 78⟩]) ∧ SlS mv (kF lo hi) ob') (by kernel_rfl) (fun _ => by kernel_rfl) (fun w hO => (mP (some ⟨b3, 0, none⟩) 1 [⟨lo, hi⟩] w (Sl.reads (slit6 ⟨lo, hi⟩ b3 #[.int .i64 lo.e, .int .i64 lo.v.maj, .int .i64 lo.v.min, .int .i64 lo.v.pat, .string (mkS lo.v.pre), .string (mkS lo.v.build), .bool lo.aft, .int .i64 hi.e, .int .i64 hi.v.maj, .int .i64 hi.v.min, .int .i64 hi.v.pat, .string (mkS hi.v.pre), .string (mkS hi.v.build), .bool hi.aft] (by kernel_rfl)) rfl hO (fun x hx => by rw [List.mem_singleton.1 hx]; exact List.mem_cons_self)) (by show 1 ≤ _; decide) (fun s hs => by rw [List.mem_singleton.1 hs]; exact ⟨hl, hh⟩)).mono fun e w' ⟨v', ob', k1, k2, k3⟩ => ⟨_, _, k1, ⟨v', ob', rfl, rfl, by rw [one_row] at k2; exact k2⟩, Own.joinN hO k3⟩) (fun tv L2 hv2 => ?_)))
  obtain ⟨v2, o2, rfl, rfl, hr2⟩ := hv2
  refine Zv (.tuple #[v2, .bool (xS [⟨lo, hi⟩])]) (Zv (v2) (Zv (.bool (xS [⟨lo, hi⟩])) (Zv (v2) (Zv (.bool (xS [⟨lo, hi⟩])) (ZR (Zv (v2) (Zv (v2) (zR ?_))))))))
  exact zA (zB (ZF (v2) Tryz.results133 (fun w hO => ⟨v2, o2, rfl, hr2, hO.sublist (List.sublist_append_left _ _)⟩)))
theorem oneRow_len6 (lo hi : Cu) : (kF lo hi).length ≤ 1 := by have := n5 [] lo hi; simpa [kF] using this
theorem oneRow_short6 {lo hi : Cu} (hl : lo.short) (hh : hi.short) : yY (kF lo hi) := fun s hs => by
  rw [dU] at hs
  split at hs
  · rw [List.mem_singleton.1 hs]; exact ⟨hl, hh⟩
  · cases hs
theorem cRegion_any (c : Co) (W : World) (hc : c.short) : Calls Tryz.prog 82 #[coV c] W fun e w' => ∃ v' ob', e = .returned v' ∧ SlS v' c.region ob' ∧ Own [] W w' ob' := by
  have hs1 := (span_short hc).1
  have hs2 := (span_short hc).2
  refine zP (n := 18) Tryz.func82 rfl (by kernel_rfl) (by kernel_rfl) (ZO (Zb (coV c) (fun b1 => Zv (.slice none 0 0) (ZN (z6 (ZO (Zl 0 ⟨b1, (coV c).cells, 51⟩ (off := 0) (coV c) (Zc (k := 73) (args := #[coV c]) (.bool c.may) (fun w _ => tU c w hc) ?_))))))))
  cases h1 : c.may with
  | true =>
    refine Zv (.bool false) (ZX (ZB (ZO (Zl 0 ⟨b1, (coV c).cells, 51⟩ (off := 0) (coV c) (Zc (k := 134) (args := #[coV c]) (.tuple #[zD c.span.1, zD c.span.2]) (fun w _ => wA (by rw [bound_span h1]) (cbounds_any c w hc (Co.facts h1).1 (parts_in h1))) (Zv (zD c.span.1) (Zv (zD c.span.2) ?_)))))))
    refine yE (k := 133) (args := #[zD c.span.1, zD c.span.2]) (fun v' L' => ∃ ob', L' = ob' ++ ([⟨b1, (coV c).cells, 51⟩]) ∧ SlS v' (kF c.span.1 c.span.2) ob') (by kernel_rfl) (fun _ => by kernel_rfl) (fun w hO => (fB c.span.1 c.span.2 w hs1 hs2).mono fun e w' ⟨v', ob', k1, k2, k3⟩ => ⟨v', _, k1, ⟨ob', rfl, k2⟩, Own.joinN hO k3⟩) (fun v1 L1 hv1 => ?_)
    obtain ⟨o1, rfl, hr1⟩ := hv1
    obtain ⟨V1, c1, rfl⟩ := hr1.form
    refine Zv (.slice V1 ((kF c.span.1 c.span.2).length) c1) (ZN (z6 (ZO (Zv (.pointer (some ⟨b1, 0, none⟩)) (mL ⟨b1, (coV c).cells, 51⟩ (off := 0) (.int .i64 c.op) (by kernel_rfl) rfl (by simp) (by kernel_rfl) (by kernel_rfl) ?_)))))
    by_cases h2 : (c.op : Int) = 2
    · refine zW (p := (c.op : Int) = 2) true (by kernel_rfl) (fun _ => by kernel_rfl) (decide_eq_true (h2)) ?_
      refine ZY (ZO (Zv (.slice V1 ((kF c.span.1 c.span.2).length) c1) (yE (k := 135) (args := #[.slice V1 (kF c.span.1 c.span.2).length c1]) (fun v' L' => ∃ ob', L' = ob' ++ (o1 ++ ([⟨b1, (coV c).cells, 51⟩])) ∧ SlS v' (jD (kF c.span.1 c.span.2)) ob') (by kernel_rfl) (fun _ => by kernel_rfl) (fun w hO => (not4_any V1 c1 (kF c.span.1 c.span.2) w (Sl.reads hr1 rfl hO (fun x hx => by simp [hx])) (Nat.le_trans (oneRow_len6 _ _) (by decide)) (oneRow_short6 hs1 hs2)).mono fun e w' ⟨v', ob', k1, k2, k3⟩ => ⟨v', _, k1, ⟨ob', rfl, by rw [if_pos (oneRow_may _ _)] at k2; exact k2⟩, Own.joinN hO k3⟩) (fun v3 L3 hv3 => ?_))))
      obtain ⟨o3, rfl, hr3⟩ := hv3
      exact Zv (v3) (ZN (zB (z8 (ZF (v3) Tryz.results82 (fun w hO => ⟨v3, o3, rfl, by rw [show c.region = jD (kF c.span.1 c.span.2) from by unfold Co.region; rw [if_pos (by assumption), if_pos h2]]; exact hr3, hO.sublist (List.sublist_append_left _ _)⟩)))))
    refine Zd (p := (c.op : Int) = 2) false (decide_eq_false (h2)) (ZX (ZB (ZO (Zv (.slice V1 ((kF c.span.1 c.span.2).length) c1) (Zv (.slice V1 ((kF c.span.1 c.span.2).length) c1) (zR (zA ?_)))))))
    exact zB (ZF (.slice V1 ((kF c.span.1 c.span.2).length) c1) Tryz.results82 (fun w hO => ⟨_, o1, rfl, by rw [show c.region = kF c.span.1 c.span.2 from by unfold Co.region; rw [if_pos (by assumption), if_neg h2]]; exact hr1, hO.sublist (List.sublist_append_left _ _)⟩))
  | false =>
    refine Zv (.bool true) (ZY (ZO (Zv (.slice none 0 0) (ZN (zB (z8 (ZF (.slice none 0 0) Tryz.results82 ?_)))))))
    exact fun w hO => ⟨_, [], rfl, by rw [show c.region = [] from by unfold Co.region; simp [h1]]; exact Sl.nil _ _, qB hO⟩
theorem zone_one {c : Co} (h : c.may = true) (hp : ¬ c.v.pre = []) : c.zone = kF ⟨0, { c.v with pre := [48] }, false⟩ ⟨0, { c.v with pre := [] }, false⟩ := by
  have hb := (Co.facts h).2.2.1
  have hz : c.zone = [⟨⟨0, { c.v with pre := [48], build := [] }, false⟩, ⟨0, { c.v with pre := [], build := [] }, false⟩⟩] := by
    unfold Co.zone
    rw [h, decide_eq_false hp]; rfl
  have hm : zK c.zone = true := zone_may
  have e1 : ({ c.v with pre := [48] } : Ver) = { c.v with pre := [48], build := [] } := by rw [← hb]
  have e2 : ({ c.v with pre := [] } : Ver) = { c.v with pre := [], build := [] } := by rw [← hb]
  rw [e1, e2, dU]
  rw [hz] at hm ⊢
  rw [if_pos (uL (show Sp.may _ = true from x9 hm _ (List.mem_singleton.2 rfl)))]
theorem cZone_any (c : Co) (W : World) (hc : c.short) : Calls Tryz.prog 84 #[coV c] W fun e w' => ∃ v' ob', e = .returned v' ∧ SlS v' c.zone ob' ∧ Own [] W w' ob' := by
  have hl1 : (⟨0, { c.v with pre := [48] }, false⟩ : Cu).short := ⟨by show ([48] : List UInt8).length ≤ _; decide, hc.2⟩
  have hb1 : (⟨0, { c.v with pre := [] }, false⟩ : Cu).short := ⟨Nat.zero_le _, hc.2⟩
  refine zP (n := 25) Tryz.func84 rfl (by kernel_rfl) (by kernel_rfl) (ZO (Zb (coV c) (fun b1 => Zv (.slice none 0 0) (ZN (z6 (ZO (Zl 0 ⟨b1, (coV c).cells, 51⟩ (off := 0) (coV c) (Zc (k := 73) (args := #[coV c]) (.bool c.may) (fun w _ => tU c w hc) ?_))))))))
  cases h1 : c.may with
  | true =>
    refine Zv (.bool false) (Zv (.bool false) (Zv (.pointer (some ⟨b1, 2, none⟩)) (Zv (.pointer (some ⟨b1, 5, none⟩)) (Zl 0 ⟨b1, (coV c).cells, 51⟩ (off := 5) (.string (mkS c.v.pre)) ?_))))
    by_cases h2 : (c.v.pre : List UInt8) = []
    · refine zV (.bool true) (by kernel_rfl) (x4 (a := c.v.pre) (b := ([])) rfl (by kernel_rfl) (by kernel_rfl) (decide_eq_true (h2))) ?_
      refine Zv (.bool true) (ZY (ZO (Zv (.slice none 0 0) (ZN (zB (z8 (ZF (.slice none 0 0) Tryz.results84 ?_)))))))
      exact fun w hO => ⟨_, [], rfl, by rw [show c.zone = [] from by unfold Co.zone; simp [h1, h2]]; exact Sl.nil _ _, qB hO⟩
    refine zV (.bool false) (by kernel_rfl) (x4 (a := c.v.pre) (b := ([])) rfl (by kernel_rfl) (by kernel_rfl) (decide_eq_false (h2))) (Zv (.bool false) (ZX (ZB (z6 (uQ (by kernel_rfl) (ZT 0 [] _ (.pointer (some ⟨b1, 2, none⟩)) (zF zJ) rfl (ZL 1 [] _ 0 ⟨b1, (coV c).cells, 51⟩ (off := 2) (.agg #[.int .i64 c.v.maj, .int .i64 c.v.min, .int .i64 c.v.pat, .string (mkS c.v.pre), .string (mkS c.v.build)]) (zF zJ) rfl rfl (ZT 2 [] _ (.pointer (some ⟨b1, 2, none⟩)) (zF zJ) rfl ?_))))))))
    refine ZL 3 [] _ 0 ⟨b1, (coV c).cells, 51⟩ (off := 2) (.agg #[.int .i64 c.v.maj, .int .i64 c.v.min, .int .i64 c.v.pat, .string (mkS c.v.pre), .string (mkS c.v.build)]) (zF zJ) rfl rfl (fI 4 5 (by kernel_rfl) ?_ ?_)
    · refine yS [] _ (.agg #[.int .i64 0, .int .i64 0, .int .i64 0, .string ⟨#[]⟩, .string ⟨#[]⟩]) rfl (by kernel_rfl) rfl (by kernel_rfl) (fun b2 => ?_)
      refine zZ 5 (by kernel_rfl) (yS [⟨b2, #[.int .i64 0, .int .i64 0, .int .i64 0, .string ⟨#[]⟩, .string ⟨#[]⟩], 44⟩] _ (.agg #[.int .i64 0, .int .i64 0, .int .i64 0, .string ⟨#[]⟩, .string ⟨#[]⟩]) rfl (by kernel_rfl) rfl (by kernel_rfl) (fun b3 => zZ 6 (by kernel_rfl) (ZS [⟨b3, #[.int .i64 0, .int .i64 0, .int .i64 0, .string ⟨#[]⟩, .string ⟨#[]⟩], 44⟩, ⟨b2, #[.int .i64 0, .int .i64 0, .int .i64 0, .string ⟨#[]⟩, .string ⟨#[]⟩], 44⟩] _ 1 ⟨b2, #[.int .i64 0, .int .i64 0, .int .i64 0, .string ⟨#[]⟩, .string ⟨#[]⟩], 44⟩ (off := 0) (.agg #[.int .i64 c.v.maj, .int .i64 c.v.min, .int .i64 c.v.pat, .string (mkS c.v.pre), .string (mkS c.v.build)]) rfl rfl (zZ 7 (by kernel_rfl) (ZS [⟨b3, #[.int .i64 0, .int .i64 0, .int .i64 0, .string ⟨#[]⟩, .string ⟨#[]⟩], 44⟩, ⟨b2, #[.int .i64 c.v.maj, .int .i64 c.v.min, .int .i64 c.v.pat, .string (mkS c.v.pre), .string (mkS c.v.build)], 44⟩] _ 0 ⟨b3, #[.int .i64 0, .int .i64 0, .int .i64 0, .string ⟨#[]⟩, .string ⟨#[]⟩], 44⟩ (off := 0) (.agg #[.int .i64 c.v.maj, .int .i64 c.v.min, .int .i64 c.v.pat, .string (mkS c.v.pre), .string (mkS c.v.build)]) rfl rfl (x7 (by kernel_rfl) (zA (ZO (Zv (.pointer (some ⟨b2, 3, none⟩)) (Zs 1 ⟨b2, #[.int .i64 c.v.maj, .int .i64 c.v.min, .int .i64 c.v.pat, .string (mkS c.v.pre), .string (mkS c.v.build)], 44⟩ (off := 3) (.string ⟨#[48]⟩) ?_))))))))))
      refine Zv (.pointer (some ⟨b3, 3, none⟩)) (Zs 0 ⟨b3, #[.int .i64 c.v.maj, .int .i64 c.v.min, .int .i64 c.v.pat, .string (mkS c.v.pre), .string (mkS c.v.build)], 44⟩ (off := 3) (.string ⟨#[]⟩) (ZR (Zl 1 ⟨b2, #[.int .i64 c.v.maj, .int .i64 c.v.min, .int .i64 c.v.pat, .string ⟨#[48]⟩, .string (mkS c.v.build)], 44⟩ (off := 0) (.agg #[.int .i64 c.v.maj, .int .i64 c.v.min, .int .i64 c.v.pat, .string ⟨#[48]⟩, .string (mkS c.v.build)]) (Zv (.agg #[.int .i64 0, .int .i64 c.v.maj, .int .i64 c.v.min, .int .i64 c.v.pat, .string ⟨#[48]⟩, .string (mkS c.v.build), .bool false]) (Zl 0 ⟨b3, #[.int .i64 c.v.maj, .int .i64 c.v.min, .int .i64 c.v.pat, .string ⟨#[]⟩, .string (mkS c.v.build)], 44⟩ (off := 0) (.agg #[.int .i64 c.v.maj, .int .i64 c.v.min, .int .i64 c.v.pat, .string ⟨#[]⟩, .string (mkS c.v.build)]) (Zv (.agg #[.int .i64 0, .int .i64 c.v.maj, .int .i64 c.v.min, .int .i64 c.v.pat, .string ⟨#[]⟩, .string (mkS c.v.build), .bool false]) (yE (k := 133) (args := #[.agg #[.int .i64 0, .int .i64 c.v.maj, .int .i64 c.v.min, .int .i64 c.v.pat, .string ⟨#[48]⟩, .string (mkS c.v.build), .bool false], .agg #[.int .i64 0, .int .i64 c.v.maj, .int .i64 c.v.min, .int .i64 c.v.pat, .string ⟨#[]⟩, .string (mkS c.v.build), .bool false]]) (fun v' L' => ∃ ob', L' = ob' ++ ([⟨b3, #[.int .i64 c.v.maj, .int .i64 c.v.min, .int .i64 c.v.pat, .string ⟨#[]⟩, .string (mkS c.v.build)], 44⟩, ⟨b2, #[.int .i64 c.v.maj, .int .i64 c.v.min, .int .i64 c.v.pat, .string ⟨#[48]⟩, .string (mkS c.v.build)], 44⟩, ⟨b1, (coV c).cells, 51⟩]) ∧ SlS v' (kF (⟨0, { c.v with pre := [48] }, false⟩) (⟨0, { c.v with pre := [] }, false⟩)) ob') (by kernel_rfl) (fun _ => by kernel_rfl) (fun w hO => (fB (⟨0, { c.v with pre := [48] }, false⟩) (⟨0, { c.v with pre := [] }, false⟩) w hl1 hb1).mono fun e w' ⟨v', ob', k1, k2, k3⟩ => ⟨v', _, k1, ⟨ob', rfl, k2⟩, Own.joinN hO k3⟩) (fun v1 L1 hv1 => ?_))))))))
      obtain ⟨o1, rfl, hr1⟩ := hv1
      obtain ⟨V1, c1, rfl⟩ := hr1.form
      exact Zv (.slice V1 ((kF (⟨0, { c.v with pre := [48] }, false⟩) (⟨0, { c.v with pre := [] }, false⟩)).length) c1) (ZN (zB (ZF (.slice V1 ((kF (⟨0, { c.v with pre := [48] }, false⟩) (⟨0, { c.v with pre := [] }, false⟩)).length) c1) Tryz.results84 (fun w hO => ⟨_, o1, rfl, by rw [zone_one h1 h2]; exact hr1, hO.sublist (List.sublist_append_left _ _)⟩))))
    refine yS [] _ (.agg #[.int .i64 0, .int .i64 0, .int .i64 0, .string ⟨#[]⟩, .string ⟨#[]⟩]) rfl (by kernel_rfl) rfl (by kernel_rfl) (fun b2 => zZ 4 (by kernel_rfl) (yS [⟨b2, #[.int .i64 0, .int .i64 0, .int .i64 0, .string ⟨#[]⟩, .string ⟨#[]⟩], 44⟩] _ (.agg #[.int .i64 0, .int .i64 0, .int .i64 0, .string ⟨#[]⟩, .string ⟨#[]⟩]) rfl (by kernel_rfl) rfl (by kernel_rfl) (fun b3 => zZ 6 (by kernel_rfl) (ZS [⟨b3, #[.int .i64 0, .int .i64 0, .int .i64 0, .string ⟨#[]⟩, .string ⟨#[]⟩], 44⟩, ⟨b2, #[.int .i64 0, .int .i64 0, .int .i64 0, .string ⟨#[]⟩, .string ⟨#[]⟩], 44⟩] _ 0 ⟨b3, #[.int .i64 0, .int .i64 0, .int .i64 0, .string ⟨#[]⟩, .string ⟨#[]⟩], 44⟩ (off := 0) (.agg #[.int .i64 c.v.maj, .int .i64 c.v.min, .int .i64 c.v.pat, .string (mkS c.v.pre), .string (mkS c.v.build)]) rfl rfl (zZ 7 (by kernel_rfl) (ZS [⟨b3, #[.int .i64 c.v.maj, .int .i64 c.v.min, .int .i64 c.v.pat, .string (mkS c.v.pre), .string (mkS c.v.build)], 44⟩, ⟨b2, #[.int .i64 0, .int .i64 0, .int .i64 0, .string ⟨#[]⟩, .string ⟨#[]⟩], 44⟩] _ 1 ⟨b2, #[.int .i64 0, .int .i64 0, .int .i64 0, .string ⟨#[]⟩, .string ⟨#[]⟩], 44⟩ (off := 0) (.agg #[.int .i64 c.v.maj, .int .i64 c.v.min, .int .i64 c.v.pat, .string (mkS c.v.pre), .string (mkS c.v.build)]) rfl rfl (x7 (by kernel_rfl) (zA (ZO (Zv (.pointer (some ⟨b3, 3, none⟩)) ?_))))))))))
    refine Zs 0 ⟨b3, #[.int .i64 c.v.maj, .int .i64 c.v.min, .int .i64 c.v.pat, .string (mkS c.v.pre), .string (mkS c.v.build)], 44⟩ (off := 3) (.string ⟨#[48]⟩) (Zv (.pointer (some ⟨b2, 3, none⟩)) (Zs 1 ⟨b2, #[.int .i64 c.v.maj, .int .i64 c.v.min, .int .i64 c.v.pat, .string (mkS c.v.pre), .string (mkS c.v.build)], 44⟩ (off := 3) (.string ⟨#[]⟩) (ZR (Zl 0 ⟨b3, #[.int .i64 c.v.maj, .int .i64 c.v.min, .int .i64 c.v.pat, .string ⟨#[48]⟩, .string (mkS c.v.build)], 44⟩ (off := 0) (.agg #[.int .i64 c.v.maj, .int .i64 c.v.min, .int .i64 c.v.pat, .string ⟨#[48]⟩, .string (mkS c.v.build)]) (Zv (.agg #[.int .i64 0, .int .i64 c.v.maj, .int .i64 c.v.min, .int .i64 c.v.pat, .string ⟨#[48]⟩, .string (mkS c.v.build), .bool false]) (Zl 1 ⟨b2, #[.int .i64 c.v.maj, .int .i64 c.v.min, .int .i64 c.v.pat, .string ⟨#[]⟩, .string (mkS c.v.build)], 44⟩ (off := 0) (.agg #[.int .i64 c.v.maj, .int .i64 c.v.min, .int .i64 c.v.pat, .string ⟨#[]⟩, .string (mkS c.v.build)]) (Zv (.agg #[.int .i64 0, .int .i64 c.v.maj, .int .i64 c.v.min, .int .i64 c.v.pat, .string ⟨#[]⟩, .string (mkS c.v.build), .bool false]) (yE (k := 133) (args := #[.agg #[.int .i64 0, .int .i64 c.v.maj, .int .i64 c.v.min, .int .i64 c.v.pat, .string ⟨#[48]⟩, .string (mkS c.v.build), .bool false], .agg #[.int .i64 0, .int .i64 c.v.maj, .int .i64 c.v.min, .int .i64 c.v.pat, .string ⟨#[]⟩, .string (mkS c.v.build), .bool false]]) (fun v' L' => ∃ ob', L' = ob' ++ ([⟨b3, #[.int .i64 c.v.maj, .int .i64 c.v.min, .int .i64 c.v.pat, .string ⟨#[48]⟩, .string (mkS c.v.build)], 44⟩, ⟨b2, #[.int .i64 c.v.maj, .int .i64 c.v.min, .int .i64 c.v.pat, .string ⟨#[]⟩, .string (mkS c.v.build)], 44⟩, ⟨b1, (coV c).cells, 51⟩]) ∧ SlS v' (kF (⟨0, { c.v with pre := [48] }, false⟩) (⟨0, { c.v with pre := [] }, false⟩)) ob') (by kernel_rfl) (fun _ => by kernel_rfl) (fun w hO => (fB (⟨0, { c.v with pre := [48] }, false⟩) (⟨0, { c.v with pre := [] }, false⟩) w hl1 hb1).mono fun e w' ⟨v', ob', k1, k2, k3⟩ => ⟨v', _, k1, ⟨ob', rfl, k2⟩, Own.joinN hO k3⟩) (fun v1 L1 hv1 => ?_)))))))))
    obtain ⟨o1, rfl, hr1⟩ := hv1
    obtain ⟨V1, c1, rfl⟩ := hr1.form
    exact Zv (.slice V1 ((kF (⟨0, { c.v with pre := [48] }, false⟩) (⟨0, { c.v with pre := [] }, false⟩)).length) c1) (ZN (zB (ZF (.slice V1 ((kF (⟨0, { c.v with pre := [48] }, false⟩) (⟨0, { c.v with pre := [] }, false⟩)).length) c1) Tryz.results84 (fun w hO => ⟨_, o1, rfl, by rw [zone_one h1 h2]; exact hr1, hO.sublist (List.sublist_append_left _ _)⟩))))
  | false =>
    refine Zv (.bool true) (Zv (.bool true) (Zk (Zk (Zk (Zk (Zv (.bool true) (ZY (z6 (z7 ?_)))))))))
    exact Zv (.slice none 0 0) (ZN (zB (z8 (ZF (.slice none 0 0) Tryz.results84 (fun w hO => ⟨_, [], rfl, by rw [show c.zone = [] from by unfold Co.zone; simp [h1]]; exact Sl.nil _ _, qB hO⟩)))))
end
section
theorem last_pl {l : List (List UInt8)} (h : 1 ≤ l.length) {x : List UInt8} (hx : tg l (l.length - 1) = x) : l.getLast? = some x := by
  rw [List.getLast?_eq_getElem?, List.getElem?_eq_getElem (by omega), pW (by omega), hx]
theorem guess_is {s r ah tl : List UInt8} {op : Int} {pl : List (List UInt8)} (h1 : (sgo s 8).1 = op) (h2 : (sgo s 8).2 = r) (h3 : (yD 45 r).1 = ah) (h4 : (yD 45 r).2.1 = tl) (h5 : uD 2 ah = pl) {x : List UInt8} (hx : tg pl (pl.length - 1) = x) (hl : 1 ≤ pl.length) :
    vR s = if x = [42] then (⟨9, ((pl.length : Int) - 1), ⟨zS (tg pl 0), zS (tg pl 1), zS (tg pl 2), tl, []⟩⟩ : Co) else (⟨op, (pl.length : Int), ⟨zS (tg pl 0), zS (tg pl 1), zS (tg pl 2), tl, []⟩⟩ : Co) := by
  have hp : u9 s = pl := by unfold u9; rw [h2, h3, h5]
  unfold vR starP
  rw [hp, h2, h4, h1, last_pl hl hx]
  by_cases q : x = [42]
  · rw [if_pos q, q, decide_eq_true rfl]; rfl
  · rw [if_neg q, decide_eq_false (fun e => q (Option.some.inj e))]; rfl
theorem fit_or {s pt : List UInt8} {c : Co} (hg : vR s = c) (hp : c.print = pt) (h : pt = s ∨ pt = [94] ++ s) : pcV s = c ∧ pcE s = 0 := by
  have h2 := prog_some (s := s) (by rw [hg, hp]; exact h)
  rw [hg] at h2
  exact pc_some h2
theorem fit_no {s pt : List UInt8} {c : Co} (hg : vR s = c) (hp : c.print = pt) (h1 : ¬ pt = s) (h2 : ¬ pt = [94] ++ s) : pcV s = ⟨0, 0, Ver.zero⟩ ∧ pcE s = 6 :=
  pc_none (prog_none (by rw [hg, hp]; exact fun q => q.elim h1 h2))
theorem cParse_any (s : List UInt8) (W : World) (hs : s.length ≤ 1000000) (ht : HasTab W) : Calls Tryz.prog 37 #[.string (mkS s)] W fun e w' => e = .returned (.tuple #[coV (pcV s), .int .i64 (pcE s)]) ∧ Below W.heap.size W w' := by
  obtain ⟨op, hop⟩ : ∃ x, (sgo s 8).1 = x := ⟨_, rfl⟩
  obtain ⟨r, hr⟩ : ∃ x, (sgo s 8).2 = x := ⟨_, rfl⟩
  obtain ⟨ah, hah⟩ : ∃ x, (yD 45 r).1 = x := ⟨_, rfl⟩
  obtain ⟨tl, htl⟩ : ∃ x, (yD 45 r).2.1 = x := ⟨_, rfl⟩
  obtain ⟨fd, hfd⟩ : ∃ x, (yD 45 r).2.2 = x := ⟨_, rfl⟩
  obtain ⟨pl, hpl⟩ : ∃ x, uD 2 ah = x := ⟨_, rfl⟩
  have hrl : r.length ≤ s.length := hr ▸ sgo_le s 8
  have hal : ah.length + tl.length ≤ r.length := by rw [← hah, ← htl]; exact cutAt_le 45 r
  obtain ⟨hp1, hp3⟩ : 1 ≤ pl.length ∧ pl.length ≤ 3 := hpl ▸ pcsK_len 2 ah
  have htp : ∀ i, (tg pl i).length ≤ 1000000 := fun i => tg_short (fun x hx => by rw [← hpl] at hx; exact Nat.le_trans (pcsK_mem 2 ah x hx) (by omega)) i
  refine zP (n := 84) Tryz.func37 rfl (by kernel_rfl) (by kernel_rfl) (ZO (Za (.agg #[.int .i64 0, .int .i64 0, .int .i64 0, .int .i64 0, .int .i64 0, .string ⟨#[]⟩, .string ⟨#[]⟩]) (fun b1 => Zv (.int .i64 0) (ZR (Zv (.string (mkS s)) (Zc (k := 60) (args := #[.string (mkS s)]) (.tuple #[.int .i64 op, .string (mkS r)]) (fun w _ => wA (by rw [hop, hr]) (ccut_any s w hs)) (Zv (.tuple #[.int .i64 op, .string (mkS r)]) ?_)))))))
  refine Zv (.int .i64 op) (Zv (.string (mkS r)) (Zv (.int .i64 op) (Zv (.string (mkS r)) (ZR (Zv (.string (mkS r)) (Zc (k := 61) (args := #[.string (mkS r), .string ⟨#[45]⟩]) (.tuple #[.string (mkS ah), .string (mkS tl), .bool fd]) (fun w _ => wA (by rw [hah, htl, hfd]) (cutb_any r 45 w (by omega))) (Zv (.tuple #[.string (mkS ah), .string (mkS tl), .bool fd]) (Zv (.string (mkS ah)) ?_))))))))
  refine Zv (.string (mkS tl)) (Zv (.bool fd) (Zv (.string (mkS ah)) (Zv (.string (mkS tl)) (Zv (.bool fd) (ZR (Za (.agg #[.int .i64 0, .int .i64 0, .int .i64 0]) (fun b2 => zR (zA ?_))))))))
  refine ZO (Zv (.string (mkS ah)) (yE (k := 62) (args := #[.string (mkS ah), .string ⟨#[46]⟩, .int .i64 3]) (fun v' L' => ∃ ob', L' = ob' ++ ([⟨b2, #[.int .i64 0, .int .i64 0, .int .i64 0], 88⟩, ⟨b1, #[.int .i64 0, .int .i64 0, .int .i64 0, .int .i64 0, .int .i64 0, .string ⟨#[]⟩, .string ⟨#[]⟩], 51⟩]) ∧ SlT v' pl ob') (by kernel_rfl) (fun _ => by kernel_rfl) (fun w hO => (splitn_any ah w (by omega)).mono fun e w' ⟨v', ob', k1, k2, k3⟩ => ⟨v', _, k1, ⟨ob', rfl, by rw [hpl] at k2; exact k2⟩, Own.joinN hO k3⟩) (fun v1 L1 hv1 => ?_)))
  obtain ⟨o1, rfl, hsl⟩ := hv1
  obtain ⟨A1, c1, rfl⟩ := hsl.form
  obtain ⟨g1, cur1, rfl, rfl, hc1, hm1, hz1, ht1⟩ := Sl.block hsl (by omega)
  rw [uV] at ht1
  refine Zv (.slice (some ⟨g1, 0, none⟩) pl.length c1) (ZN (z6 (ZO (Zv (.slice (some ⟨g1, 0, none⟩) pl.length c1) (Zv (.int .i64 (pl.length : Int)) (Zv (.int .i64 0) (ZN (bA (fun L f => ∃ (j : Nat → Value), L = [⟨g1, cur1, 9⟩, ⟨b2, #[.int .i64 (zS (tg pl 0)), .int .i64 (zS (tg pl 1)), .int .i64 (zS (tg pl 2))], 88⟩, ⟨b1, #[.int .i64 0, .int .i64 0, .int .i64 0, .int .i64 0, .int .i64 0, .string ⟨#[]⟩, .string ⟨#[]⟩], 51⟩] ∧ f = kG j [(0, .string (mkS s)), (2, .pointer (some ⟨b1, 0, none⟩)), (4, .int .i64 op), (6, .string (mkS tl)), (8, .pointer (some ⟨b2, 0, none⟩)), (9, .slice (some ⟨g1, 0, none⟩) pl.length c1)]) ?_ ?_))))))))
  · refine zL ?_
    refine yP (fun L f m => (∃  (j : Nat → Value), (0 ≤ pl.length) ∧ L = [⟨g1, cur1, 9⟩, ⟨b2, #[.int .i64 0, .int .i64 0, .int .i64 0], 88⟩, ⟨b1, #[.int .i64 0, .int .i64 0, .int .i64 0, .int .i64 0, .int .i64 0, .string ⟨#[]⟩, .string ⟨#[]⟩], 51⟩] ∧ f = kG j [(0, .string (mkS s)), (2, .pointer (some ⟨b1, 0, none⟩)), (4, .int .i64 op), (6, .string (mkS tl)), (8, .pointer (some ⟨b2, 0, none⟩)), (9, .slice (some ⟨g1, 0, none⟩) pl.length c1), (27, .slice (some ⟨g1, 0, none⟩) pl.length c1), (28, .int .i64 (pl.length : Int)), (29, .int .i64 0)] ∧ m = 4) ∨ (∃  (j : Nat → Value), (1 ≤ pl.length) ∧ L = [⟨g1, cur1, 9⟩, ⟨b2, #[.int .i64 (zS (tg pl 0)), .int .i64 0, .int .i64 0], 88⟩, ⟨b1, #[.int .i64 0, .int .i64 0, .int .i64 0, .int .i64 0, .int .i64 0, .string ⟨#[]⟩, .string ⟨#[]⟩], 51⟩] ∧ f = kG j [(0, .string (mkS s)), (2, .pointer (some ⟨b1, 0, none⟩)), (4, .int .i64 op), (6, .string (mkS tl)), (8, .pointer (some ⟨b2, 0, none⟩)), (9, .slice (some ⟨g1, 0, none⟩) pl.length c1), (27, .slice (some ⟨g1, 0, none⟩) pl.length c1), (28, .int .i64 (pl.length : Int)), (29, .int .i64 1)] ∧ m = 3) ∨ (∃  (j : Nat → Value), (2 ≤ pl.length) ∧ L = [⟨g1, cur1, 9⟩, ⟨b2, #[.int .i64 (zS (tg pl 0)), .int .i64 (zS (tg pl 1)), .int .i64 0], 88⟩, ⟨b1, #[.int .i64 0, .int .i64 0, .int .i64 0, .int .i64 0, .int .i64 0, .string ⟨#[]⟩, .string ⟨#[]⟩], 51⟩] ∧ f = kG j [(0, .string (mkS s)), (2, .pointer (some ⟨b1, 0, none⟩)), (4, .int .i64 op), (6, .string (mkS tl)), (8, .pointer (some ⟨b2, 0, none⟩)), (9, .slice (some ⟨g1, 0, none⟩) pl.length c1), (27, .slice (some ⟨g1, 0, none⟩) pl.length c1), (28, .int .i64 (pl.length : Int)), (29, .int .i64 2)] ∧ m = 2) ∨ (∃  (j : Nat → Value), (3 ≤ pl.length) ∧ L = [⟨g1, cur1, 9⟩, ⟨b2, #[.int .i64 (zS (tg pl 0)), .int .i64 (zS (tg pl 1)), .int .i64 (zS (tg pl 2))], 88⟩, ⟨b1, #[.int .i64 0, .int .i64 0, .int .i64 0, .int .i64 0, .int .i64 0, .string ⟨#[]⟩, .string ⟨#[]⟩], 51⟩] ∧ f = kG j [(0, .string (mkS s)), (2, .pointer (some ⟨b1, 0, none⟩)), (4, .int .i64 op), (6, .string (mkS tl)), (8, .pointer (some ⟨b2, 0, none⟩)), (9, .slice (some ⟨g1, 0, none⟩) pl.length c1), (27, .slice (some ⟨g1, 0, none⟩) pl.length c1), (28, .int .i64 (pl.length : Int)), (29, .int .i64 3)] ∧ m = 1)) 4 (.inl ⟨_, Nat.zero_le _, rfl, ZU, rfl⟩) ?_
    rintro L f m (⟨j, hrel, rfl, rfl, rfl⟩ | ⟨j, hrel, rfl, rfl, rfl⟩ | ⟨j, hrel, rfl, rfl, rfl⟩ | ⟨j, hrel, rfl, rfl, rfl⟩)
    · have qn := hrel
      refine ZO (Zd (p := (0 : Int) < (pl.length : Int)) true (decide_eq_true (by omega)) (ZN (z6 (Zt (ZB (z6 (zL (z6 ?_))))))))
      refine z7 (Zv (.int .i64 0) (zV (.pointer (some ⟨g1, 0 * 1 + 0, none⟩)) (by kernel_rfl) (kH (b := g1) (off := 0) (n := pl.length) (c := c1) (k := .i64) (j := 0) (e := 9) (sz := 1) rfl (by kernel_rfl) (by kernel_rfl) (by kernel_rfl) (by kernel_rfl) (by omega) (by omega) (by rfl)) (jF 0 ⟨g1, cur1, 9⟩ (off := 0 * 1 + 0) (.string (mkS (tg pl 0))) (by kernel_rfl) rfl (by kernel_rfl) (by kernel_rfl) (xD bO ht1 0 0 (by omega) (by omega) _ (by rw [pW (by omega)]; kernel_rfl)) (Zv (.int .i64 0) (Zv (.string (mkS (tg pl 0))) (ZN (z7 (Zv (.int .i64 0) (Zv (.string (mkS (tg pl 0))) (Zc (k := 63) (args := #[.string (mkS (tg pl 0))]) (.tuple #[.int .i64 (zS (tg pl 0)), .bool (gK (tg pl 0))]) (fun w _ => j8 (tg pl 0) _ rfl w (Nat.le_trans (htp 0) (by decide))) ?_))))))))))
      refine Zv (.tuple #[.int .i64 (zS (tg pl 0)), .bool (gK (tg pl 0))]) (Zv (.int .i64 (zS (tg pl 0))) (Zv (.bool (gK (tg pl 0))) (Zv (.pointer (some ⟨b2, 0, none⟩)) (Zs 1 ⟨b2, #[.int .i64 0, .int .i64 0, .int .i64 0], 88⟩ (off := 0) (.int .i64 (zS (tg pl 0))) (zR (zT (zA (z7 (Zv (.int .i64 1) (Zv (.int .i64 1) (zR ?_)))))))))))
      exact zU (m' := 3) (by decide) (.inr (.inl ⟨_, (by omega : 1 ≤ pl.length), rfl, ZU, rfl⟩))
    · have qn := hrel
      refine z6 (z7 ?_)
      by_cases h1 : (1 : Int) < (pl.length : Int)
      · have hk : 1 < pl.length := by omega
        refine Zd (p := (1 : Int) < (pl.length : Int)) true (decide_eq_true (h1)) (ZN (z6 (Zt (ZB (z6 (zL (ZO (Zv (.int .i64 1) ?_))))))))
        refine zV (.pointer (some ⟨g1, 1 * 1 + 0, none⟩)) (by kernel_rfl) (kH (b := g1) (off := 0) (n := pl.length) (c := c1) (k := .i64) (j := 1) (e := 9) (sz := 1) rfl (by kernel_rfl) (by kernel_rfl) (by kernel_rfl) (by kernel_rfl) (by omega) (by omega) (by rfl)) (jF 0 ⟨g1, cur1, 9⟩ (off := 1 * 1 + 0) (.string (mkS (tg pl 1))) (by kernel_rfl) rfl (by kernel_rfl) (by kernel_rfl) (xD bO ht1 1 0 (by omega) (by omega) _ (by rw [pW (by omega)]; kernel_rfl)) (Zv (.int .i64 1) (Zv (.string (mkS (tg pl 1))) (ZN (z7 (Zv (.int .i64 1) (Zv (.string (mkS (tg pl 1))) (Zc (k := 63) (args := #[.string (mkS (tg pl 1))]) (.tuple #[.int .i64 (zS (tg pl 1)), .bool (gK (tg pl 1))]) (fun w _ => j8 (tg pl 1) _ rfl w (Nat.le_trans (htp 1) (by decide))) (Zv (.tuple #[.int .i64 (zS (tg pl 1)), .bool (gK (tg pl 1))]) (Zv (.int .i64 (zS (tg pl 1))) ?_))))))))))
        exact Zv (.bool (gK (tg pl 1))) (Zv (.pointer (some ⟨b2, 1, none⟩)) (Zs 1 ⟨b2, #[.int .i64 (zS (tg pl 0)), .int .i64 0, .int .i64 0], 88⟩ (off := 1) (.int .i64 (zS (tg pl 1))) (zR (zT (zA (z7 (Zv (.int .i64 2) (Zv (.int .i64 2) (zR (zU (m' := 2) (by decide) (.inr (.inr (.inl ⟨_, (by omega : 2 ≤ pl.length), rfl, ZU, rfl⟩)))))))))))))
      exact Zd (p := (1 : Int) < (pl.length : Int)) false (decide_eq_false (h1)) (ZN (z6 (Zf (y8 (zC (zN (zI (yX ⟨_, by rw [tgi_out (l := pl) (i := 1) (by omega), tgi_out (l := pl) (i := 2) (by omega)], ZU⟩))))))))
    · have qn := hrel
      refine z6 (z7 ?_)
      by_cases h2 : (2 : Int) < (pl.length : Int)
      · have hk : 2 < pl.length := by omega
        refine Zd (p := (2 : Int) < (pl.length : Int)) true (decide_eq_true (h2)) (ZN (z6 (Zt (ZB (z6 (zL (ZO (Zv (.int .i64 2) ?_))))))))
        refine zV (.pointer (some ⟨g1, 2 * 1 + 0, none⟩)) (by kernel_rfl) (kH (b := g1) (off := 0) (n := pl.length) (c := c1) (k := .i64) (j := 2) (e := 9) (sz := 1) rfl (by kernel_rfl) (by kernel_rfl) (by kernel_rfl) (by kernel_rfl) (by omega) (by omega) (by rfl)) (jF 0 ⟨g1, cur1, 9⟩ (off := 2 * 1 + 0) (.string (mkS (tg pl 2))) (by kernel_rfl) rfl (by kernel_rfl) (by kernel_rfl) (xD bO ht1 2 0 (by omega) (by omega) _ (by rw [pW (by omega)]; kernel_rfl)) (Zv (.int .i64 2) (Zv (.string (mkS (tg pl 2))) (ZN (z7 (Zv (.int .i64 2) (Zv (.string (mkS (tg pl 2))) (Zc (k := 63) (args := #[.string (mkS (tg pl 2))]) (.tuple #[.int .i64 (zS (tg pl 2)), .bool (gK (tg pl 2))]) (fun w _ => j8 (tg pl 2) _ rfl w (Nat.le_trans (htp 2) (by decide))) (Zv (.tuple #[.int .i64 (zS (tg pl 2)), .bool (gK (tg pl 2))]) (Zv (.int .i64 (zS (tg pl 2))) ?_))))))))))
        exact Zv (.bool (gK (tg pl 2))) (Zv (.pointer (some ⟨b2, 2, none⟩)) (Zs 1 ⟨b2, #[.int .i64 (zS (tg pl 0)), .int .i64 (zS (tg pl 1)), .int .i64 0], 88⟩ (off := 2) (.int .i64 (zS (tg pl 2))) (zR (zT (zA (z7 (Zv (.int .i64 3) (Zv (.int .i64 3) (zR (zU (m' := 1) (by decide) (.inr (.inr (.inr (⟨_, (by omega : 3 ≤ pl.length), rfl, ZU, rfl⟩))))))))))))))
      exact Zd (p := (2 : Int) < (pl.length : Int)) false (decide_eq_false (h2)) (ZN (z6 (Zf (y8 (zC (zN (zI (yX ⟨_, by rw [tgi_out (l := pl) (i := 2) (by omega)], ZU⟩))))))))
    have qn := hrel
    exact ZO (Zd (p := (3 : Int) < (pl.length : Int)) false (decide_eq_false (by omega)) (ZN (z6 (Zf (y8 (zC (zN (zI (yX ⟨_, rfl, ZU⟩)))))))))
  · rintro L f ⟨j, rfl, rfl⟩
    obtain ⟨la, hla⟩ : ∃ x, tg pl (pl.length - 1) = x := ⟨_, rfl⟩
    have hgu := guess_is hop hr hah htl hpl hla (by omega)
    refine zA (ZO (Zv (.int .i64 op) (Zv (.slice (some ⟨g1, 0, none⟩) pl.length c1) (Zv (.int .i64 (pl.length : Int)) (Zv (.agg #[.int .i64 op, .int .i64 (pl.length : Int), .int .i64 0, .int .i64 0, .int .i64 0, .string ⟨#[]⟩, .string ⟨#[]⟩]) (Za (.agg #[.int .i64 0, .int .i64 0, .int .i64 0, .int .i64 0, .int .i64 0, .string ⟨#[]⟩, .string ⟨#[]⟩]) (fun b3 => Zs 0 ⟨b3, #[.int .i64 0, .int .i64 0, .int .i64 0, .int .i64 0, .int .i64 0, .string ⟨#[]⟩, .string ⟨#[]⟩], 51⟩ (off := 0) (.agg #[.int .i64 op, .int .i64 (pl.length : Int), .int .i64 0, .int .i64 0, .int .i64 0, .string ⟨#[]⟩, .string ⟨#[]⟩]) (ZN (z6 ?_)))))))))
    refine ZO (Zv (.slice (some ⟨g1, 0, none⟩) pl.length c1) (Zv (.slice (some ⟨g1, 0, none⟩) pl.length c1) (Zv (.int .i64 (pl.length : Int)) (Zu (k := .i64) (((pl.length : Int) : Int) - 1) (IntWalk.i64_in _ (by omega)) (zV (.pointer (some ⟨g1, (pl.length - 1) * 1 + 0, none⟩)) (by kernel_rfl) (kH (b := g1) (off := 0) (n := pl.length) (c := c1) (k := .i64) (j := ((pl.length : Int) - 1)) (e := 9) (sz := 1) rfl (by kernel_rfl) (by kernel_rfl) (by kernel_rfl) (by kernel_rfl) (by omega) (by omega) (by omega)) (jF 1 ⟨g1, cur1, 9⟩ (off := (pl.length - 1) * 1 + 0) (.string (mkS la)) (by kernel_rfl) rfl (by kernel_rfl) (by kernel_rfl) (xD bO ht1 (pl.length - 1) 0 (by omega) (by omega) _ (by rw [pW (by omega), hla]; kernel_rfl)) ?_))))))
    by_cases h3 : (la : List UInt8) = [42]
    · refine zV (.bool true) (by kernel_rfl) (x4 (a := la) (b := ([42])) rfl (by kernel_rfl) (by kernel_rfl) (decide_eq_true (h3))) ?_
      refine ZY (ZO (Zv (.pointer (some ⟨b3, 0, none⟩)) (Zs 0 ⟨b3, #[.int .i64 op, .int .i64 (pl.length : Int), .int .i64 0, .int .i64 0, .int .i64 0, .string ⟨#[]⟩, .string ⟨#[]⟩], 51⟩ (off := 0) (.int .i64 9) (ZN (z7 (Zv (.pointer (some ⟨b3, 1, none⟩)) (Zl 0 ⟨b3, #[.int .i64 9, .int .i64 (pl.length : Int), .int .i64 0, .int .i64 0, .int .i64 0, .string ⟨#[]⟩, .string ⟨#[]⟩], 51⟩ (off := 1) (.int .i64 (pl.length : Int)) ?_)))))))
      refine Zu (k := .i64) (((pl.length : Int) : Int) - 1) (IntWalk.i64_in _ (by omega)) (Zv (.pointer (some ⟨b3, 1, none⟩)) (Zs 0 ⟨b3, #[.int .i64 9, .int .i64 (pl.length : Int), .int .i64 0, .int .i64 0, .int .i64 0, .string ⟨#[]⟩, .string ⟨#[]⟩], 51⟩ (off := 1) (.int .i64 (((pl.length : Int) : Int) - 1)) (ZR (Zv (.pointer (some ⟨b2, 0, none⟩)) (Zl 2 ⟨b2, #[.int .i64 (zS (tg pl 0)), .int .i64 (zS (tg pl 1)), .int .i64 (zS (tg pl 2))], 88⟩ (off := 0) (.int .i64 (zS (tg pl 0))) (Zv (.pointer (some ⟨b2, 1, none⟩)) (Zl 2 ⟨b2, #[.int .i64 (zS (tg pl 0)), .int .i64 (zS (tg pl 1)), .int .i64 (zS (tg pl 2))], 88⟩ (off := 1) (.int .i64 (zS (tg pl 1))) (Zv (.pointer (some ⟨b2, 2, none⟩)) ?_))))))))
      refine Zl 2 ⟨b2, #[.int .i64 (zS (tg pl 0)), .int .i64 (zS (tg pl 1)), .int .i64 (zS (tg pl 2))], 88⟩ (off := 2) (.int .i64 (zS (tg pl 2))) (Zv (.string (mkS tl)) (Zv (.agg #[.int .i64 (zS (tg pl 0)), .int .i64 (zS (tg pl 1)), .int .i64 (zS (tg pl 2)), .string (mkS tl), .string ⟨#[]⟩]) (Zv (.pointer (some ⟨b3, 2, none⟩)) (Zs 0 ⟨b3, #[.int .i64 9, .int .i64 (((pl.length : Int) : Int) - 1), .int .i64 0, .int .i64 0, .int .i64 0, .string ⟨#[]⟩, .string ⟨#[]⟩], 51⟩ (off := 2) (.agg #[.int .i64 (zS (tg pl 0)), .int .i64 (zS (tg pl 1)), .int .i64 (zS (tg pl 2)), .string (mkS tl), .string ⟨#[]⟩]) (ZN (z6 (ZO (Zl 0 ⟨b3, #[.int .i64 9, .int .i64 (((pl.length : Int) : Int) - 1), .int .i64 (zS (tg pl 0)), .int .i64 (zS (tg pl 1)), .int .i64 (zS (tg pl 2)), .string (mkS tl), .string ⟨#[]⟩], 51⟩ (off := 0) (.agg #[.int .i64 9, .int .i64 (((pl.length : Int) : Int) - 1), .int .i64 (zS (tg pl 0)), .int .i64 (zS (tg pl 1)), .int .i64 (zS (tg pl 2)), .string (mkS tl), .string ⟨#[]⟩]) ?_))))))))
      have hcs : ((⟨9, ((pl.length : Int) - 1), ⟨zS (tg pl 0), zS (tg pl 1), zS (tg pl 2), tl, []⟩⟩ : Co)).short := ⟨by show tl.length ≤ _; omega, Nat.zero_le _⟩
      obtain ⟨pt, hpt⟩ : ∃ x, Co.print (⟨9, ((pl.length : Int) - 1), ⟨zS (tg pl 0), zS (tg pl 1), zS (tg pl 2), tl, []⟩⟩ : Co) = x := ⟨_, rfl⟩
      refine Zc (k := 64) (args := #[.agg #[.int .i64 9, .int .i64 (((pl.length : Int) : Int) - 1), .int .i64 (zS (tg pl 0)), .int .i64 (zS (tg pl 1)), .int .i64 (zS (tg pl 2)), .string (mkS tl), .string ⟨#[]⟩]]) (.string (mkS pt)) (fun w hO => wA (by rw [← hpt]) (pN (⟨9, ((pl.length : Int) - 1), ⟨zS (tg pl 0), zS (tg pl 1), zS (tg pl 2), tl, []⟩⟩ : Co) w hcs (ht.on hO.below))) (Zv (.string (mkS pt)) (ZR (Zv (.string (mkS pt)) (Zv (.string (mkS s)) ?_))))
      by_cases h4 : (pt : List UInt8) = s
      · refine zV (.bool false) (by kernel_rfl) (xB (a := pt) (b := s) rfl (by kernel_rfl) (by kernel_rfl) (decide_eq_true (h4))) ?_
        refine Zv (.bool false) (Zk (Zk (Zk (Zk (Zv (.bool false) (ZX (ZB (z6 ?_))))))))
        refine z7 (Zv (.string (mkS tl)) (Zc (k := 65) (args := #[.string (mkS tl)]) (.string (mkS tl)) (fun w _ => u6 (mkS tl) w (by rw [xP]; omega)) (Zv (.pointer (some ⟨b3, 2, none⟩)) (Zv (.pointer (some ⟨b3, 5, none⟩)) (Zs 0 ⟨b3, #[.int .i64 9, .int .i64 (((pl.length : Int) : Int) - 1), .int .i64 (zS (tg pl 0)), .int .i64 (zS (tg pl 1)), .int .i64 (zS (tg pl 2)), .string (mkS tl), .string ⟨#[]⟩], 51⟩ (off := 5) (.string (mkS tl)) (ZR (Zl 0 ⟨b3, #[.int .i64 9, .int .i64 (((pl.length : Int) : Int) - 1), .int .i64 (zS (tg pl 0)), .int .i64 (zS (tg pl 1)), .int .i64 (zS (tg pl 2)), .string (mkS tl), .string ⟨#[]⟩], 51⟩ (off := 0) (.agg #[.int .i64 9, .int .i64 (((pl.length : Int) : Int) - 1), .int .i64 (zS (tg pl 0)), .int .i64 (zS (tg pl 1)), .int .i64 (zS (tg pl 2)), .string (mkS tl), .string ⟨#[]⟩]) (Zs 3 ⟨b1, #[.int .i64 0, .int .i64 0, .int .i64 0, .int .i64 0, .int .i64 0, .string ⟨#[]⟩, .string ⟨#[]⟩], 51⟩ (off := 0) (.agg #[.int .i64 9, .int .i64 (((pl.length : Int) : Int) - 1), .int .i64 (zS (tg pl 0)), .int .i64 (zS (tg pl 1)), .int .i64 (zS (tg pl 2)), .string (mkS tl), .string ⟨#[]⟩]) ?_))))))))
        exact Zv (.int .i64 0) (ZN (zB (ZD 3 ⟨b1, #[.int .i64 9, .int .i64 (((pl.length : Int) : Int) - 1), .int .i64 (zS (tg pl 0)), .int .i64 (zS (tg pl 1)), .int .i64 (zS (tg pl 2)), .string (mkS tl), .string ⟨#[]⟩], 51⟩ (off := 0) (.agg #[.int .i64 9, .int .i64 (((pl.length : Int) : Int) - 1), .int .i64 (zS (tg pl 0)), .int .i64 (zS (tg pl 1)), .int .i64 (zS (tg pl 2)), .string (mkS tl), .string ⟨#[]⟩]) (.int .i64 0) Tryz.results37 (fun w hO => ⟨by have q := fit_or (c := (⟨9, ((pl.length : Int) - 1), ⟨zS (tg pl 0), zS (tg pl 1), zS (tg pl 2), tl, []⟩⟩ : Co)) (hgu.trans (if_pos h3)) hpt (.inl h4); rw [q.1, q.2]; rfl, hO.below⟩))))
      refine zV (.bool true) (by kernel_rfl) (xB (a := pt) (b := s) rfl (by kernel_rfl) (by kernel_rfl) (decide_eq_false (h4))) (Zv (.bool true) (Zv (.string (mkS pt)) (Zv (.string (mkS s)) (zV (.string (mkS ([94] ++ s))) (by kernel_rfl) (yU (a := [94]) (b := s) rfl (by kernel_rfl) (by kernel_rfl) (by simp only [List.length_append, List.length_cons, List.length_nil]; omega)) ?_))))
      by_cases h5 : (pt : List UInt8) = ([94] ++ s)
      · refine zV (.bool false) (by kernel_rfl) (xB (a := pt) (b := ([94] ++ s)) rfl (by kernel_rfl) (by kernel_rfl) (decide_eq_true (h5))) ?_
        refine Zv (.bool false) (ZX (ZB (ZO (Zv (.string (mkS tl)) (Zc (k := 65) (args := #[.string (mkS tl)]) (.string (mkS tl)) (fun w _ => u6 (mkS tl) w (by rw [xP]; omega)) (Zv (.pointer (some ⟨b3, 2, none⟩)) (Zv (.pointer (some ⟨b3, 5, none⟩)) ?_)))))))
        refine Zs 0 ⟨b3, #[.int .i64 9, .int .i64 (((pl.length : Int) : Int) - 1), .int .i64 (zS (tg pl 0)), .int .i64 (zS (tg pl 1)), .int .i64 (zS (tg pl 2)), .string (mkS tl), .string ⟨#[]⟩], 51⟩ (off := 5) (.string (mkS tl)) (ZR (Zl 0 ⟨b3, #[.int .i64 9, .int .i64 (((pl.length : Int) : Int) - 1), .int .i64 (zS (tg pl 0)), .int .i64 (zS (tg pl 1)), .int .i64 (zS (tg pl 2)), .string (mkS tl), .string ⟨#[]⟩], 51⟩ (off := 0) (.agg #[.int .i64 9, .int .i64 (((pl.length : Int) : Int) - 1), .int .i64 (zS (tg pl 0)), .int .i64 (zS (tg pl 1)), .int .i64 (zS (tg pl 2)), .string (mkS tl), .string ⟨#[]⟩]) (Zs 3 ⟨b1, #[.int .i64 0, .int .i64 0, .int .i64 0, .int .i64 0, .int .i64 0, .string ⟨#[]⟩, .string ⟨#[]⟩], 51⟩ (off := 0) (.agg #[.int .i64 9, .int .i64 (((pl.length : Int) : Int) - 1), .int .i64 (zS (tg pl 0)), .int .i64 (zS (tg pl 1)), .int .i64 (zS (tg pl 2)), .string (mkS tl), .string ⟨#[]⟩]) (Zv (.int .i64 0) (ZN (zB (ZD 3 ⟨b1, #[.int .i64 9, .int .i64 (((pl.length : Int) : Int) - 1), .int .i64 (zS (tg pl 0)), .int .i64 (zS (tg pl 1)), .int .i64 (zS (tg pl 2)), .string (mkS tl), .string ⟨#[]⟩], 51⟩ (off := 0) (.agg #[.int .i64 9, .int .i64 (((pl.length : Int) : Int) - 1), .int .i64 (zS (tg pl 0)), .int .i64 (zS (tg pl 1)), .int .i64 (zS (tg pl 2)), .string (mkS tl), .string ⟨#[]⟩]) (.int .i64 0) Tryz.results37 ?_)))))))
        exact fun w hO => ⟨by have q := fit_or (c := (⟨9, ((pl.length : Int) - 1), ⟨zS (tg pl 0), zS (tg pl 1), zS (tg pl 2), tl, []⟩⟩ : Co)) (hgu.trans (if_pos h3)) hpt (.inr h5); rw [q.1, q.2]; rfl, hO.below⟩
      refine zV (.bool true) (by kernel_rfl) (xB (a := pt) (b := ([94] ++ s)) rfl (by kernel_rfl) (by kernel_rfl) (decide_eq_false (h5))) (Zv (.bool true) (ZY (ZO (Zv (.agg #[.int .i64 0, .int .i64 0, .int .i64 0, .int .i64 0, .int .i64 0, .string ⟨#[]⟩, .string ⟨#[]⟩]) (Zs 3 ⟨b1, #[.int .i64 0, .int .i64 0, .int .i64 0, .int .i64 0, .int .i64 0, .string ⟨#[]⟩, .string ⟨#[]⟩], 51⟩ (off := 0) (.agg #[.int .i64 0, .int .i64 0, .int .i64 0, .int .i64 0, .int .i64 0, .string ⟨#[]⟩, .string ⟨#[]⟩]) (Zv (.int .i64 6) (zR (zA ?_))))))))
      exact zB (z8 (ZD 3 ⟨b1, #[.int .i64 0, .int .i64 0, .int .i64 0, .int .i64 0, .int .i64 0, .string ⟨#[]⟩, .string ⟨#[]⟩], 51⟩ (off := 0) (.agg #[.int .i64 0, .int .i64 0, .int .i64 0, .int .i64 0, .int .i64 0, .string ⟨#[]⟩, .string ⟨#[]⟩]) (.int .i64 6) Tryz.results37 (fun w hO => ⟨by have q := fit_no (c := (⟨9, ((pl.length : Int) - 1), ⟨zS (tg pl 0), zS (tg pl 1), zS (tg pl 2), tl, []⟩⟩ : Co)) (hgu.trans (if_pos h3)) hpt h4 h5; rw [q.1, q.2]; rfl, hO.below⟩)))
    refine zV (.bool false) (by kernel_rfl) (x4 (a := la) (b := ([42])) rfl (by kernel_rfl) (by kernel_rfl) (decide_eq_false (h3))) (ZX (ZB (ZO (Zv (.pointer (some ⟨b2, 0, none⟩)) (Zl 2 ⟨b2, #[.int .i64 (zS (tg pl 0)), .int .i64 (zS (tg pl 1)), .int .i64 (zS (tg pl 2))], 88⟩ (off := 0) (.int .i64 (zS (tg pl 0))) (Zv (.pointer (some ⟨b2, 1, none⟩)) (Zl 2 ⟨b2, #[.int .i64 (zS (tg pl 0)), .int .i64 (zS (tg pl 1)), .int .i64 (zS (tg pl 2))], 88⟩ (off := 1) (.int .i64 (zS (tg pl 1))) ?_)))))))
    refine Zv (.pointer (some ⟨b2, 2, none⟩)) (Zl 2 ⟨b2, #[.int .i64 (zS (tg pl 0)), .int .i64 (zS (tg pl 1)), .int .i64 (zS (tg pl 2))], 88⟩ (off := 2) (.int .i64 (zS (tg pl 2))) (Zv (.string (mkS tl)) (Zv (.agg #[.int .i64 (zS (tg pl 0)), .int .i64 (zS (tg pl 1)), .int .i64 (zS (tg pl 2)), .string (mkS tl), .string ⟨#[]⟩]) (Zv (.pointer (some ⟨b3, 2, none⟩)) (Zs 0 ⟨b3, #[.int .i64 op, .int .i64 (pl.length : Int), .int .i64 0, .int .i64 0, .int .i64 0, .string ⟨#[]⟩, .string ⟨#[]⟩], 51⟩ (off := 2) (.agg #[.int .i64 (zS (tg pl 0)), .int .i64 (zS (tg pl 1)), .int .i64 (zS (tg pl 2)), .string (mkS tl), .string ⟨#[]⟩]) (ZN (z6 (ZO (Zl 0 ⟨b3, #[.int .i64 op, .int .i64 (pl.length : Int), .int .i64 (zS (tg pl 0)), .int .i64 (zS (tg pl 1)), .int .i64 (zS (tg pl 2)), .string (mkS tl), .string ⟨#[]⟩], 51⟩ (off := 0) (.agg #[.int .i64 op, .int .i64 (pl.length : Int), .int .i64 (zS (tg pl 0)), .int .i64 (zS (tg pl 1)), .int .i64 (zS (tg pl 2)), .string (mkS tl), .string ⟨#[]⟩]) ?_)))))))))
    have hcs : ((⟨op, (pl.length : Int), ⟨zS (tg pl 0), zS (tg pl 1), zS (tg pl 2), tl, []⟩⟩ : Co)).short := ⟨by show tl.length ≤ _; omega, Nat.zero_le _⟩
    obtain ⟨pt, hpt⟩ : ∃ x, Co.print (⟨op, (pl.length : Int), ⟨zS (tg pl 0), zS (tg pl 1), zS (tg pl 2), tl, []⟩⟩ : Co) = x := ⟨_, rfl⟩
    refine Zc (k := 64) (args := #[.agg #[.int .i64 op, .int .i64 (pl.length : Int), .int .i64 (zS (tg pl 0)), .int .i64 (zS (tg pl 1)), .int .i64 (zS (tg pl 2)), .string (mkS tl), .string ⟨#[]⟩]]) (.string (mkS pt)) (fun w hO => wA (by rw [← hpt]) (pN (⟨op, (pl.length : Int), ⟨zS (tg pl 0), zS (tg pl 1), zS (tg pl 2), tl, []⟩⟩ : Co) w hcs (ht.on hO.below))) (Zv (.string (mkS pt)) (ZR (Zv (.string (mkS pt)) (Zv (.string (mkS s)) ?_))))
    by_cases h6 : (pt : List UInt8) = s
    · refine zV (.bool false) (by kernel_rfl) (xB (a := pt) (b := s) rfl (by kernel_rfl) (by kernel_rfl) (decide_eq_true (h6))) ?_
      refine Zv (.bool false) (Zk (Zk (Zk (Zk (Zv (.bool false) (ZX (ZB (z6 ?_))))))))
      refine z7 (Zv (.string (mkS tl)) (Zc (k := 65) (args := #[.string (mkS tl)]) (.string (mkS tl)) (fun w _ => u6 (mkS tl) w (by rw [xP]; omega)) (Zv (.pointer (some ⟨b3, 2, none⟩)) (Zv (.pointer (some ⟨b3, 5, none⟩)) (Zs 0 ⟨b3, #[.int .i64 op, .int .i64 (pl.length : Int), .int .i64 (zS (tg pl 0)), .int .i64 (zS (tg pl 1)), .int .i64 (zS (tg pl 2)), .string (mkS tl), .string ⟨#[]⟩], 51⟩ (off := 5) (.string (mkS tl)) (ZR (Zl 0 ⟨b3, #[.int .i64 op, .int .i64 (pl.length : Int), .int .i64 (zS (tg pl 0)), .int .i64 (zS (tg pl 1)), .int .i64 (zS (tg pl 2)), .string (mkS tl), .string ⟨#[]⟩], 51⟩ (off := 0) (.agg #[.int .i64 op, .int .i64 (pl.length : Int), .int .i64 (zS (tg pl 0)), .int .i64 (zS (tg pl 1)), .int .i64 (zS (tg pl 2)), .string (mkS tl), .string ⟨#[]⟩]) (Zs 3 ⟨b1, #[.int .i64 0, .int .i64 0, .int .i64 0, .int .i64 0, .int .i64 0, .string ⟨#[]⟩, .string ⟨#[]⟩], 51⟩ (off := 0) (.agg #[.int .i64 op, .int .i64 (pl.length : Int), .int .i64 (zS (tg pl 0)), .int .i64 (zS (tg pl 1)), .int .i64 (zS (tg pl 2)), .string (mkS tl), .string ⟨#[]⟩]) ?_))))))))
      exact Zv (.int .i64 0) (ZN (zB (ZD 3 ⟨b1, #[.int .i64 op, .int .i64 (pl.length : Int), .int .i64 (zS (tg pl 0)), .int .i64 (zS (tg pl 1)), .int .i64 (zS (tg pl 2)), .string (mkS tl), .string ⟨#[]⟩], 51⟩ (off := 0) (.agg #[.int .i64 op, .int .i64 (pl.length : Int), .int .i64 (zS (tg pl 0)), .int .i64 (zS (tg pl 1)), .int .i64 (zS (tg pl 2)), .string (mkS tl), .string ⟨#[]⟩]) (.int .i64 0) Tryz.results37 (fun w hO => ⟨by have q := fit_or (c := (⟨op, (pl.length : Int), ⟨zS (tg pl 0), zS (tg pl 1), zS (tg pl 2), tl, []⟩⟩ : Co)) (hgu.trans (if_neg h3)) hpt (.inl h6); rw [q.1, q.2]; rfl, hO.below⟩))))
    refine zV (.bool true) (by kernel_rfl) (xB (a := pt) (b := s) rfl (by kernel_rfl) (by kernel_rfl) (decide_eq_false (h6))) (Zv (.bool true) (Zv (.string (mkS pt)) (Zv (.string (mkS s)) (zV (.string (mkS ([94] ++ s))) (by kernel_rfl) (yU (a := [94]) (b := s) rfl (by kernel_rfl) (by kernel_rfl) (by simp only [List.length_append, List.length_cons, List.length_nil]; omega)) ?_))))
    by_cases h7 : (pt : List UInt8) = ([94] ++ s)
    · refine zV (.bool false) (by kernel_rfl) (xB (a := pt) (b := ([94] ++ s)) rfl (by kernel_rfl) (by kernel_rfl) (decide_eq_true (h7))) ?_
      refine Zv (.bool false) (ZX (ZB (ZO (Zv (.string (mkS tl)) (Zc (k := 65) (args := #[.string (mkS tl)]) (.string (mkS tl)) (fun w _ => u6 (mkS tl) w (by rw [xP]; omega)) (Zv (.pointer (some ⟨b3, 2, none⟩)) (Zv (.pointer (some ⟨b3, 5, none⟩)) ?_)))))))
      refine Zs 0 ⟨b3, #[.int .i64 op, .int .i64 (pl.length : Int), .int .i64 (zS (tg pl 0)), .int .i64 (zS (tg pl 1)), .int .i64 (zS (tg pl 2)), .string (mkS tl), .string ⟨#[]⟩], 51⟩ (off := 5) (.string (mkS tl)) (ZR (Zl 0 ⟨b3, #[.int .i64 op, .int .i64 (pl.length : Int), .int .i64 (zS (tg pl 0)), .int .i64 (zS (tg pl 1)), .int .i64 (zS (tg pl 2)), .string (mkS tl), .string ⟨#[]⟩], 51⟩ (off := 0) (.agg #[.int .i64 op, .int .i64 (pl.length : Int), .int .i64 (zS (tg pl 0)), .int .i64 (zS (tg pl 1)), .int .i64 (zS (tg pl 2)), .string (mkS tl), .string ⟨#[]⟩]) (Zs 3 ⟨b1, #[.int .i64 0, .int .i64 0, .int .i64 0, .int .i64 0, .int .i64 0, .string ⟨#[]⟩, .string ⟨#[]⟩], 51⟩ (off := 0) (.agg #[.int .i64 op, .int .i64 (pl.length : Int), .int .i64 (zS (tg pl 0)), .int .i64 (zS (tg pl 1)), .int .i64 (zS (tg pl 2)), .string (mkS tl), .string ⟨#[]⟩]) (Zv (.int .i64 0) (ZN (zB (ZD 3 ⟨b1, #[.int .i64 op, .int .i64 (pl.length : Int), .int .i64 (zS (tg pl 0)), .int .i64 (zS (tg pl 1)), .int .i64 (zS (tg pl 2)), .string (mkS tl), .string ⟨#[]⟩], 51⟩ (off := 0) (.agg #[.int .i64 op, .int .i64 (pl.length : Int), .int .i64 (zS (tg pl 0)), .int .i64 (zS (tg pl 1)), .int .i64 (zS (tg pl 2)), .string (mkS tl), .string ⟨#[]⟩]) (.int .i64 0) Tryz.results37 ?_)))))))
      exact fun w hO => ⟨by have q := fit_or (c := (⟨op, (pl.length : Int), ⟨zS (tg pl 0), zS (tg pl 1), zS (tg pl 2), tl, []⟩⟩ : Co)) (hgu.trans (if_neg h3)) hpt (.inr h7); rw [q.1, q.2]; rfl, hO.below⟩
    refine zV (.bool true) (by kernel_rfl) (xB (a := pt) (b := ([94] ++ s)) rfl (by kernel_rfl) (by kernel_rfl) (decide_eq_false (h7))) (Zv (.bool true) (ZY (ZO (Zv (.agg #[.int .i64 0, .int .i64 0, .int .i64 0, .int .i64 0, .int .i64 0, .string ⟨#[]⟩, .string ⟨#[]⟩]) (Zs 3 ⟨b1, #[.int .i64 0, .int .i64 0, .int .i64 0, .int .i64 0, .int .i64 0, .string ⟨#[]⟩, .string ⟨#[]⟩], 51⟩ (off := 0) (.agg #[.int .i64 0, .int .i64 0, .int .i64 0, .int .i64 0, .int .i64 0, .string ⟨#[]⟩, .string ⟨#[]⟩]) (Zv (.int .i64 6) (zR (zA ?_))))))))
    exact zB (z8 (ZD 3 ⟨b1, #[.int .i64 0, .int .i64 0, .int .i64 0, .int .i64 0, .int .i64 0, .string ⟨#[]⟩, .string ⟨#[]⟩], 51⟩ (off := 0) (.agg #[.int .i64 0, .int .i64 0, .int .i64 0, .int .i64 0, .int .i64 0, .string ⟨#[]⟩, .string ⟨#[]⟩]) (.int .i64 6) Tryz.results37 (fun w hO => ⟨by have q := fit_no (c := (⟨op, (pl.length : Int), ⟨zS (tg pl 0), zS (tg pl 1), zS (tg pl 2), tl, []⟩⟩ : Co)) (hgu.trans (if_neg h3)) hpt h6 h7; rw [q.1, q.2]; rfl, hO.below⟩)))
end
section
theorem textR_few {xs : List Al} (h1 : xs.length ≤ 6) (h : ∀ x ∈ xs, fewA x.l = true) : wS (xA xs) = xI (xA xs) := by
  unfold wS
  cases hf : fewR (xA xs) with
  | true => rfl
  | false =>
    cases xs with
    | nil => rfl
    | cons x xs => rw [few_all ⟨by simp, h1⟩ h] at hf; cases hf
theorem textR_bad {xs : List Al} {x : Al} (hm : x ∈ xs) (h : fewA x.l = false) : wS (xA xs) = [] := textR_nil.2 (few_one hm h)
theorem textR_big {xs : List Al} (h : 6 < xs.length) : wS (xA xs) = [] := textR_nil.2 (few_len (by omega))
theorem own_tx1 {M : List Nat} {W w : World} {x y z : Blk} {A B : List Blk} (h : Own M W w ([x, y, z] ++ A ++ B)) : Own M W w (z :: (A ++ B)) := by
  rw [List.append_assoc] at h
  exact Own.sub [x, y] h
theorem own_tx2 {M : List Nat} {W w : World} {x z : Blk} {A B : List Blk} (h : Own M W w ([x, z] ++ A ++ B)) : Own M W w (z :: A) := by
  exact (Own.sub [x] (by simpa using h : Own M W w (x :: (z :: A ++ B)))).sublist (by simp)
theorem own_tx3 {M : List Nat} {W w : World} {x y : Blk} {A B : List Blk} (h : Own M W w (x :: y :: (A ++ B))) : Own M W w (x :: y :: (B ++ A)) :=
  h.perm (List.Perm.cons x (List.Perm.cons y List.perm_append_comm))
theorem alts_le {l : List (List Co)} {i : Nat} (h : ∀ a ∈ l.take i, fewA a = true) : ∀ t ∈ (l.take i).map x3, t.length ≤ 1000000 := fun t ht => by
  obtain ⟨a, ha, rfl⟩ := List.mem_map.1 ht
  obtain ⟨h1, h2⟩ := fewA.facts (h a ha)
  unfold x3
  rw [joinB_len, List.length_map]
  have : ∀ (l : List Co), (∀ c ∈ l, c.may = true) → sumN ((l.map Co.print).map (·.length)) ≤ l.length * 300 := by
    intro l hl
    induction l with
    | nil => simp [sumN]
    | cons c l ih =>
      have h3 := m8 (hl c (List.mem_cons_self ..))
      have h4 := ih fun d hd => hl d (List.mem_cons_of_mem _ hd)
      rw [List.map_cons, List.map_cons, sumN, List.length_cons]; omega
  have := this a h2
  have h5 : (a.length - 1) * ([44, 32] : List UInt8).length ≤ 5 * 2 := Nat.mul_le_mul (by omega) (by simp)
  omega
theorem gtext_any (A : Option Addr) (cap : Nat) (xs : List Al) (W : World) (hv : RgIn W W.heap.size A xs) (ht : HasLib W) : Calls Tryz.prog 39 #[.agg #[.slice A xs.length cap]] W fun e w' => e = .returned (.string (mkS (wS (xA xs)))) ∧ Below W.heap.size W w' := by
  have hn := hv.n
  refine zP (n := 51) Tryz.func39 rfl (by kernel_rfl) (by kernel_rfl) (ZO (Zb (.agg #[.slice A xs.length cap]) (fun b1 => Zv (.string ⟨#[]⟩) (ZN (z6 (ZO (Zv (.pointer (some ⟨b1, 0, none⟩)) (Zl 0 ⟨b1, #[.slice A xs.length cap], 25⟩ (off := 0) (.slice A xs.length cap) ?_))))))))
  refine Zv (.int .i64 (xs.length : Int)) ?_
  by_cases h1 : (6 : Int) < (xs.length : Int)
  · refine zW (p := (6 : Int) < (xs.length : Int)) true (by kernel_rfl) (fun _ => by kernel_rfl) (decide_eq_true (h1)) ?_
    exact ZY (ZO (Zv (.string ⟨#[]⟩) (ZN (zB (z8 (ZF (.string ⟨#[]⟩) Tryz.results39 (fun w hO => ⟨by rw [textR_big (by omega)]; rfl, hO.below⟩)))))))
  refine Zd (p := (6 : Int) < (xs.length : Int)) false (decide_eq_false (h1)) (ZX (ZB (ZO (Zv (.slice none 0 0) (ZN (z6 ?_))))))
  refine ZO (Zv (.pointer (some ⟨b1, 0, none⟩)) (Zl 0 ⟨b1, #[.slice A xs.length cap], 25⟩ (off := 0) (.slice A xs.length cap) (Zv (.int .i64 (xs.length : Int)) (Zv (.int .i64 0) (ZN (zL (gF (L' := ⟨b1, #[.slice A xs.length cap], 25⟩ :: []) rfl (yP (fun L f m => ∃ (i : Nat) (U : Option Addr) (n : Nat) (cu : Nat) (ob : List Blk) (j : Nat → Value), (i ≤ xs.length ∧ (∀ x ∈ xs.take i, fewA x.l = true) ∧ SlT (.slice U n cu) (((xA xs).take i).map x3) ob) ∧ L = ⟨b1, #[.slice A xs.length cap], 25⟩ :: ob ∧ f = kG j [(1, .pointer (some ⟨b1, 0, none⟩)), (3, .slice U n cu), (14, .slice A xs.length cap), (15, .int .i64 (xs.length : Int)), (16, .int .i64 (i : Int))] ∧ m = xs.length - i) (xs.length - 0) ⟨0, none, 0, 0, [], _, ⟨Nat.zero_le _, by simp, Sl.nil _ _⟩, rfl, ZU, rfl⟩ ?_))))))))
  rintro L f m ⟨i, U, n, cu, ob, j, hrel, rfl, rfl, rfl⟩
  obtain ⟨hil, hff, hT⟩ := hrel
  refine z6 (z7 ?_)
  by_cases h2 : (i : Int) < (xs.length : Int)
  · have hi : i < xs.length := by omega
    obtain ⟨bp, off, hA, hlt, hcell⟩ := hv.top (by omega)
    obtain ⟨x, hx⟩ : ∃ x, xs[i] = x := ⟨_, rfl⟩
    have hxm : x ∈ xs := hx ▸ List.getElem_mem hi
    have hxn := hv.m x hxm
    have hxr : (xA xs)[i]'(by rw [kB]; exact hi) = x.l := fS hi hx
    refine Zd (p := (i : Int) < (xs.length : Int)) true (decide_eq_true (h2)) (ZN (z6 (Zt (ZB (z6 (zL (ZO (zV (.pointer (some ⟨bp, off + i * 1, none⟩)) (by kernel_rfl) (ZA (b := bp) (off := off) (c := cap) (n := xs.length) (k := .i64) (j := (i : Int)) (e := 47) (sz := 1) hA) ?_))))))))
    refine Zo (.slice x.A x.l.length x.cap) (a := ⟨bp, off + i * 1, none⟩) (fun w hO => y9 vO (fun j u h => (hO.below.cell (p := ⟨bp, off + j, none⟩) hlt).trans (hcell j u h)) i 0 hi (by omega) _ (by rw [hx]; kernel_rfl)) (Zv (.slice x.A x.l.length x.cap) (ZN (z6 (ZO (Zv (.slice x.A x.l.length x.cap) (Zv (.int .i64 (x.l.length : Int)) ?_))))))
    by_cases h3 : (x.l.length : Int) = 0
    · refine zW (p := (x.l.length : Int) = 0) true (by kernel_rfl) (fun _ => by kernel_rfl) (decide_eq_true (h3)) ?_
      refine Zv (.bool true) (Zk (Zk (Zk (Zv (.bool true) (ZY (ZO (Zv (.string ⟨#[]⟩) (zR ?_))))))))
      exact zA (zB (z8 (zG (z8 (yB (zG (z8 (ZF (.string ⟨#[]⟩) Tryz.results39 (fun w hO => ⟨by rw [textR_bad hxm (tQ (by omega))]; rfl, hO.below⟩)))))))))
    refine Zd (p := (x.l.length : Int) = 0) false (decide_eq_false (h3)) (Zv (.bool false) (Zv (.slice x.A x.l.length x.cap) (Zv (.int .i64 (x.l.length : Int)) ?_)))
    by_cases h4 : (6 : Int) < (x.l.length : Int)
    · refine zW (p := (6 : Int) < (x.l.length : Int)) true (by kernel_rfl) (fun _ => by kernel_rfl) (decide_eq_true (h4)) ?_
      refine Zv (.bool true) (ZY (ZO (Zv (.string ⟨#[]⟩) (ZN (zB (z8 (zG ?_)))))))
      exact z8 (yB (zG (z8 (ZF (.string ⟨#[]⟩) Tryz.results39 (fun w hO => ⟨by rw [textR_bad hxm (tQ (by omega))]; rfl, hO.below⟩)))))
    refine Zd (p := (6 : Int) < (x.l.length : Int)) false (decide_eq_false (h4)) (Zv (.bool false) (ZX (ZB (ZO (Zv (.slice none 0 0) (zR (zA ?_)))))))
    refine z6 (ZO (Zv (.slice x.A x.l.length x.cap) (Zv (.int .i64 (x.l.length : Int)) (Zv (.int .i64 0) (ZN (zL (gF (L' := ⟨b1, #[.slice A xs.length cap], 25⟩ :: ([] ++ ob)) rfl (yP (fun L f m => ∃ (k : Nat) (V : Option Addr) (np : Nat) (cv : Nat) (oa : List Blk) (j : Nat → Value), (k ≤ x.l.length ∧ (∀ c ∈ x.l.take k, c.may = true) ∧ SlT (.slice V np cv) ((x.l.take k).map Co.print) oa) ∧ L = ⟨b1, #[.slice A xs.length cap], 25⟩ :: (oa ++ ob) ∧ f = kG j [(1, .pointer (some ⟨b1, 0, none⟩)), (3, .slice U n cu), (14, .slice A xs.length cap), (15, .int .i64 (xs.length : Int)), (16, .int .i64 (i : Int)), (6, .slice V np cv), (28, .slice x.A x.l.length x.cap), (29, .int .i64 (x.l.length : Int)), (30, .int .i64 (k : Int))] ∧ m = x.l.length - k) (x.l.length - 0) ⟨0, none, 0, 0, [], _, ⟨Nat.zero_le _, by simp, Sl.nil _ _⟩, rfl, ZU, rfl⟩ ?_))))))))
    rintro L f m ⟨k, V, np, cv, oa, j, hrel, rfl, rfl, rfl⟩
    obtain ⟨hkl, hcf, hP⟩ := hrel
    refine z6 (z7 ?_)
    by_cases h5 : (k : Int) < (x.l.length : Int)
    · have hk : k < x.l.length := by omega
      obtain ⟨bq, off2, hA2, hlt2, hcell2⟩ := hv.each x hxm (by omega)
      obtain ⟨c, hc⟩ : ∃ c, x.l[k] = c := ⟨_, rfl⟩
      have hcm : c ∈ x.l := hc ▸ List.getElem_mem hk
      have hcS : c.short := hv.short x hxm c hcm
      refine Zd (p := (k : Int) < (x.l.length : Int)) true (decide_eq_true (h5)) (ZN (z6 (Zt (ZB (z6 (zL (ZO (zV (.pointer (some ⟨bq, off2 + k * 7, none⟩)) (by kernel_rfl) (ZA (b := bq) (off := off2) (c := x.cap) (n := x.l.length) (k := .i64) (j := (k : Int)) (e := 51) (sz := 7) hA2) ?_))))))))
      refine Zo (coV c) (a := ⟨bq, off2 + k * 7, none⟩) (fun w hO => y9 fA (fun j u h => (hO.below.cell (p := ⟨bq, off2 + j, none⟩) hlt2).trans (hcell2 j u h)) k 0 hk (by omega) _ (by rw [hc]; kernel_rfl)) (Za (.agg #[.int .i64 0, .int .i64 0, .int .i64 0, .int .i64 0, .int .i64 0, .string ⟨#[]⟩, .string ⟨#[]⟩]) (fun b2 => Zs 0 ⟨b2, #[.int .i64 0, .int .i64 0, .int .i64 0, .int .i64 0, .int .i64 0, .string ⟨#[]⟩, .string ⟨#[]⟩], 51⟩ (off := 0) (coV c) (ZN (z6 (ZO (Zl 0 ⟨b2, (coV c).cells, 51⟩ (off := 0) (coV c) (Zc (k := 73) (args := #[coV c]) (.bool c.may) (fun w _ => tU c w hcS) ?_)))))))
      cases h6 : c.may with
      | true =>
        refine Zv (.bool false) (ZX (ZB (z7 (Zv (.slice V np cv) (Zl 0 ⟨b2, (coV c).cells, 51⟩ (off := 0) (coV c) (Zc (k := 64) (args := #[coV c]) (.string (mkS c.print)) (fun w hO => pN c w hcS (ht.tab.on hO.below)) (qZ 9 #[.string (mkS c.print)] (by kernel_rfl) rfl (fun _ => by kernel_rfl) (fun b3 => ?_))))))))
        have hpl0 : ((x.l.take k).map Co.print).length ≤ 6 := by rw [List.length_map, List.length_take]; omega
        obtain ⟨i1, z1, e11, e12, e13, e14, e15⟩ := fL
        refine kA (L' := [⟨b3, #[.string (mkS c.print)], 9⟩, ⟨b2, (coV c).cells, 51⟩, ⟨b1, #[.slice A xs.length cap], 25⟩] ++ oa ++ (ob)) (by simp <;> rfl) (gJ (sz := 1) (by kernel_rfl) rfl Tryz.underlying58 e11 e12 e13 e14 (by kernel_rfl) hP (a := ⟨b3, 0, none⟩) (m := 1) (c := 1) (news := pY c.print) (by kernel_rfl) rfl (fun w hO j u hj => ?_) (fun u hu => by rw [List.mem_singleton.1 hu]; rfl) (by unfold maxLen; omega) (by rw [e15]; omega) (fun w1 oa2 hu1 => ?_))
        · rw [yM, cell_of_row w b3 (0 + j) (pY c.print).toArray 9 _ (hO.held ⟨b3, (pY c.print).toArray, 9⟩ (List.mem_append_left _ (List.mem_append_left _ (List.mem_cons_self ..))))]; simpa using hj
        have hP2 : SlT w1 (((x.l.take k).map Co.print) ++ [c.print]) oa2 := SlT.add hu1
        obtain ⟨V2, cv2, rfl⟩ := hP2.form
        exact Zv (.slice V2 ((((x.l.take k).map Co.print) ++ [c.print]).length) cv2) (zR (zT (zA (z7 (Zu (k := .i64) (((k + 1 : Nat) : Int)) (IntWalk.i64_in _ (by omega)) (Zv (.int .i64 ((k + 1 : Nat) : Int)) (zR (kC (fun w hO => own_tx1 hO) (zU (m' := x.l.length - (k + 1)) (by omega) ⟨k + 1, V2, (((x.l.take k).map Co.print) ++ [c.print]).length, cv2, oa2, _, ⟨by omega, pX hcf hk hc (by assumption), by rw [List.take_succ_eq_append_getElem hk, hc, List.map_append]; exact hP2⟩, rfl, ZU, rfl⟩)))))))))
      | false =>
        refine Zv (.bool true) (ZY (ZO (Zv (.string ⟨#[]⟩) (ZN (zB (z8 (zG ?_)))))))
        exact z8 (yB (zG (z8 (zG (z8 (yB (zG (z8 (ZF (.string ⟨#[]⟩) Tryz.results39 (fun w hO => ⟨by rw [textR_bad hxm (fewA_one hcm (by assumption))]; rfl, hO.below⟩))))))))))
    have hal2 : ∀ c ∈ x.l, c.may = true := by have q := hcf; rwa [List.take_of_length_le (by omega)] at q
    have hfx : fewA x.l = true := fewA_all ⟨by omega, by omega⟩ hal2
    have htk2 : x.l.take k = x.l := List.take_of_length_le (by omega)
    have hpl := hP.caps
    rw [htk2] at hP hpl
    have htl := hT.caps
    refine Zd (p := (k : Int) < (x.l.length : Int)) false (decide_eq_false (h5)) (ZN (z6 (Zf (y8 (zC (zN (zI (zA (z7 (Zv (.slice U n cu) ?_))))))))))
    refine Zv (.slice V np cv) (Zc (k := 74) (args := #[.slice V np cv, .string ⟨#[44, 32]⟩]) (.string (mkS (x3 x.l))) (fun w hO => by rw [hpl.1]; exact sjoin_any [44, 32] (x.l.map Co.print) V cv w (SlT.reads hP hpl.1.symm hO (fun x hx => by simp [hx])) (by decide) (by decide) (by rw [List.length_map]; omega) (fun t ht => by obtain ⟨c, hc, rfl⟩ := List.mem_map.1 ht; exact Nat.le_trans (m8 (hal2 c hc)) (by decide)) hpl.2) (qZ 9 #[.string (mkS (x3 x.l))] (by kernel_rfl) rfl (fun _ => by kernel_rfl) (fun b2 => ?_)))
    have hal0 : (((xA xs).take i).map x3).length ≤ 6 := by rw [List.length_map, List.length_take, kB]; omega
    refine vZ (L' := ⟨b2, #[.string (mkS (x3 x.l))], 9⟩ :: ⟨b1, #[.slice A xs.length cap], 25⟩ :: (ob ++ oa)) (fun w hO => own_tx3 hO) ?_
    obtain ⟨i2, z2, e21, e22, e23, e24, e25⟩ := fL
    refine kA (L' := [⟨b2, #[.string (mkS (x3 x.l))], 9⟩, ⟨b1, #[.slice A xs.length cap], 25⟩] ++ ob ++ (oa)) (by simp <;> rfl) (gJ (sz := 1) (by kernel_rfl) rfl Tryz.underlying58 e21 e22 e23 e24 (by kernel_rfl) hT (a := ⟨b2, 0, none⟩) (m := 1) (c := 1) (news := pY (x3 x.l)) (by kernel_rfl) rfl (fun w hO j u hj => ?_) (fun u hu => by rw [List.mem_singleton.1 hu]; rfl) (by unfold maxLen; omega) (by rw [e25]; omega) (fun w2 ob2 hu2 => ?_))
    · rw [yM, cell_of_row w b2 (0 + j) (pY (x3 x.l)).toArray 9 _ (hO.held ⟨b2, (pY (x3 x.l)).toArray, 9⟩ (List.mem_append_left _ (List.mem_append_left _ (List.mem_cons_self ..))))]; simpa using hj
    have hT2 : SlT w2 ((((xA xs).take i).map x3) ++ [x3 x.l]) ob2 := SlT.add hu2
    obtain ⟨U2, cu2, rfl⟩ := hT2.form
    exact Zv (.slice U2 (((((xA xs).take i).map x3) ++ [x3 x.l]).length) cu2) (zR (zT (zA (z7 (Zu (k := .i64) (((i + 1 : Nat) : Int)) (IntWalk.i64_in _ (by omega)) (Zv (.int .i64 ((i + 1 : Nat) : Int)) (zR (kC (fun w hO => own_tx2 hO) (zU (m' := xs.length - (i + 1)) (by omega) ⟨i + 1, U2, ((((xA xs).take i).map x3) ++ [x3 x.l]).length, cu2, ob2, _, ⟨by omega, pX hff hi hx hfx, by rw [List.take_succ_eq_append_getElem (by rw [kB]; exact hi), hxr, List.map_append]; exact hT2⟩, rfl, ZU, rfl⟩)))))))))
  have hall : ∀ x ∈ xs, fewA x.l = true := by have q := hff; rwa [List.take_of_length_le (by omega)] at q
  have htk : (xA xs).take i = xA xs := List.take_of_length_le (by rw [kB]; omega)
  have htl := hT.caps
  rw [htk] at hT htl
  refine Zd (p := (i : Int) < (xs.length : Int)) false (decide_eq_false (h2)) (ZN (z6 (Zf (y8 (zC (zN (zI (zA (z6 (z7 ?_))))))))))
  exact Zv (.slice U n cu) (Zc (k := 74) (args := #[.slice U n cu, .string ⟨#[32, 124, 124, 32]⟩]) (.string (mkS (xI (xA xs)))) (fun w hO => by rw [htl.1]; exact sjoin_any [32, 124, 124, 32] ((xA xs).map x3) U cu w (SlT.reads hT htl.1.symm hO (fun x hx => by simp [hx])) (by decide) (by decide) (by rw [List.length_map, kB]; omega) (by have q := alts_le (l := xA xs) (i := xs.length) (fun a ha => by obtain ⟨x, hx, rfl⟩ := List.mem_map.1 (List.mem_of_mem_take ha); exact hall x hx); rwa [List.take_of_length_le (by rw [kB]; exact Nat.le_refl _)] at q) htl.2) (Zv (.string (mkS (xI (xA xs)))) (ZN (zB (ZF (.string (mkS (xI (xA xs)))) Tryz.results39 (fun w hO => ⟨by rw [textR_few (by omega) hall], hO.below⟩))))))
theorem f8 (A : Option Addr) (cap : Nat) (xs : List Al) (W : World) (hv : RgIn W W.heap.size A xs) (ht : HasLib W) : Calls Tryz.prog 21 #[.agg #[.slice A xs.length cap]] W fun e w' => e = .returned (.string (mkS (vJ (xA xs)))) ∧ Below W.heap.size W w' := by
  obtain ⟨t, et⟩ : ∃ t, wS (xA xs) = t := ⟨_, rfl⟩
  have hsz := xP t
  refine zP (n := 10) Tryz.func21 rfl (by kernel_rfl) (by kernel_rfl) (ZO (Zb (.agg #[.slice A xs.length cap]) (fun b1 => Zv (.string ⟨#[]⟩) (ZR (Zl 0 ⟨b1, #[.slice A xs.length cap], 25⟩ (off := 0) (.agg #[.slice A xs.length cap]) (Zc (k := 39) (args := #[.agg #[.slice A xs.length cap]]) (.string (mkS t)) (fun w hO => wA (by rw [et]) (gtext_any A cap xs w (hv.on hO.below hO.below.size) (ht.on hO.below))) (Zv (.string (mkS t)) ?_)))))))
  refine ZN (z6 (ZO (Zv (.string (mkS t)) (Zv (.int .i64 ((mkS t).size)) ?_))))
  by_cases h1 : (96 : Int) < (mkS t).size
  · refine zW (p := (96 : Int) < (mkS t).size) true (by kernel_rfl) (fun _ => by kernel_rfl) (decide_eq_true (h1)) ?_
    exact ZY (ZO (Zv (.string ⟨#[]⟩) (ZN (zB (z8 (ZF (.string ⟨#[]⟩) Tryz.results21 (fun w hO => ⟨by rw [print_text, et, if_pos (by omega)]; rfl, hO.below⟩)))))))
  refine Zd (p := (96 : Int) < (mkS t).size) false (decide_eq_false (h1)) (ZX (ZB (ZO (Zv (.string (mkS t)) (Zv (.string (mkS t)) (zR (zA ?_)))))))
  exact zB (ZF (.string (mkS t)) Tryz.results21 (fun w hO => ⟨by rw [print_text, et, if_neg (by omega)], hO.below⟩))
theorem gMay_any (A : Option Addr) (cap : Nat) (xs : List Al) (W : World) (hv : RgIn W W.heap.size A xs) (ht : HasLib W) : Calls Tryz.prog 19 #[.agg #[.slice A xs.length cap]] W fun e w' => e = .returned (.bool (rgMay (xA xs))) ∧ Below W.heap.size W w' := by
  obtain ⟨t, et⟩ : ∃ t, vJ (xA xs) = t := ⟨_, rfl⟩
  refine zP (n := 6) Tryz.func19 rfl (by kernel_rfl) (by kernel_rfl) (ZO (Zb (.agg #[.slice A xs.length cap]) (fun b1 => Zv (.bool false) (ZR (Zl 0 ⟨b1, #[.slice A xs.length cap], 25⟩ (off := 0) (.agg #[.slice A xs.length cap]) (Zc (k := 21) (args := #[.agg #[.slice A xs.length cap]]) (.string (mkS t)) (fun w hO => wA (by rw [et]) (f8 A cap xs w (hv.on hO.below hO.below.size) (ht.on hO.below))) ?_))))))
  by_cases h1 : (t : List UInt8) = []
  · refine zV (.bool false) (by kernel_rfl) (xB (a := t) (b := ([])) rfl (by kernel_rfl) (by kernel_rfl) (decide_eq_true (h1))) ?_
    exact Zv (.bool false) (ZN (zB (ZF (.bool false) Tryz.results19 (fun w hO => ⟨by rw [(print_nil (xA xs)).1 (et.trans (by assumption))], hO.below⟩))))
  exact zV (.bool true) (by kernel_rfl) (xB (a := t) (b := ([])) rfl (by kernel_rfl) (by kernel_rfl) (decide_eq_false (h1))) (Zv (.bool true) (ZN (zB (ZF (.bool true) Tryz.results19 (fun w hO => ⟨by rw [show rgMay (xA xs) = true from by cases hm : rgMay (xA xs) with | true => rfl | false => exact absurd (et.symm.trans ((print_nil (xA xs)).2 hm)) (by assumption)], hO.below⟩)))))
end
section
structure Se where
  A : Option Addr
  B : Option Addr
  s : St
  c : Nat
  d : Nat
def seC (x : Se) : List Value := [.slice x.A x.s.rel.length x.c, .slice x.B x.s.pre.length x.d]
def seV (x : Se) : Value := .agg #[.slice x.A x.s.rel.length x.c, .slice x.B x.s.pre.length x.d]
theorem seC_len (x : Se) : (seC x).length = 2 := rfl
theorem se_cells (x : Se) : ∀ u ∈ seC x, u.oneCell' = true := by
  intro u hu
  unfold seC at hu
  simp only [List.mem_cons, List.not_mem_nil, or_false] at hu
  rcases hu with rfl | rfl <;> rfl
theorem seInfo : (Tryz.prog.info? 31).map (fun i => (i.zero.map (·.cells.size), i.size, i.bytes)) = some (some 2, 2, 48) := by kernel_rfl
theorem se_info : ∃ i z, Tryz.prog.info? 31 = some i ∧ i.zero = some z ∧ i.size = 2 ∧ z.cells.size = 2 ∧ i.bytes = 48 := by
  have h := seInfo
  cases hi : Tryz.prog.info? 31 with
  | none => rw [hi] at h; cases h
  | some i =>
    rw [hi] at h
    simp only [Option.map_some, Option.some.injEq, Prod.mk.injEq] at h
    cases hz : i.zero with
    | none => rw [hz] at h; simp at h
    | some z => rw [hz] at h; simp at h; exact ⟨i, z, rfl, hz, h.2.1, h.1, h.2.2⟩
structure SsIn (w : World) (B : Nat) (A : Option Addr) (xs : List Se) : Prop where
  top : Reads seC w B A xs
  each : ∀ x ∈ xs, SetIn w B x.A x.B x.s
  caps : ∀ x ∈ xs, x.s.rel.length ≤ x.c ∧ x.s.pre.length ≤ x.d
structure SsO (u : Value) (xs : List Se) (o1 o2 : List Blk) : Prop where
  top : Sl 31 2 u xs.length (xs.flatMap seC) o1
  each : ∀ x ∈ xs, ∃ o, (∀ b ∈ o, b ∈ o2) ∧ SetO (.agg #[.slice x.A x.s.rel.length x.c, .slice x.B x.s.pre.length x.d]) x.s o
theorem SsO.nil : SsO (.slice none 0 0) [] [] [] := ⟨Sl.nil _ _, fun x hx => by simp at hx⟩
theorem SsO.add {u u2 : Value} {xs : List Se} {o1 o2 o3 oa : List Blk} {A B : Option Addr} {c d : Nat} {s : St} (h : SsO u xs o1 o2) (h2 : Sl 31 2 u2 (xs.length + 1) (xs.flatMap seC ++ seC ⟨A, B, s, c, d⟩) o3) (ha : SetO (.agg #[.slice A s.rel.length c, .slice B s.pre.length d]) s oa) : SsO u2 (xs ++ [⟨A, B, s, c, d⟩]) o3 (oa ++ o2) :=
  ⟨h2.to (by simp) (by simp), fun x hx => by
    rcases List.mem_append.1 hx with hx | hx
    · obtain ⟨o, k1, k2⟩ := h.each x hx
      exact ⟨o, fun b hb => List.mem_append_right _ (k1 b hb), k2⟩
    · obtain rfl := List.mem_singleton.1 hx
      exact ⟨oa, fun b hb => List.mem_append_left _ hb, ha⟩⟩
theorem SsO.inn {A : Option Addr} {n cap : Nat} {xs : List Se} {o1 o2 L : List Blk} {M : List Nat} {W w : World} (h : SsO (.slice A n cap) xs o1 o2) (hn : xs.length = n) (hO : Own M W w L) (h1 : ∀ x ∈ o1, x ∈ L) (h2 : ∀ x ∈ o2, x ∈ L) (hf : ∀ x ∈ xs, SF x.s 198) : SsIn w w.heap.size A xs := by
  subst hn
  refine ⟨Sl.reads h.top rfl hO h1, fun x hx => ?_, fun x hx => ?_⟩
  · obtain ⟨o, k1, k2⟩ := h.each x hx
    exact SetO.inn k2 hO (fun b hb => h2 b (k1 b hb)) (hf x hx) (by decide)
  · obtain ⟨o, k1, k2⟩ := h.each x hx
    exact k2.caps
theorem se_at {xs : List Se} {r : List (List Co)} (hr : xs.map Se.s = r.map x8) {k : Nat} (hk : k < xs.length) (hk2 : k < r.length) {x : Se} (hx : xs[k] = x) : x8 r[k] = x.s := by
  have q1 := List.getElem_of_eq hr (i := k) (by rw [List.length_map]; exact hk)
  rw [List.getElem_map, List.getElem_map, hx] at q1
  exact q1.symm
theorem fin_alts {r : List (List Co)} (h : fewR r = true) : ∀ s ∈ r.map x8, SF s 198 := fun s hs => by
  obtain ⟨a, ha, rfl⟩ := List.mem_map.1 hs
  exact (dJ a).le (by have := (fewA.facts ((fewR.facts h).2 a ha)).1; omega)
end
section
theorem sub0 {P : Program} {ρ : Operand → Value} {o : Oper} (k : Nat) (hr : ∀ w, (execOp ρ o).run P w = .ok (.value (.int .i64 (IntKind.i64.wrap ((k : Int) - 0)))) w) (hk : (k : Int) ≤ 9223372036854775807) (w : World) : (execOp ρ o).run P w = .ok (.value (.int .i64 (k : Int))) w := by
  rw [hr w, Int.sub_zero, IntWalk.i64_in _ (by omega)]
theorem grow4_any (k : Nat) (W : World) (hk : k ≤ 600000) :
    Calls Tryz.prog 180 #[.slice none 0 0, .int .i64 (k : Int)] W fun e w' => ∃ v' ob', e = .returned v' ∧ SlS v' [] ob' ∧ Own [] W w' ob' := by
  refine zP (n := 27) Tryz.func180 rfl (by kernel_rfl) (by kernel_rfl) (ZO (Zv (.slice none 0 0) (ZN (z6 (ZO (Zv (.int .i64 (k : Int)) (Zd (p := (k : Int) < 0) false (decide_eq_false (by omega)) (zR ?_))))))))
  refine zA (Zf (ZB (z6 (ZO (Zv (.int .i64 (k : Int)) (Zv (.slice none 0 0) (Zv (.int .i64 (0 : Int)) (Zv (.slice none 0 0) (Zv (.int .i64 (0 : Int)) ?_)))))))))
  refine Zv (.int .i64 0) (zV (.int .i64 (k : Int)) (by kernel_rfl) (fun w => sub0 k (fun _ => by kernel_rfl) (by omega) w) (Zv (.int .i64 (k : Int)) (ZR (Zv (.int .i64 (k : Int)) ?_))))
  by_cases h1 : (0 : Int) < (k : Int)
  · refine zW (p := (0 : Int) < (k : Int)) true (by kernel_rfl) (fun _ => by kernel_rfl) (decide_eq_true (h1)) ?_
    refine ZY (z7 (Zv (.slice none 0 0) (Zv (.slice none 0 0) (Zv (.int .i64 (0 : Int)) (Zv (.slice none 0 0) (Zv (.int .i64 (k : Int)) ?_))))))
    obtain ⟨i, z, e1, e2, e3, e4, e5⟩ := gP
    refine s_append0 (sz := 14) (k := k) (by kernel_rfl) rfl (by kernel_rfl) (by kernel_rfl) Tryz.underlying29 Tryz.underlying3 e1 e2 e3 e4 (by omega) (by decide) (by unfold maxLen; omega) (by rw [e5]; omega) (fun b cs cap hcs hkc hcm => Zv (.slice none 0 0) (Zv (.int .i64 (0 : Int)) (zV (.slice (some ⟨b, 0, none⟩) 0 cap) (by kernel_rfl) (fP (b := b) (off := 0) (n := k) (c := cap) (k := .i64) (j := 0) (e := 80) (sz := 14) rfl (by kernel_rfl) (by kernel_rfl) (by kernel_rfl) (by kernel_rfl) (by omega) (by omega)) (Zv (.slice (some ⟨b, 0, none⟩) 0 cap) (ZR (Zv (.slice (some ⟨b, 0, none⟩) 0 cap) (Zv (.slice (some ⟨b, 0, none⟩) 0 cap) (zR ?_))))))))
    exact zA (zB (ZF (.slice (some ⟨b, 0, none⟩) 0 cap) Tryz.results180 (fun w hO => ⟨_, [⟨b, cs, 80⟩], rfl, ⟨rfl, .inr ⟨b, cap, cs, rfl, rfl, Nat.zero_le _, hcm, hcs, by simp⟩⟩, hO⟩)))
  refine Zd (p := (0 : Int) < (k : Int)) false (decide_eq_false (h1)) (ZX (ZB (ZO (Zv (.slice none 0 0) (Zv (.slice none 0 0) (zR (zA ?_)))))))
  exact zB (ZF (.slice none 0 0) Tryz.results180 (fun w hO => ⟨_, [], rfl, Sl.nil _ _, by simpa using hO⟩))
end
section
theorem tH {P : Program} {ty : TypeId} {w : World} {b o : Nat} {v : Value} (hc : w.cell? ⟨b, o, none⟩ = some v) (hr : kN P ty [v].toArray 0 = some v) : (loadVar ty ⟨b, o, none⟩).run P w = .ok v w :=
  old_load [v] v (fun j u h => by
    cases j with
    | zero => simp only [List.getElem?_cons_zero, Option.some.injEq] at h; rw [← h]; exact hc
    | succ j => simp at h) hr
theorem concat4_any (A B : Option Addr) (cap capb : Nat) (a b : List Sp) (W : World) (hv : Reads yW W W.heap.size A a) (hu : Reads yW W W.heap.size B b) (hn : a.length ≤ 100000) (hm : b.length ≤ 100000) (g : Nat) (hg : W.heap[g]? = some (.cells #[.slice A a.length cap, .slice B b.length capb] 29)) :
    Calls Tryz.prog 137 #[.slice (some ⟨g, 0, none⟩) 2 2] W fun e w' => ∃ v' ob', e = .returned v' ∧ SlS v' (a ++ b) ob' ∧ Own [] W w' ob' := by
  have hglt : g < W.heap.size := (Array.getElem?_eq_some_iff.1 hg).1
  have hcell : ∀ j u, (#[.slice A a.length cap, .slice B b.length capb] : Array Value).toList[j]? = some u → W.cell? ⟨g, 0 + j, none⟩ = some u := fun j u h => by rw [cell_of_row W g (0 + j) _ _ _ hg]; simpa using h
  refine zP (n := 36) Tryz.func137 rfl (by kernel_rfl) (by kernel_rfl) (ZO (Zv (.slice none 0 0) (ZR (Zv (.int .i64 0) (ZN (z6 ?_))))))
  refine ZO (Zv (.slice (some ⟨g, 0, none⟩) 2 2) (Zv (.int .i64 (2 : Int)) (Zv (.int .i64 0) (ZN (zL (yP (fun L f m => (∃  (j : Nat → Value), (True) ∧ L = [] ∧ f = kG j [(0, .slice (some ⟨g, 0, none⟩) 2 2), (3, .int .i64 0), (9, .slice (some ⟨g, 0, none⟩) 2 2), (10, .int .i64 2), (11, .int .i64 0)] ∧ m = 3) ∨ (∃  (j : Nat → Value), (True) ∧ L = [] ∧ f = kG j [(0, .slice (some ⟨g, 0, none⟩) 2 2), (3, .int .i64 ((0 + a.length : Nat) : Int)), (9, .slice (some ⟨g, 0, none⟩) 2 2), (10, .int .i64 2), (11, .int .i64 1)] ∧ m = 2) ∨ (∃  (j : Nat → Value), (True) ∧ L = [] ∧ f = kG j [(0, .slice (some ⟨g, 0, none⟩) 2 2), (3, .int .i64 ((0 + a.length + b.length : Nat) : Int)), (9, .slice (some ⟨g, 0, none⟩) 2 2), (10, .int .i64 2), (11, .int .i64 2)] ∧ m = 1)) 3 (.inl ⟨_, trivial, rfl, ZU, rfl⟩) ?_))))))
  rintro L f m (⟨j, hrel, rfl, rfl, rfl⟩ | ⟨j, hrel, rfl, rfl, rfl⟩ | ⟨j, hrel, rfl, rfl, rfl⟩)
  · refine z6 ?_
    refine z7 (Zv (.bool true) (ZN (z6 (Zt (ZB (z6 (zL (z6 (z7 ?_)))))))))
    refine zV (.pointer (some ⟨g, 0, none⟩)) (by kernel_rfl) (ZV (b := g) (off := 0) (n := 2) (c := 2) (k := .i64) (j := 0) (e := 29) (sz := 1)) (Zo (.slice A a.length cap) (a := ⟨g, 0, none⟩) (fun w hO => tH ((hO.below.cell (p := ⟨g, 0, none⟩) hglt).trans (by simpa using hcell 0 _ rfl)) (by kernel_rfl)) (Zv (.slice A a.length cap) (ZR (Zv (.int .i64 0) (Zv (.slice A a.length cap) (Zv (.int .i64 (a.length : Int)) (Zu (k := .i64) (((0 + a.length : Nat) : Int)) (IntWalk.i64_in _ (by omega)) (Zv (.int .i64 ((0 + a.length : Nat) : Int)) ?_))))))))
    refine ZR (Zv (.int .i64 ((0 + a.length : Nat) : Int)) (Zd (p := ((0 + a.length : Nat) : Int) < 0) false (decide_eq_false (by omega)) (ZX (x5 (zT (zA ?_))))))
    exact z7 (Zv (.int .i64 1) (Zv (.int .i64 1) (zR (zU (m' := 2) (by decide) (.inr (.inl ⟨_, trivial, rfl, ZU, rfl⟩))))))
  · refine z6 ?_
    refine z7 (Zv (.bool true) (ZN (z6 (Zt (ZB (z6 (zL (z6 (z7 ?_)))))))))
    refine zV (.pointer (some ⟨g, 1, none⟩)) (by kernel_rfl) (ZV (b := g) (off := 0) (n := 2) (c := 2) (k := .i64) (j := 1) (e := 29) (sz := 1)) (Zo (.slice B b.length capb) (a := ⟨g, 1, none⟩) (fun w hO => tH ((hO.below.cell (p := ⟨g, 1, none⟩) hglt).trans (by simpa using hcell 1 _ rfl)) (by kernel_rfl)) (Zv (.slice B b.length capb) (ZR (Zv (.int .i64 ((0 + a.length : Nat) : Int)) (Zv (.slice B b.length capb) (Zv (.int .i64 (b.length : Int)) (Zu (k := .i64) (((0 + a.length + b.length : Nat) : Int)) (IntWalk.i64_in _ (by omega)) (Zv (.int .i64 ((0 + a.length + b.length : Nat) : Int)) ?_))))))))
    refine ZR (Zv (.int .i64 ((0 + a.length + b.length : Nat) : Int)) (Zd (p := ((0 + a.length + b.length : Nat) : Int) < 0) false (decide_eq_false (by omega)) (ZX (x5 (zT (zA ?_))))))
    exact z7 (Zv (.int .i64 2) (Zv (.int .i64 2) (zR (zU (m' := 1) (by decide) (.inr (.inr (⟨_, trivial, rfl, ZU, rfl⟩)))))))
  refine ZO (Zv (.bool false) (ZN (z6 (Zf (y8 (zC (zN (zI (zA ?_)))))))))
  refine ZO (Zv (.int .i64 ((0 + a.length + b.length : Nat) : Int)) (yE (k := 180) (args := #[.slice none 0 0, .int .i64 ((0 + a.length + b.length : Nat) : Int)]) (fun v' L' => SlS v' [] L') (by kernel_rfl) (fun _ => by kernel_rfl) (fun w hO => (grow4_any (0 + a.length + b.length) w (by omega)).mono fun e w' ⟨v', ob', h1, h2, h3⟩ => ⟨v', ob', h1, h2, by simpa using Own.joinN hO h3⟩) (fun v0 o0 hv0 => kA (L' := o0 ++ []) (List.append_nil _).symm (Zv (v0) (ZN (z6 (ZO (Zv (.slice (some ⟨g, 0, none⟩) 2 2) ?_))))))))
  refine Zv (.int .i64 (2 : Int)) (Zv (.int .i64 0) (ZN (zL (yP (fun L f m => (∃ (v : Value) (oq : List Blk) (j : Nat → Value), (SlS v ([]) oq) ∧ L = oq ++ [] ∧ f = kG j [(6, v), (25, .slice (some ⟨g, 0, none⟩) 2 2), (26, .int .i64 2), (27, .int .i64 0)] ∧ m = 3) ∨ (∃ (v : Value) (oq : List Blk) (j : Nat → Value), (SlS v (a) oq) ∧ L = oq ++ [] ∧ f = kG j [(6, v), (25, .slice (some ⟨g, 0, none⟩) 2 2), (26, .int .i64 2), (27, .int .i64 1)] ∧ m = 2) ∨ (∃ (v : Value) (oq : List Blk) (j : Nat → Value), (SlS v (a ++ b) oq) ∧ L = oq ++ [] ∧ f = kG j [(6, v), (25, .slice (some ⟨g, 0, none⟩) 2 2), (26, .int .i64 2), (27, .int .i64 2)] ∧ m = 1)) 3 (.inl ⟨_, _, _, hv0, rfl, ZU, rfl⟩) ?_))))
  rintro L f m (⟨v, oq, j, hrel, rfl, rfl, rfl⟩ | ⟨v, oq, j, hrel, rfl, rfl, rfl⟩ | ⟨v, oq, j, hrel, rfl, rfl, rfl⟩)
  · unfold SlS at hrel
    refine ZO (Zv (.bool true) (ZN (z6 (Zt (ZB (z6 (zL (z6 ?_))))))))
    refine z7 (zV (.pointer (some ⟨g, 0, none⟩)) (by kernel_rfl) (ZV (b := g) (off := 0) (n := 2) (c := 2) (k := .i64) (j := 0) (e := 29) (sz := 1)) (Zo (.slice A a.length cap) (a := ⟨g, 0, none⟩) (fun w hO => tH ((hO.below.cell (p := ⟨g, 0, none⟩) hglt).trans (by simpa using hcell 0 _ rfl)) (by kernel_rfl)) (Zv (.slice A a.length cap) (ZN (z7 (Zv (v) (Zv (.slice A a.length cap) ?_)))))))
    obtain ⟨i, z, e1, e2, e3, e4, e5⟩ := gP
    refine kA (L' := [] ++ oq ++ []) (by simp) (jU (E := []) (ob := oq) (L0 := []) (sz := 14) (l := a) (A := A) (c := cap) zX (by kernel_rfl) rfl Tryz.underlying29 e1 e2 e3 e4 (by kernel_rfl) hrel (by kernel_rfl) (fun w hO => hv.on hO.below hO.size) kM (by unfold maxLen; first | (simp; omega) | omega) (by rw [e5]; first | (simp; omega) | omega) (fun va oa hva => kA (L' := oa ++ []) (by simp) ?_))
    have hva2 : SlS va (a) oa := hva.to (by simp) (by simp)
    exact Zv (va) (zR (zT (zA (z7 (Zv (.int .i64 1) (Zv (.int .i64 1) (zR (zU (m' := 2) (by decide) (.inr (.inl ⟨va, oa, _, hva2, rfl, ZU, rfl⟩))))))))))
  · unfold SlS at hrel
    refine ZO (Zv (.bool true) (ZN (z6 (Zt (ZB (z6 (zL (z6 ?_))))))))
    refine z7 (zV (.pointer (some ⟨g, 1, none⟩)) (by kernel_rfl) (ZV (b := g) (off := 0) (n := 2) (c := 2) (k := .i64) (j := 1) (e := 29) (sz := 1)) (Zo (.slice B b.length capb) (a := ⟨g, 1, none⟩) (fun w hO => tH ((hO.below.cell (p := ⟨g, 1, none⟩) hglt).trans (by simpa using hcell 1 _ rfl)) (by kernel_rfl)) (Zv (.slice B b.length capb) (ZN (z7 (Zv (v) (Zv (.slice B b.length capb) ?_)))))))
    obtain ⟨i, z, e1, e2, e3, e4, e5⟩ := gP
    refine kA (L' := [] ++ oq ++ []) (by simp) (jU (E := []) (ob := oq) (L0 := []) (sz := 14) (l := b) (A := B) (c := capb) zX (by kernel_rfl) rfl Tryz.underlying29 e1 e2 e3 e4 (by kernel_rfl) hrel (by kernel_rfl) (fun w hO => hu.on hO.below hO.size) kM (by unfold maxLen; first | (simp; omega) | omega) (by rw [e5]; first | (simp; omega) | omega) (fun va oa hva => kA (L' := oa ++ []) (by simp) ?_))
    have hva2 : SlS va (a ++ b) oa := hva.to (by simp) (by simp)
    exact Zv (va) (zR (zT (zA (z7 (Zv (.int .i64 2) (Zv (.int .i64 2) (zR (zU (m' := 1) (by decide) (.inr (.inr (⟨va, oa, _, hva2, rfl, ZU, rfl⟩)))))))))))
  unfold SlS at hrel
  refine ZO (Zv (.bool false) (ZN (z6 (Zf (y8 (zC (zN (zI (zA ?_)))))))))
  exact ZO (Zv (v) (Zv (v) (ZN (zB (ZF (v) Tryz.results137 (fun w hO => ⟨v, oq, rfl, hrel, by simpa using hO⟩))))))
theorem or4_any (A B : Option Addr) (cap capb : Nat) (a b : List Sp) (W : World) (hv : Reads yW W W.heap.size A a) (hu : Reads yW W W.heap.size B b) (hn : a.length ≤ 100000) (hm : b.length ≤ 100000) (ha : yY a) (hb : yY b) :
    Calls Tryz.prog 83 #[.slice A a.length cap, .slice B b.length capb] W fun e w' => ∃ v' ob', e = .returned v' ∧ SlS v' (if zK a && zK b then orL a b else []) ob' ∧ Own [] W w' ob' := by
  refine zP (n := 24) Tryz.func83 rfl (by kernel_rfl) (by kernel_rfl) (ZO (Zv (.slice none 0 0) (ZN (z6 (ZO (Zv (.slice A a.length cap) (Zc (k := 129) (args := #[.slice A a.length cap]) (.bool (zK a)) (fun w hO => jK A cap a w (hv.on hO.below hO.size) (by omega) ha) ?_)))))))
  cases h1 : zK a with
  | true =>
    refine Zv (.bool false) (Zv (.bool false) (Zv (.slice B b.length capb) (Zc (k := 129) (args := #[.slice B b.length capb]) (.bool (zK b)) (fun w hO => jK B capb b w (hu.on hO.below hO.size) (by omega) hb) ?_)))
    cases h2 : zK b with
    | true =>
      refine Zv (.bool false) (Zv (.bool false) (ZX (ZB (ZO (Zv (.slice A a.length cap) (Zv (.slice B b.length capb) (qZ 29 #[.slice A a.length cap, .slice B b.length capb] (by kernel_rfl) rfl (fun _ => by kernel_rfl) (fun b1 => ?_))))))))
      refine yE (k := 137) (args := #[.slice (some ⟨b1, 0, none⟩) 2 2]) (fun v' L' => SlS v' (a ++ b) L') (by kernel_rfl) (fun _ => by kernel_rfl) (fun w hO => (concat4_any A B cap capb a b w (hv.on hO.below hO.size) (hu.on hO.below hO.size) hn hm b1 (hO.held _ List.mem_cons_self)).mono fun e w' ⟨v', ob', h1, h2, h3⟩ => ⟨v', ob', h1, h2, Own.take (Own.joinN hO h3) (fun x hx => List.mem_append_left _ hx) h3.apart⟩) (fun cv oc hcv => ?_)
      obtain ⟨C, capc, rfl⟩ := hcv.form
      have hlen : (a ++ b).length ≤ 200000 := by rw [List.length_append]; omega
      have hlab := pQ ha hb
      refine yE (k := 136) (args := #[.slice C (a ++ b).length capc]) (fun v' L' => ∃ mv, v' = .tuple #[mv, .bool (xS (a ++ b))] ∧ SlS mv (if xS (a ++ b) then vU (a ++ b) else []) L') (by kernel_rfl) (fun _ => by kernel_rfl) (fun w hO => (mP C capc (a ++ b) w (Sl.reads hcv rfl hO (fun x hx => hx)) (by omega) hlab).mono fun e w' ⟨v', ob', h1, h2, h3⟩ => ⟨_, ob', h1, ⟨v', rfl, h2⟩, Own.take (Own.joinN hO h3) (fun x hx => List.mem_append_left _ hx) h3.apart⟩) (fun tv om htv => ?_)
      obtain ⟨mv, rfl, hmv⟩ := htv
      refine Zv (.tuple #[mv, .bool (xS (a ++ b))]) (Zv (mv) (Zv (.bool (xS (a ++ b))) (Zv (mv) (Zv (.bool (xS (a ++ b))) (ZR (Zv (mv) (Zv (mv) (zR ?_))))))))
      exact zA (zB (ZF (mv) Tryz.results83 (fun w hO => ⟨mv, om, rfl, by rw [if_pos (by simp)]; unfold orL; have hall : xS (a ++ b) = true := allMay_mem.2 (wN (by assumption) (by assumption)); rw [hall, if_pos rfl] at hmv; exact hmv, hO⟩)))
    | false =>
      refine Zv (.bool true) (Zv (.bool true) (ZY (ZO (Zv (.slice none 0 0) (ZN (zB (z8 ?_)))))))
      exact ZF (.slice none 0 0) Tryz.results83 (fun w hO => ⟨_, [], rfl, by rw [if_neg (by simp)]; exact Sl.nil _ _, by simpa using hO⟩)
  | false =>
    refine Zv (.bool true) (Zv (.bool true) (Zk (Zk (Zk (Zv (.bool true) (ZY (ZO (Zv (.slice none 0 0) ?_))))))))
    exact ZN (zB (z8 (ZF (.slice none 0 0) Tryz.results83 (fun w hO => ⟨_, [], rfl, by rw [if_neg (by simp)]; exact Sl.nil _ _, by simpa using hO⟩))))
end
end Go.Proofs.YtkljdpiaghepfaaGreatDoor
