/-
  What the statement's proof leans on: the ways of walking, plain mathematics, and what the program's functions return; each theorem says on what conditions.
-/
import Derived.Lib.MakeNoZero
import Derived.Laws.IdiomCopy
import Derived.Shelf.Strings.SlTrimAscii
import Derived.Test.YtiekhkapgjdblaaGreatDoorTS3
set_option maxRecDepth 1000000
set_option maxHeartbeats 8000000
set_option linter.unusedVariables false
set_option linter.unusedSimpArgs false
namespace Go.Proofs.YtiekhkapgjdblaaGreatDoor
open Go.RowKit

section
theorem mL {l : List Sp} {c d : Cu} (hl : yU l) (hc : c.short) (hd : d.short) : yU (gM l c d) := by
  unfold gM
  split
  · intro x hx
    rcases List.mem_append.1 hx with h | h
    · exact hl x h
    · obtain rfl : x = _ := by simpa using h
      exact ⟨hc, hd⟩
  · exact hl
theorem add_any (A : Option Addr) (cap : Nat) (l : List Sp) (ob : List Blk) (c d : Cu) (W : World) (hv : SlS (.slice A l.length cap) l ob) (hO : Own (ob.map Blk.b) W W ob) (hn : l.length ≤ 1000000) (hl : yU l) (hc : c.short) (hd : d.short) :
    Calls Tryz.prog 151 #[.slice A l.length cap, zC c, zC d] W fun e w' => ∃ v' ob', e = .returned v' ∧ SlS v' (gM l c d) ob' ∧ Own (ob.map Blk.b) W w' ob' := by
  unfold SlS at hv ⊢
  refine vZ (n := 19) hO Tryz.func151 rfl (by kernel_rfl) (by kernel_rfl) (ZO (Zb (zC c) (fun b1 => Zb (zC d) (fun b2 => Zv (.slice none 0 0) (ZR (Zl 1 ⟨b1, (zC c).cells, 72⟩ (off := 0) (zC c) (Zl 0 ⟨b2, (zC d).cells, 72⟩ (off := 0) (zC d) ?_)))))))
  refine Zv (.agg #[.int .i64 c.e, .int .i64 c.v.maj, .int .i64 c.v.min, .int .i64 c.v.pat, .string (mkS c.v.pre), .string (mkS c.v.build), .bool c.aft, .int .i64 d.e, .int .i64 d.v.maj, .int .i64 d.v.min, .int .i64 d.v.pat, .string (mkS d.v.pre), .string (mkS d.v.build), .bool d.aft]) (Za (.agg #[.int .i64 0, .int .i64 0, .int .i64 0, .int .i64 0, .string ⟨#[]⟩, .string ⟨#[]⟩, .bool false, .int .i64 0, .int .i64 0, .int .i64 0, .int .i64 0, .string ⟨#[]⟩, .string ⟨#[]⟩, .bool false]) (fun b3 => Zs 0 ⟨b3, #[.int .i64 0, .int .i64 0, .int .i64 0, .int .i64 0, .string ⟨#[]⟩, .string ⟨#[]⟩, .bool false, .int .i64 0, .int .i64 0, .int .i64 0, .int .i64 0, .string ⟨#[]⟩, .string ⟨#[]⟩, .bool false], 74⟩ (off := 0) (.agg #[.int .i64 c.e, .int .i64 c.v.maj, .int .i64 c.v.min, .int .i64 c.v.pat, .string (mkS c.v.pre), .string (mkS c.v.build), .bool c.aft, .int .i64 d.e, .int .i64 d.v.maj, .int .i64 d.v.min, .int .i64 d.v.pat, .string (mkS d.v.pre), .string (mkS d.v.build), .bool d.aft]) (ZN (z6 (ZO (Zl 0 ⟨b3, #[.int .i64 c.e, .int .i64 c.v.maj, .int .i64 c.v.min, .int .i64 c.v.pat, .string (mkS c.v.pre), .string (mkS c.v.build), .bool c.aft, .int .i64 d.e, .int .i64 d.v.maj, .int .i64 d.v.min, .int .i64 d.v.pat, .string (mkS d.v.pre), .string (mkS d.v.build), .bool d.aft], 74⟩ (off := 0) (.agg #[.int .i64 c.e, .int .i64 c.v.maj, .int .i64 c.v.min, .int .i64 c.v.pat, .string (mkS c.v.pre), .string (mkS c.v.build), .bool c.aft, .int .i64 d.e, .int .i64 d.v.maj, .int .i64 d.v.min, .int .i64 d.v.pat, .string (mkS d.v.pre), .string (mkS d.v.build), .bool d.aft]) (Zc (k := 65) (args := #[.agg #[.int .i64 c.e, .int .i64 c.v.maj, .int .i64 c.v.min, .int .i64 c.v.pat, .string (mkS c.v.pre), .string (mkS c.v.build), .bool c.aft, .int .i64 d.e, .int .i64 d.v.maj, .int .i64 d.v.min, .int .i64 d.v.pat, .string (mkS d.v.pre), .string (mkS d.v.build), .bool d.aft]]) (.bool ((Sp.mk c d).may)) (fun w _ => wN ⟨c, d⟩ w ⟨hc, hd⟩) ?_)))))))
  cases h1 : (Sp.mk c d).may with
  | true =>
    refine Zv (.bool false) (ZX (ZB (ZO (Zv (.slice A l.length cap) (Zl 0 ⟨b3, #[.int .i64 c.e, .int .i64 c.v.maj, .int .i64 c.v.min, .int .i64 c.v.pat, .string (mkS c.v.pre), .string (mkS c.v.build), .bool c.aft, .int .i64 d.e, .int .i64 d.v.maj, .int .i64 d.v.min, .int .i64 d.v.pat, .string (mkS d.v.pre), .string (mkS d.v.build), .bool d.aft], 74⟩ (off := 0) (.agg #[.int .i64 c.e, .int .i64 c.v.maj, .int .i64 c.v.min, .int .i64 c.v.pat, .string (mkS c.v.pre), .string (mkS c.v.build), .bool c.aft, .int .i64 d.e, .int .i64 d.v.maj, .int .i64 d.v.min, .int .i64 d.v.pat, .string (mkS d.v.pre), .string (mkS d.v.build), .bool d.aft]) (vQ 74 #[.int .i64 c.e, .int .i64 c.v.maj, .int .i64 c.v.min, .int .i64 c.v.pat, .string (mkS c.v.pre), .string (mkS c.v.build), .bool c.aft, .int .i64 d.e, .int .i64 d.v.maj, .int .i64 d.v.min, .int .i64 d.v.pat, .string (mkS d.v.pre), .string (mkS d.v.build), .bool d.aft] (by kernel_rfl) rfl (fun _ => by kernel_rfl) (fun b4 => xM (L' := [⟨b4, #[.int .i64 c.e, .int .i64 c.v.maj, .int .i64 c.v.min, .int .i64 c.v.pat, .string (mkS c.v.pre), .string (mkS c.v.build), .bool c.aft, .int .i64 d.e, .int .i64 d.v.maj, .int .i64 d.v.min, .int .i64 d.v.pat, .string (mkS d.v.pre), .string (mkS d.v.build), .bool d.aft], 74⟩, ⟨b3, #[.int .i64 c.e, .int .i64 c.v.maj, .int .i64 c.v.min, .int .i64 c.v.pat, .string (mkS c.v.pre), .string (mkS c.v.build), .bool c.aft, .int .i64 d.e, .int .i64 d.v.maj, .int .i64 d.v.min, .int .i64 d.v.pat, .string (mkS d.v.pre), .string (mkS d.v.build), .bool d.aft], 74⟩, ⟨b2, (zC d).cells, 72⟩, ⟨b1, (zC c).cells, 72⟩] ++ ob ++ []) (by rw [List.append_nil]; rfl) ?_)))))))
    obtain ⟨i, z, e1, e2, e3, e4, e5⟩ := qL
    refine gP (sz := 14) (by kernel_rfl) rfl Tryz.underlying22 e1 e2 e3 e4 (by kernel_rfl) hv (a := ⟨b4, 0, none⟩) (m := 1) (c := 1) (news := yR ⟨c, d⟩) (by kernel_rfl) rfl (fun w hO j u hj => ?_) (gY _) (by unfold maxLen; omega) (by rw [e5]; omega) (fun v' ob' hv' => ?_)
    · rw [xV, cell_of_row w b4 (0 + j) (yR ⟨c, d⟩).toArray 74 _ (hO.held ⟨b4, (yR ⟨c, d⟩).toArray, 74⟩ (List.mem_append_left _ (List.mem_append_left _ (List.mem_cons_self ..))))]; simpa using hj
    refine Zv (v') (ZN (zF (ZF (v') Tryz.results151 (fun w hO => ⟨v', ob', rfl, by unfold gM; rw [h1, if_pos rfl, List.length_append, List.flatMap_append]; simpa using hv', Own.take hO (fun x hx => List.mem_append_left _ (List.mem_append_right _ hx)) ?_⟩))))
    have := hO.apart; rw [List.append_nil, List.map_append, List.nodup_append] at this; exact this.2.1
  | false =>
    refine Zv (.bool true) (ZY (ZO (Zv (.slice A l.length cap) (Zv (.slice A l.length cap) (ZN (zF (zA ?_)))))))
    exact ZF (.slice A l.length cap) Tryz.results151 (fun w hO => ⟨_, ob, rfl, by unfold gM; rw [h1, if_neg (by decide)]; exact hv, Own.sub [_, _, _] hO⟩)
theorem add_call {M : List Nat} {W w : World} {v : Value} {l : List Sp} {E ob : List Blk} (c d : Cu) (hO : Own M W w (E ++ ob)) (hv : SlS v l ob) (hn : l.length ≤ 1000000) (hl : yU l) (hc : c.short) (hd : d.short) :
    Calls Tryz.prog 151 #[v, zC c, zC d] w fun e w' => ∃ v' L', e = .returned v' ∧ (∃ ob', L' = E ++ ob' ∧ SlS v' (gM l c d) ob') ∧ Own M W w' L' := by
  obtain ⟨A, cap, rfl⟩ := hv.form
  refine (add_any A cap l ob c d w hv (Own.lend (hO.sub E)) hn hl hc hd).mono fun e w' ⟨v', ob', h1, h2, h3⟩ => ⟨v', E ++ ob', h1, ⟨ob', rfl, h2⟩, ?_⟩
  have hp : Own M W w (ob ++ E) := hO.perm List.perm_append_comm
  exact (Own.join hp h3).perm List.perm_append_comm
theorem jN {M : List Nat} {W w : World} {v : Value} {l : List Sp} {E ob : List Blk} (hO : Own M W w (E ++ ob)) (hv : SlS v l ob) (hn : l.length ≤ 1000000) (hl : yU l) :
    Calls Tryz.prog 152 #[v] w fun e w' => ∃ v' L', e = .returned v' ∧ (∃ ob', L' = E ++ ob' ∧ SlS v' l ob') ∧ Own M W w' L' := by
  obtain ⟨A, cap, rfl⟩ := hv.form
  refine (unshare_any A cap l ob w hv (Own.lend (hO.sub E)) hn hl).mono fun e w' ⟨ob', h1, h2, h3⟩ => ⟨_, E ++ ob', h1, ⟨ob', rfl, h2⟩, ?_⟩
  have hp : Own M W w (ob ++ E) := hO.perm List.perm_append_comm
  exact (Own.join hp h3).perm List.perm_append_comm
theorem bX (k : Int) : (zZ k).short := ⟨Nat.zero_le 1000000, Nat.zero_le 1000000⟩
structure NotB (l : List Sp) (k : Nat) (v : Value) (out : List Sp) (f : Cu) (ob : List Blk) : Prop where
  le : k ≤ l.length
  sl : SlS v out ob
  len : out.length ≤ k
  short : yU out
  fs : f.short
  eq : (l.take k).foldl pM ([], zZ (-1)) = (out, f)
theorem NotB.start (l : List Sp) : NotB l 0 (.slice none 0 0) [] (zZ (-1)) [] := ⟨Nat.zero_le _, Sl.nil _ _, Nat.le_refl _, fun s hs => by simp at hs, bX _, by rw [List.take_zero]; rfl⟩
theorem NotB.step {l : List Sp} {k : Nat} {v v2 : Value} {out : List Sp} {f : Cu} {ob ob2 : List Blk} (h : NotB l k v out f ob) (hk : k < l.length) {s : Sp} (hs : l[k] = s) (hss : s.short) (h2 : SlS v2 (gM out f s.lo) ob2) : NotB l (k + 1) v2 (gM out f s.lo) s.hi ob2 :=
  ⟨by omega, h2, by have := h.len; have := mM out f s.lo; omega, mL h.short h.fs hss.1, hss.2, by rw [List.take_succ_eq_append_getElem hk, List.foldl_append, h.eq, hs]; rfl⟩
theorem not4_any (A : Option Addr) (cap : Nat) (l : List Sp) (W : World) (hv : Reads yR W W.heap.size A l) (hn : l.length ≤ 300000) (hl : yU l) :
    Calls Tryz.prog 155 #[.slice A l.length cap] W fun e w' => ∃ v' ob', e = .returned v' ∧ SlS v' (if zJ l then vD l else []) ob' ∧ Own [] W w' ob' := by
  refine zR (n := 30) Tryz.func155 rfl (by kernel_rfl) (by kernel_rfl) (ZO (Zv (.slice none 0 0) (ZN (z6 (ZO (Zv (.slice A l.length cap) (Zc (k := 39) (args := #[.slice A l.length cap]) (.bool (zJ l)) (fun w hO => vJ A cap l w (hv.on hO.below hO.size) (by omega) hl) ?_)))))))
  cases h1 : zJ l with
  | true =>
    refine Zv (.bool false) (ZX (ZB (ZO (Zv (.slice none 0 0) (ZN (z6 ?_))))))
    refine z7 (Zv (.agg #[.int .i64 (-1), .int .i64 0, .int .i64 0, .int .i64 0, .string ⟨#[]⟩, .string ⟨#[]⟩, .bool false]) (Za (.agg #[.int .i64 0, .int .i64 0, .int .i64 0, .int .i64 0, .string ⟨#[]⟩, .string ⟨#[]⟩, .bool false]) (fun b1 => Zs 0 ⟨b1, #[.int .i64 0, .int .i64 0, .int .i64 0, .int .i64 0, .string ⟨#[]⟩, .string ⟨#[]⟩, .bool false], 72⟩ (off := 0) (.agg #[.int .i64 (-1), .int .i64 0, .int .i64 0, .int .i64 0, .string ⟨#[]⟩, .string ⟨#[]⟩, .bool false]) (ZN (z6 (ZO (Zv (.slice A l.length cap) (Zv (.int .i64 (l.length : Int)) (Zv (.int .i64 0) ?_)))))))))
    refine ZN (zL (xA (fun L f m => ∃ (k : Nat) (v : Value) (out : List Sp) (fc : Cu) (ob : List Blk) (j : Nat → Value), (NotB l k v out fc ob) ∧ L = ⟨b1, (zC fc).cells, 72⟩ :: ob ∧ f = g9 j [(3, v), (4, .pointer (some ⟨b1, 0, none⟩)), (11, .slice A l.length cap), (12, .int .i64 (l.length : Int)), (13, .int .i64 (k : Int))] ∧ m = l.length - k) (l.length - 0) ⟨0, _, [], zZ (-1), [], _, NotB.start l, rfl, ZU, rfl⟩ ?_))
    rintro L f m ⟨k, v, out, fc, ob, j, hrel, rfl, rfl, rfl⟩
    have hkl := hrel.le; have hlen := hrel.len
    refine z6 (z7 ?_)
    by_cases h2 : (k : Int) < (l.length : Int)
    · have hk : k < l.length := by omega
      obtain ⟨b, off, hA, hlt, hcell⟩ := hv (by omega)
      obtain ⟨s, hs⟩ : ∃ s, l[k] = s := ⟨_, rfl⟩
      have hsk : s.short := hs ▸ hl l[k] (List.getElem_mem hk)
      refine Zd (p := (k : Int) < (l.length : Int)) true (decide_eq_true (h2)) (ZN (z6 (Zt (ZB (z6 (zL (ZO (zW (.pointer (some ⟨b, off + k * 14, none⟩)) (by kernel_rfl) (ZA (b := b) (off := off) (c := cap) (n := l.length) (k := .i64) (j := (k : Int)) (e := 74) (sz := 14) hA) ?_))))))))
      refine Zo (zM s) (a := ⟨b, off + k * 14, none⟩) (fun w hO => xG yC (fun j u h => (hO.below.cell (p := ⟨b, off + j, none⟩) hlt).trans (hcell j u h)) k 0 hk (by omega) _ (by rw [hs]; kernel_rfl)) (Za (.agg #[.int .i64 0, .int .i64 0, .int .i64 0, .int .i64 0, .string ⟨#[]⟩, .string ⟨#[]⟩, .bool false, .int .i64 0, .int .i64 0, .int .i64 0, .int .i64 0, .string ⟨#[]⟩, .string ⟨#[]⟩, .bool false]) (fun b2 => Zs 0 ⟨b2, #[.int .i64 0, .int .i64 0, .int .i64 0, .int .i64 0, .string ⟨#[]⟩, .string ⟨#[]⟩, .bool false, .int .i64 0, .int .i64 0, .int .i64 0, .int .i64 0, .string ⟨#[]⟩, .string ⟨#[]⟩, .bool false], 74⟩ (off := 0) (zM s) (ZR (Zv (v) (Zl 1 ⟨b1, (zC fc).cells, 72⟩ (off := 0) (.agg #[.int .i64 fc.e, .int .i64 fc.v.maj, .int .i64 fc.v.min, .int .i64 fc.v.pat, .string (mkS fc.v.pre), .string (mkS fc.v.build), .bool fc.aft]) (Zv (.pointer (some ⟨b2, 0, none⟩)) (Zl 0 ⟨b2, (zM s).cells, 74⟩ (off := 0) (.agg #[.int .i64 s.lo.e, .int .i64 s.lo.v.maj, .int .i64 s.lo.v.min, .int .i64 s.lo.v.pat, .string (mkS s.lo.v.pre), .string (mkS s.lo.v.build), .bool s.lo.aft]) (zV (k := 151) (args := #[v, zC fc, zC s.lo]) (fun v' L' => ∃ ob', L' = [⟨b2, (zM s).cells, 74⟩, ⟨b1, (zC fc).cells, 72⟩] ++ ob' ∧ SlS v' (gM out fc s.lo) ob') (by kernel_rfl) (fun _ => by kernel_rfl) (fun w hO => add_call (E := [⟨b2, (zM s).cells, 74⟩, ⟨b1, (zC fc).cells, 72⟩]) fc s.lo hO hrel.sl (by omega) hrel.short hrel.fs hsk.1) (fun v2 L2 hv2 => ?_)))))))))
      obtain ⟨ob2, rfl, hs2⟩ := hv2
      refine Zv (v2) (ZN (z7 (Zv (.pointer (some ⟨b2, 7, none⟩)) (Zl 0 ⟨b2, (zM s).cells, 74⟩ (off := 7) (.agg #[.int .i64 s.hi.e, .int .i64 s.hi.v.maj, .int .i64 s.hi.v.min, .int .i64 s.hi.v.pat, .string (mkS s.hi.v.pre), .string (mkS s.hi.v.build), .bool s.hi.aft]) (Zs 1 ⟨b1, (zC fc).cells, 72⟩ (off := 0) (.agg #[.int .i64 s.hi.e, .int .i64 s.hi.v.maj, .int .i64 s.hi.v.min, .int .i64 s.hi.v.pat, .string (mkS s.hi.v.pre), .string (mkS s.hi.v.build), .bool s.hi.aft]) (zT (zP (zB (z7 (Zu (k := .i64) (((k + 1 : Nat) : Int)) (IntWalk.i64_in _ (by omega)) ?_))))))))))
      exact Zv (.int .i64 ((k + 1 : Nat) : Int)) (zT (yZ (fun w hO => Own.sub [_] hO) (zX (m' := l.length - (k + 1)) (by omega) ⟨k + 1, v2, gM out fc s.lo, s.hi, ob2, _, hrel.step hk hs hsk hs2, rfl, ZU, rfl⟩)))
    refine Zd (p := (k : Int) < (l.length : Int)) false (decide_eq_false (h2)) (ZN (z6 (Zf (y8 (z8 (zQ (zG (zB (z6 (z7 ?_))))))))))
    refine Zv (v) (Zl 0 ⟨b1, (zC fc).cells, 72⟩ (off := 0) (.agg #[.int .i64 fc.e, .int .i64 fc.v.maj, .int .i64 fc.v.min, .int .i64 fc.v.pat, .string (mkS fc.v.pre), .string (mkS fc.v.build), .bool fc.aft]) (Zv (.agg #[.int .i64 1, .int .i64 0, .int .i64 0, .int .i64 0, .string ⟨#[]⟩, .string ⟨#[]⟩, .bool false]) (zV (k := 151) (args := #[v, zC fc, zC (zZ 1)]) (fun v' L' => ∃ ob', L' = [⟨b1, (zC fc).cells, 72⟩] ++ ob' ∧ SlS v' (gM out fc (zZ 1)) ob') (by kernel_rfl) (fun _ => by kernel_rfl) (fun w hO => add_call (E := [⟨b1, (zC fc).cells, 72⟩]) fc (zZ 1) hO hrel.sl (by omega) hrel.short hrel.fs (bX 1)) (fun v3 L2 hv2 => ?_))))
    obtain ⟨ob3, rfl, hs3⟩ := hv2
    refine zV (k := 152) (args := #[v3]) (fun v' L' => ∃ ob', L' = [⟨b1, (zC fc).cells, 72⟩] ++ ob' ∧ SlS v' (gM out fc (zZ 1)) ob') (by kernel_rfl) (fun _ => by kernel_rfl) (fun w hO => jN (E := [⟨b1, (zC fc).cells, 72⟩]) hO hs3 (by have := mM out fc (zZ 1); omega) (mL hrel.short hrel.fs (bX 1))) (fun v4 L2 hv2 => ?_)
    obtain ⟨ob4, rfl, hs4⟩ := hv2
    exact Zv (v4) (ZN (zF (ZF (v4) Tryz.results155 (fun w hO => ⟨v4, ob4, rfl, by rw [if_pos rfl, show vD l = gM out fc (zZ 1) from by rw [← notG_eq h1]; unfold notG; have he := hrel.eq; rw [List.take_of_length_le (by omega)] at he; rw [he]]; exact hs4, Own.sub [_] hO⟩))))
  | false =>
    refine Zv (.bool true) (ZY (ZO (Zv (.slice none 0 0) (ZN (zF (zA (ZF (.slice none 0 0) Tryz.results155 ?_)))))))
    exact fun w hO => ⟨_, [], rfl, by rw [if_neg (by decide)]; exact Sl.nil _ _, by simpa using hO⟩
end
section
abbrev VSp := {s : Sp // s.may = true ∧ s.short}
instance : Inhabited VSp := ⟨⟨⟨zZ (-1), zZ 1⟩, by decide, bX _, bX _⟩⟩
def vX (x : VSp) : List Value := yR x.1
def cfV (x y : VSp) : Int := zN x.1.lo y.1.lo
theorem swoV : Go.Sort.SWO (ltOf cfV) := by
  have ml : ∀ x : VSp, x.1.lo.may = true := fun x => (zU x.2.1).1
  refine ⟨fun x => ?_, fun x y z h1 h2 => ?_, fun x y z h1 h2 => ?_⟩
  · unfold ltOf cfV; rw [kO]; rfl
  · unfold ltOf cfV at *
    rw [decide_eq_true_eq] at *
    exact xB (ml x) (ml y) (ml z) h1 h2
  · unfold ltOf cfV at *
    rw [decide_eq_false_iff_not] at *
    have := qD (ml z) (ml y) (ml x) (vO h2) (vO h1)
    have h3 := xH (a := x.1.lo) (b := z.1.lo)
    omega
theorem make1_any (s t : Sp) (W : World) (hs : s.short) (ht : t.short) :
    Calls Tryz.prog 189 #[zM s, zM t] W fun e w' => e = .returned (.int .i64 (zN s.lo t.lo)) ∧ Below W.heap.size W w' := by
  refine zR (n := 10) Tryz.func189 rfl (by kernel_rfl) (by kernel_rfl) (ZO (Zb (zM s) (fun b1 => Zb (zM t) (fun b2 => Zv (.int .i64 0) (ZR (Zv (.pointer (some ⟨b1, 0, none⟩)) (Zl 1 ⟨b1, (zM s).cells, 74⟩ (off := 0) (.agg #[.int .i64 s.lo.e, .int .i64 s.lo.v.maj, .int .i64 s.lo.v.min, .int .i64 s.lo.v.pat, .string (mkS s.lo.v.pre), .string (mkS s.lo.v.build), .bool s.lo.aft]) ?_)))))))
  exact Zv (.pointer (some ⟨b2, 0, none⟩)) (Zl 0 ⟨b2, (zM t).cells, 74⟩ (off := 0) (.agg #[.int .i64 t.lo.e, .int .i64 t.lo.v.maj, .int .i64 t.lo.v.min, .int .i64 t.lo.v.pat, .string (mkS t.lo.v.pre), .string (mkS t.lo.v.build), .bool t.lo.aft]) (Zc (k := 66) (args := #[.agg #[.int .i64 s.lo.e, .int .i64 s.lo.v.maj, .int .i64 s.lo.v.min, .int .i64 s.lo.v.pat, .string (mkS s.lo.v.pre), .string (mkS s.lo.v.build), .bool s.lo.aft], .agg #[.int .i64 t.lo.e, .int .i64 t.lo.v.maj, .int .i64 t.lo.v.min, .int .i64 t.lo.v.pat, .string (mkS t.lo.v.pre), .string (mkS t.lo.v.build), .bool t.lo.aft]]) (.int .i64 (zN s.lo t.lo)) (fun w _ => fQ s.lo t.lo w hs.1 ht.1) (Zv (.int .i64 (zN s.lo t.lo)) (ZN (zF (ZF (.int .i64 (zN s.lo t.lo)) Tryz.results189 (fun w hO => ⟨rfl, hO.below⟩)))))))
theorem lays4 (blk off size : Nat) (w : World) : CmpLays Tryz.prog 189 #[] vX 14 cfV blk off size w := fun m os dk _ x y =>
  (make1_any x.1 y.1 _ x.2.2 y.2.2).mono fun e w' ⟨h1, h2⟩ => ⟨h1, h2.asGrow⟩
theorem flatK_list (d : Array VSp) : (Go.Sort.flatK vX 14 d).toList = d.toList.flatMap vX := by
  apply List.ext_getElem?
  intro t
  have hlen : (d.toList.flatMap vX).length = d.size * 14 := by rw [jG (g := vX) (sz := 14) (fun x : VSp => yC x.1)]; simp
  by_cases ht : t < d.size * 14
  · have hk : t / 14 < d.toList.length := by simp; omega
    have h1 : (Go.Sort.flatK vX 14 d).toList[t]? = some (Go.Sort.flatK vX 14 d)[t]! := by
      rw [getElem!_pos _ t (by simpa using ht), Array.getElem?_toList, Array.getElem?_eq_getElem (by simpa using ht)]
    have h2 := flat_at (g := vX) (sz := 14) (fun x : VSp => yC x.1) d.toList (t / 14) hk
    have h3 : (d.toList.flatMap vX)[t]? = (vX d.toList[t / 14])[t % 14]? := by
      have e : t = t / 14 * 14 + t % 14 := by omega
      have hm : t % 14 < 14 := Nat.mod_lt _ (by decide)
      rw [← h2, List.getElem?_take, if_pos hm, List.getElem?_drop, ← e]
    rw [h1, h3, Go.Sort.get_flatK vX 14 d t ht]
    have hd : d[t / 14]! = d.toList[t / 14] := by rw [getElem!_pos d (t / 14) (by simpa using hk)]; simp
    have hlt : t % 14 < (vX d.toList[t / 14]).length := by rw [show (vX d.toList[t / 14]).length = 14 from yC _]; exact Nat.mod_lt _ (by decide)
    rw [hd, List.getElem?_eq_getElem hlt, getElem!_pos (vX d.toList[t / 14]) (t % 14) hlt]
  · rw [List.getElem?_eq_none (by simpa using Nat.le_of_not_lt ht), List.getElem?_eq_none (by rw [hlen]; omega)]
theorem take_put (cur F : Array Value) (h : F.size ≤ cur.size) : (Go.Sort.putCells id 0 F cur).toList.take F.size = F.toList := by
  apply List.ext_getElem?
  intro j
  by_cases hj : j < F.size
  · rw [List.getElem?_take_of_lt hj, Array.getElem?_toList]
    simp [Go.Sort.putCells, hj, show j < cur.size by omega]
  · rw [List.getElem?_take_eq_none (by omega), List.getElem?_eq_none (by simp; omega)]
theorem size_put (cur F : Array Value) : (Go.Sort.putCells id 0 F cur).size = cur.size := by simp [Go.Sort.putCells]
theorem perm_val {l m : List VSp} (h : l.Perm m) : (l.map (·.1)).Perm (m.map (·.1)) := h.map _
theorem sorted_of (l : List VSp) (h : ∀ i j (hi : i < j) (hj : j < l.length), ¬ zN l[j].1.lo (l[i]'(by omega)).1.lo < 0) : dV (l.map (·.1)) := by
  induction l with
  | nil => trivial
  | cons s r ih =>
    refine ⟨fun t ht => ?_, ih fun i j hi hj => h (i + 1) (j + 1) (by omega) (by simpa using hj)⟩
    obtain ⟨y, hy, rfl⟩ := List.mem_map.1 ht
    obtain ⟨j, hj, rfl⟩ := List.mem_iff_getElem.1 hy
    exact vO (h 0 (j + 1) (by omega) (by simpa using hj))
theorem lift_list (l : List Sp) (hm : ∀ s ∈ l, s.may = true ∧ s.short) : ∃ m : List VSp, m.map (·.1) = l := by
  induction l with
  | nil => exact ⟨[], rfl⟩
  | cons s r ih =>
    obtain ⟨m, e⟩ := ih (fun t ht => hm t (List.mem_cons_of_mem _ ht))
    exact ⟨⟨s, hm s (List.mem_cons_self ..)⟩ :: m, by rw [List.map_cons, e]⟩
theorem sort_any (g cap : Nat) (cur : Array Value) (l : List Sp) (W : World) (hm : ∀ s ∈ l, s.may = true ∧ s.short) (hO : Own [g] W W [⟨g, cur, 74⟩]) (hcap : l.length ≤ cap) (hmax : cap ≤ maxLen) (hsz : cur.size = cap * 14) (hcur : cur.toList.take (l.length * 14) = l.flatMap yR) (hn : l.length ≤ 1000000) :
    Calls Tryz.prog 188 #[.slice (some ⟨g, 0, none⟩) l.length cap, .func (.func 189) #[] #[]] W fun e w' =>
      e = .returned (.tuple #[]) ∧ ∃ l' cur', l'.Perm l ∧ dV l' ∧ cur'.size = cap * 14 ∧ cur'.toList.take (l.length * 14) = l'.flatMap yR ∧ Own [g] W w' [⟨g, cur', 74⟩] := by
  obtain ⟨m, rfl⟩ := lift_list l hm
  have hlen : (m.map (·.1)).length = m.toArray.size := by simp
  have hg : W.heap[g]? = some (.cells cur 74) := hO.held _ List.mem_cons_self
  have hglt : g < W.heap.size := hO.lt (x := ⟨g, cur, 74⟩) List.mem_cons_self
  have hflat : (m.map (·.1)).flatMap yR = m.flatMap vX := by rw [List.flatMap_map]; rfl
  have hH : Go.Sort.HoldsK vX 14 W g 0 m.toArray := by
    intro j hj
    have hj' : j < m.length * 14 := by simpa using hj
    have e : (Go.Sort.flatK vX 14 m.toArray).toList[j]? = cur.toList[j]? := by
      rw [flatK_list, show m.toArray.toList = m from by simp, ← hflat, ← hcur, List.getElem?_take, if_pos (by simpa using hj')]
    have e2 : cur[j]? = some (Go.Sort.flatK vX 14 m.toArray)[j]! := by
      rw [← Array.getElem?_toList, ← e, Array.getElem?_toList, Array.getElem?_eq_getElem hj, getElem!_pos _ j hj]
    refine ⟨?_, by simp [World.frozen?, hg]⟩
    simp only [World.cell?, hg, Nat.zero_add]
    simpa using e2
  have hcon := Tryz.slices_SortFunc 14 Tryz.isAgg74 Tryz.sizeOf74 vX (fun x => yC x.1) (fun x v hv => gY x.1 v hv) cfV swoV 189 #[] g 0 cap m.toArray W
    (enters_of Tryz.func189 (by kernel_rfl) rfl) (lays4 g 0 m.toArray.size W) hH hglt (by simp at hlen ⊢; rw [List.length_map] at hn; omega)
  rw [hlen]
  change Calls Tryz.prog 188 _ _ _ at hcon
  refine hcon.mono fun e w' ⟨he, d', n, os, hp, hs, hw⟩ => ⟨he, d'.toList.map (·.1), Go.Sort.putCells id 0 (Go.Sort.flatK vX 14 d') cur, ?_, ?_, ?_, ?_, ?_⟩
  · have h2 := hp.2.2
    have hsz2 := hp.1
    rw [show d'.extract 0 m.toArray.size = d' from by rw [← hsz2]; simp, show m.toArray.extract 0 m.toArray.size = m.toArray from by simp] at h2
    have := perm_val h2
    simpa using this
  · refine sorted_of _ fun i j hi hj => ?_
    have hj' : j < d'.size := by simpa using hj
    have := hs i j (Nat.zero_le _) hi (by rw [← hp.1]; exact hj')
    unfold ltOf cfV at this
    rw [decide_eq_false_iff_not, getElem!_pos d' j hj', getElem!_pos d' i (by omega)] at this
    simpa using this
  · rw [size_put]; exact hsz
  · have hF : (Go.Sort.flatK vX 14 d').size = m.toArray.size * 14 := by rw [Go.Sort.size_flatK, hp.1]
    have := take_put cur (Go.Sort.flatK vX 14 d') (by rw [hF, hsz, ← hlen]; exact Nat.mul_le_mul_right _ hcap)
    rw [hF, flatK_list] at this
    rw [this, List.flatMap_map]; rfl
  · subst hw
    have hheap : ∀ k, k < W.heap.size → (sortWorldK vX 14 W g 0 n d' os).heap[k]? = (Go.Sort.putRowK vX 14 (Go.Sort.ahead W n) g 0 d').heap[k]? := fun k hk => by
      show ((Go.Sort.putRowK vX 14 (Go.Sort.ahead W n) g 0 d').heap ++ os)[k]? = _
      rw [Array.getElem?_append_left (by rw [Go.Sort.size_putRowK]; exact hk)]
    refine ⟨rfl, rfl, rfl, ?_, Nat.le_add_right _ _, fun k hk hne => ?_, fun x hx => ?_, fun x hx => .inr (by rw [List.mem_singleton] at hx; rw [hx]; exact List.mem_singleton_self _), by simp⟩
    · show W.heap.size ≤ ((Go.Sort.putRowK vX 14 (Go.Sort.ahead W n) g 0 d').heap ++ os).size
      rw [Array.size_append, Go.Sort.size_putRowK]; exact Nat.le_add_right _ _
    · rw [hheap k hk]
      have hne' : g ≠ k := fun e => hne (by simp [e])
      simp [Go.Sort.putRowK, Go.Sort.putRow, Go.Sort.mapBlock, Go.Sort.ahead, Array.getElem?_modify, hne']
    · obtain rfl : x = _ := by simpa using hx
      show (sortWorldK vX 14 W g 0 n d' os).heap[g]? = _
      rw [hheap g hglt]
      simp [Go.Sort.putRowK, Go.Sort.putRow, Go.Sort.mapBlock, Go.Sort.ahead, Array.getElem?_modify, hg, Go.Sort.onCells]
end
section
theorem clone4_any (A : Option Addr) (cap : Nat) (l : List Sp) (W : World) (hv : Reads yR W W.heap.size A l) (hn : l.length ≤ 1000000) :
    Calls Tryz.prog 187 #[.slice A l.length cap] W fun e w' => ∃ v' ob', e = .returned v' ∧ SlS v' l ob' ∧ Own [] W w' ob' := by
  cases A with
  | none =>
    obtain rfl : l = [] := by
      cases l with
      | nil => rfl
      | cons x r => obtain ⟨b, off, e, _⟩ := hv (by simp); cases e
    refine zR (n := 8) Tryz.func187 rfl (by kernel_rfl) (by kernel_rfl) (ZO (Zv (.slice none 0 0) (ZN (z6 (ZO (Zv (.slice none (([] : List Sp).length) cap) (Zv (.bool true) (zT ?_))))))))
    exact zB (Zt (ZO (Zv (.slice none 0 0) (ZN (zF (zA (ZF (.slice none 0 0) Tryz.results187 (fun w hO => ⟨_, [], rfl, Sl.nil _ _, by simpa using hO⟩))))))))
  | some a =>
    refine zR (n := 8) Tryz.func187 rfl (by kernel_rfl) (by kernel_rfl) (ZO (Zv (.slice none 0 0) (ZN (z6 (ZO (Zv (.slice (some a) l.length cap) (Zv (.bool false) (zT ?_))))))))
    refine zB (Zf (ZB (ZO (vQ 74 #[] (by kernel_rfl) rfl (fun _ => by kernel_rfl) (fun b1 => Zv (.slice (some a) l.length cap) ?_)))))
    obtain ⟨i, z, e1, e2, e3, e4, e5⟩ := qL
    exact xM (L' := [] ++ [⟨b1, #[], 74⟩] ++ []) rfl (tJ (E := []) (ob := [⟨b1, #[], 74⟩]) (L0 := []) (sz := 14) (l := l) (A := some a) (c := cap) (n := 0) (xs := []) yC (by kernel_rfl) rfl Tryz.underlying22 e1 e2 e3 e4 (by kernel_rfl) ⟨rfl, .inr ⟨b1, 0, #[], rfl, rfl, Nat.le_refl _, Nat.zero_le _, rfl, rfl⟩⟩ (by kernel_rfl) (fun w hO => hv.on hO.below hO.size) gY (by unfold maxLen; omega) (by rw [e5]; omega) (fun va oa hva => Zv (va) (ZN (zF (ZF (va) Tryz.results187 (fun w hO => ⟨va, oa, rfl, hva.to (by simp) (by simp), by simpa using hO⟩))))))
theorem sort_call {M : List Nat} {W w : World} {v : Value} {l : List Sp} {E ob : List Blk} (hO : Own M W w (E ++ ob)) (hv : SlS v l ob) (hn : l.length ≤ 1000000) (hm : ∀ s ∈ l, s.may = true ∧ s.short) :
    Calls Tryz.prog 188 #[v, .func (.func 189) #[] #[]] w fun e w' => ∃ v' L', e = .returned v' ∧ (∃ l' ob', v' = .tuple #[] ∧ L' = E ++ ob' ∧ l'.Perm l ∧ dV l' ∧ SlS v l' ob') ∧ Own M W w' L' := by
  obtain ⟨A, cap, rfl⟩ := hv.form
  by_cases h0 : l.length = 0
  · obtain rfl : l = [] := List.eq_nil_of_length_eq_zero h0
    have h := Tryz.slices_SortFunc_none (α := Nat) A cap (.func (.func 189) #[] #[]) w
    change Calls Tryz.prog 188 _ _ _ at h
    exact h.mono fun e w' ⟨h1, h2⟩ => ⟨_, E ++ ob, h1, ⟨[], ob, rfl, rfl, List.Perm.refl _, trivial, hv⟩, h2 ▸ hO⟩
  · unfold SlS at hv
    obtain ⟨g, cur, rfl, rfl, hcap, hmax, hsz, hcur⟩ := hv.block (by omega)
    refine (sort_any g cap cur l w hm (Own.lend (hO.sub E)) hcap hmax hsz hcur hn).mono fun e w' ⟨h1, l', cur', h2, h3, h4, h5, h6⟩ => ⟨_, E ++ [⟨g, cur', 74⟩], h1, ⟨l', _, rfl, rfl, h2, h3, ?_⟩, ?_⟩
    · unfold SlS
      have hl := h2.length_eq
      rw [← hl] at h5 hcap ⊢
      exact ⟨by rw [jG yC], .inr ⟨g, cap, cur', rfl, rfl, hcap, hmax, h4, h5⟩⟩
    · have hp : Own M W w ([⟨g, cur, 74⟩] ++ E) := hO.perm List.perm_append_comm
      exact (Own.join hp h6).perm List.perm_append_comm
structure Merged (d : List Sp) (k : Nat) (V : Option Addr) (c : Nat) (out : List Sp) (ob : List Blk) : Prop where
  le : k ≤ d.length
  sl : Sl 74 14 (.slice V out.length c) out.length (out.flatMap yR) ob
  len : out.length ≤ k
  short : yU out
  eq : (d.take k).foldl vB [] = out
theorem Merged.start (d : List Sp) : Merged d 0 none 0 [] [] := ⟨Nat.zero_le _, Sl.nil _ _, Nat.le_refl _, fun s hs => by simp at hs, by rw [List.take_zero]; rfl⟩
theorem mstep_app {out : List Sp} {s : Sp} (h : ∀ t ∈ out.getLast?, zN t.hi s.lo < 0) : vB out s = out ++ [s] := by
  unfold vB
  cases hg : out.getLast? with
  | none => have : out = [] := by simpa using hg
            subst this; rfl
  | some t => dsimp only; rw [if_pos (h t hg)]
theorem mstep_set {out : List Sp} {s t : Sp} (h0 : 0 < out.length) (ht : out[out.length - 1]'(by omega) = t) (h : ¬ zN t.hi s.lo < 0) : vB out s = out.set (out.length - 1) ⟨t.lo, yL t.hi s.hi⟩ := by
  have hg : out.getLast? = some t := by rw [List.getLast?_eq_getElem?, List.getElem?_eq_getElem (by omega), ht]
  unfold vB
  rw [hg]
  dsimp only
  rw [if_neg h, List.dropLast_eq_take, List.set_eq_take_append_cons_drop, if_pos (by omega), List.drop_of_length_le (by omega)]
theorem mstep_short {out : List Sp} {s : Sp} (ho : yU out) (hs : s.short) : yU (vB out s) := by
  unfold vB
  split
  · intro x hx; obtain rfl : x = _ := by simpa using hx
    exact hs
  · rename_i t ht
    split
    · intro x hx
      rcases List.mem_append.1 hx with h | h
      · exact ho x h
      · obtain rfl : x = _ := by simpa using h
        exact hs
    · intro x hx
      rcases List.mem_append.1 hx with h | h
      · exact ho x (List.dropLast_subset _ h)
      · obtain rfl : x = _ := by simpa using h
        exact ⟨(ho t (List.mem_of_getLast? ht)).1, dJ (ho t (List.mem_of_getLast? ht)).2 hs.2⟩
theorem Merged.step {d : List Sp} {k : Nat} {V V2 : Option Addr} {c c2 : Nat} {out out2 : List Sp} {ob ob2 : List Blk} (h : Merged d k V c out ob) (hk : k < d.length) {s : Sp} (hs : d[k] = s) (hss : s.short) (he : vB out s = out2) (h2 : Sl 74 14 (.slice V2 out2.length c2) out2.length (out2.flatMap yR) ob2) : Merged d (k + 1) V2 c2 out2 ob2 :=
  ⟨by omega, h2, by have := h.len; have := mstep_len out s; rw [he] at this; omega, he ▸ mstep_short h.short hss, by rw [List.take_succ_eq_append_getElem hk, List.foldl_append, h.eq, hs]; exact he⟩
end
section
theorem mD (A : Option Addr) (cap : Nat) (l : List Sp) (W : World) (hv : Reads yR W W.heap.size A l) (hn : l.length ≤ 300000) (hl : yU l) :
    Calls Tryz.prog 156 #[.slice A l.length cap] W fun e w' => ∃ v' ob', e = .returned (.tuple #[v', .bool (kL l)]) ∧ SlS v' (if kL l then wR l else []) ob' ∧ Own [] W w' ob' := by
  refine zR (n := 69) Tryz.func156 rfl (by kernel_rfl) (by kernel_rfl) (ZO (Zv (.slice none 0 0) (Zv (.bool false) (ZN (z6 (ZO (Zv (.slice A l.length cap) (Zv (.int .i64 (l.length : Int)) ?_))))))))
  refine Zv (.int .i64 0) (ZN (zL (xA (fun L f m => ∃ (k : Nat) (j : Nat → Value), (k ≤ l.length ∧ kL (l.take k) = true) ∧ L = [] ∧ f = g9 j [(0, .slice A l.length cap), (11, .slice A l.length cap), (12, .int .i64 (l.length : Int)), (13, .int .i64 (k : Int))] ∧ m = l.length - k) (l.length - 0) ⟨0, _, ⟨Nat.zero_le _, by rw [List.take_zero]; rfl⟩, rfl, ZU, rfl⟩ ?_)))
  rintro L f m ⟨k, j, hrel, rfl, rfl, rfl⟩
  have hkl := hrel.1
  refine z6 (z7 ?_)
  by_cases h1 : (k : Int) < (l.length : Int)
  · have hk : k < l.length := by omega
    obtain ⟨b, off, hA, hlt, hcell⟩ := hv (by omega)
    obtain ⟨s, hs⟩ : ∃ s, l[k] = s := ⟨_, rfl⟩
    have hsk : s.short := hs ▸ hl _ (List.getElem_mem _)
    refine Zd (p := (k : Int) < (l.length : Int)) true (decide_eq_true (h1)) (ZN (z6 (Zt (ZB (z6 (zL (ZO (zW (.pointer (some ⟨b, off + k * 14, none⟩)) (by kernel_rfl) (ZA (b := b) (off := off) (c := cap) (n := l.length) (k := .i64) (j := (k : Int)) (e := 74) (sz := 14) hA) ?_))))))))
    refine Zo (zM s) (a := ⟨b, off + k * 14, none⟩) (fun w hO => xG yC (fun j u h => (hO.below.cell (p := ⟨b, off + j, none⟩) hlt).trans (hcell j u h)) k 0 hk (by omega) _ (by rw [hs]; kernel_rfl)) (Za (.agg #[.int .i64 0, .int .i64 0, .int .i64 0, .int .i64 0, .string ⟨#[]⟩, .string ⟨#[]⟩, .bool false, .int .i64 0, .int .i64 0, .int .i64 0, .int .i64 0, .string ⟨#[]⟩, .string ⟨#[]⟩, .bool false]) (fun b1 => Zs 0 ⟨b1, #[.int .i64 0, .int .i64 0, .int .i64 0, .int .i64 0, .string ⟨#[]⟩, .string ⟨#[]⟩, .bool false, .int .i64 0, .int .i64 0, .int .i64 0, .int .i64 0, .string ⟨#[]⟩, .string ⟨#[]⟩, .bool false], 74⟩ (off := 0) (zM s) (ZR (Zl 0 ⟨b1, (zM s).cells, 74⟩ (off := 0) (zM s) (Zc (k := 65) (args := #[zM s]) (.bool s.may) (fun w _ => wN s w hsk) ?_)))))
    cases h2 : s.may with
    | true =>
      refine Zv (.bool false) (ZX (xK (zP (zB (z7 (Zu (k := .i64) (((k + 1 : Nat) : Int)) (IntWalk.i64_in _ (by omega)) (Zv (.int .i64 ((k + 1 : Nat) : Int)) (zT ?_))))))))
      have hnext : kL (l.take (k + 1)) = true := allMay_take l k hk hrel.2 (by rw [hs]; assumption)
      exact yZ (fun w hO => Own.sub [_] hO) (zX (m' := l.length - (k + 1)) (by omega) ⟨k + 1, _, ⟨by omega, hnext⟩, rfl, ZU, rfl⟩)
    | false =>
      refine Zv (.bool true) (ZY (ZO (Zv (.slice none 0 0) (Zv (.bool false) (ZN (zF (zH ?_)))))))
      exact zA (yT (zH (zA (pU (.slice none 0 0) (.bool false) Tryz.results156 (by kernel_rfl) (by kernel_rfl) (fun w hO => ⟨_, [], by rw [allMay_not l k hk (by rw [hs]; assumption)], by rw [allMay_not l k hk (by rw [hs]; assumption), if_neg (by decide)]; exact Sl.nil _ _, Own.take hO (by simp) (by simp)⟩)))))
  have hall : kL l = true := by have h := hrel.2; rwa [List.take_of_length_le (by omega)] at h
  refine Zd (p := (k : Int) < (l.length : Int)) false (decide_eq_false (h1)) (ZN (z6 (Zf (y8 (z8 (zQ (zG (zB (z6 (z7 ?_))))))))))
  refine Zv (.slice A l.length cap) (zV (k := 187) (args := #[.slice A l.length cap]) (fun v' L' => SlS v' l L') (by kernel_rfl) (fun _ => by kernel_rfl) (fun w hO => (clone4_any A cap l w (hv.on hO.below hO.size) (by omega)).mono fun e w' ⟨v', ob', h1, h2, h3⟩ => ⟨v', ob', h1, h2, by simpa using Own.joinN hO h3⟩) (fun cv oc hcv => ?_))
  obtain ⟨B, capb, rfl⟩ := hcv.form
  refine Zv (.slice B l.length capb) (ZR (Zv (.slice B l.length capb) (zV (k := 188) (args := #[.slice B l.length capb, .func (.func 189) #[] #[]]) (fun v' L' => ∃ l', v' = .tuple #[] ∧ l'.Perm l ∧ dV l' ∧ SlS (.slice B l.length capb) l' L') (by kernel_rfl) (fun _ => by kernel_rfl) (fun w hO => (sort_call (E := []) hO hcv (by omega) (fun s hs => ⟨allMay_mem.1 hall s hs, hl s hs⟩)).mono fun e w' ⟨v', L', k1, ⟨l', ob', k2, k3, k4, k5, k6⟩, k7⟩ => ⟨v', L', k1, ⟨l', k2, k4, k5, by subst k3; exact k6⟩, k7⟩) (fun v5 od hv5 => ?_))))
  obtain ⟨d, rfl, hdp, hdso, hds⟩ := hv5
  have hdl : d.length = l.length := hdp.length_eq
  have hdm : ∀ s ∈ d, s.may = true ∧ s.short := fun s hs => ⟨allMay_mem.1 hall s (hdp.mem_iff.1 hs), hl s (hdp.mem_iff.1 hs)⟩
  unfold SlS at hds
  rw [← hdl] at hds ⊢
  refine xM (L' := od ++ []) (by simp) (ZR (Zv (.slice none 0 0) (ZN (z6 (ZO (Zv (.slice B d.length capb) ?_))))))
  refine Zv (.int .i64 (d.length : Int)) (Zv (.int .i64 0) (ZN (zL (xA (fun L f m => ∃ (k : Nat) (V : Option Addr) (q : Nat) (cv : Nat) (out : List Sp) (ob : List Blk) (j : Nat → Value), (q = out.length ∧ Merged d k V cv out ob) ∧ L = od ++ ob ∧ f = g9 j [(7, .slice V q cv), (25, .slice B d.length capb), (26, .int .i64 (d.length : Int)), (27, .int .i64 (k : Int))] ∧ m = d.length - k) (d.length - 0) ⟨0, none, 0, 0, [], [], _, ⟨rfl, Merged.start d⟩, rfl, ZU, rfl⟩ ?_))))
  rintro L f m ⟨k, V, q, cv, out, ob, j, hrel, rfl, rfl, rfl⟩
  obtain ⟨hq, hrel⟩ := hrel; subst hq; have hkl := hrel.le; have hlen := hrel.len
  refine z6 (z7 ?_)
  by_cases h3 : (k : Int) < (d.length : Int)
  · have hk : k < d.length := by omega
    obtain ⟨gb, curb, hB, rfl, hcapb, hmaxb, hszb, hcurb⟩ := Sl.block hds (by omega)
    obtain ⟨s, hs⟩ : ∃ s, d[k] = s := ⟨_, rfl⟩
    have hsk : s.short := (hdm s (hs ▸ List.getElem_mem _)).2
    refine Zd (p := (k : Int) < (d.length : Int)) true (decide_eq_true (h3)) (ZN (z6 (Zt (ZB (z6 (zL (ZO (zW (.pointer (some ⟨gb, k * 14, none⟩)) (by kernel_rfl) (dA (b := gb) (off := 0) (c := capb) (n := d.length) (k := .i64) (j := (k : Int)) (e := 74) (sz := 14) rfl (by kernel_rfl) hB (by kernel_rfl) (by kernel_rfl) (by kernel_rfl) (by omega) (by omega) (by show 0 + k * 14 = k * 14; omega)) ?_))))))))
    refine qS 0 ⟨gb, curb, 74⟩ (off := k * 14) (zM s) (by kernel_rfl) rfl (by kernel_rfl) (by kernel_rfl) (kX yC hcurb k 0 (by omega) (by omega) _ (by rw [hs]; kernel_rfl)) (Za (.agg #[.int .i64 0, .int .i64 0, .int .i64 0, .int .i64 0, .string ⟨#[]⟩, .string ⟨#[]⟩, .bool false, .int .i64 0, .int .i64 0, .int .i64 0, .int .i64 0, .string ⟨#[]⟩, .string ⟨#[]⟩, .bool false]) (fun b1 => Zs 0 ⟨b1, #[.int .i64 0, .int .i64 0, .int .i64 0, .int .i64 0, .string ⟨#[]⟩, .string ⟨#[]⟩, .bool false, .int .i64 0, .int .i64 0, .int .i64 0, .int .i64 0, .string ⟨#[]⟩, .string ⟨#[]⟩, .bool false], 74⟩ (off := 0) (zM s) (ZR (Zv (.slice V out.length cv) (Zv (.int .i64 (out.length : Int)) (Zu (k := .i64) (((out.length : Int) : Int) - 1) (IntWalk.i64_in _ (by omega)) (Zv (.int .i64 (((out.length : Int) : Int) - 1)) (zT ?_))))))))
    refine zB (z6 (z6 (mA (by kernel_rfl) (by kernel_rfl) (Zw (.int .i64 (((out.length : Int) : Int) - 1)) ?_))))
    by_cases h4 : (((out.length : Int) : Int) - 1 : Int) < 0
    · refine q_dec (p := (((out.length : Int) : Int) - 1 : Int) < 0) true (by kernel_rfl) (fun _ => by kernel_rfl) (decide_eq_true (h4)) ?_
      refine Zw (.bool true) (Zj (Zj (Zj (Zj (Zj (Zj (Zj (Zj (Zj (Zw (.bool true) (vR ?_)))))))))))
      refine zB (Zt (ZO (Zv (.slice V out.length cv) (Zl 0 ⟨b1, (zM s).cells, 74⟩ (off := 0) (zM s) (vQ 74 #[.int .i64 s.lo.e, .int .i64 s.lo.v.maj, .int .i64 s.lo.v.min, .int .i64 s.lo.v.pat, .string (mkS s.lo.v.pre), .string (mkS s.lo.v.build), .bool s.lo.aft, .int .i64 s.hi.e, .int .i64 s.hi.v.maj, .int .i64 s.hi.v.min, .int .i64 s.hi.v.pat, .string (mkS s.hi.v.pre), .string (mkS s.hi.v.build), .bool s.hi.aft] (by kernel_rfl) rfl (fun _ => by kernel_rfl) (fun b2 => xM (L' := [⟨b2, #[.int .i64 s.lo.e, .int .i64 s.lo.v.maj, .int .i64 s.lo.v.min, .int .i64 s.lo.v.pat, .string (mkS s.lo.v.pre), .string (mkS s.lo.v.build), .bool s.lo.aft, .int .i64 s.hi.e, .int .i64 s.hi.v.maj, .int .i64 s.hi.v.min, .int .i64 s.hi.v.pat, .string (mkS s.hi.v.pre), .string (mkS s.hi.v.build), .bool s.hi.aft], 74⟩, ⟨b1, (zM s).cells, 74⟩, ⟨gb, curb, 74⟩] ++ ob ++ []) (by rw [List.append_nil]; rfl) ?_))))))
      obtain ⟨i, z, e1, e2, e3, e4, e5⟩ := qL
      refine gP (sz := 14) (by kernel_rfl) rfl Tryz.underlying22 e1 e2 e3 e4 (by kernel_rfl) hrel.sl (a := ⟨b2, 0, none⟩) (m := 1) (c := 1) (news := yR s) (by kernel_rfl) rfl (fun w hO j u hj => ?_) (gY _) (by unfold maxLen; omega) (by rw [e5]; omega) (fun v2 ob2 hv2 => ?_)
      · rw [xV, cell_of_row w b2 (0 + j) (yR s).toArray 74 _ (hO.held ⟨b2, (yR s).toArray, 74⟩ (List.mem_append_left _ (List.mem_append_left _ (List.mem_cons_self ..))))]; simpa using hj
      have hv3 : SlS v2 (out ++ [s]) ob2 := hv2.to (by simp) (by simp)
      obtain ⟨V2, c2, rfl⟩ := hv3.form
      refine Zv (.slice V2 ((out ++ [s]).length) c2) (ZN (y8 (z8 (zG (zB (z7 (Zu (k := .i64) (((k + 1 : Nat) : Int)) (IntWalk.i64_in _ (by omega)) (Zv (.int .i64 ((k + 1 : Nat) : Int)) (zT (yZ (L' := [⟨gb, curb, 74⟩] ++ ob2) (fun w hO => ?_) ?_))))))))))
      · have h2 := hO.apart; rw [List.append_nil] at hO; exact Own.sub [_, _] hO
      exact zX (m' := d.length - (k + 1)) (by omega) ⟨k + 1, V2, (out ++ [s]).length, c2, out ++ [s], ob2, _, ⟨rfl, hrel.step hk hs hsk (mstep_app (fun t' ht' => by have : out = [] := List.eq_nil_of_length_eq_zero (by omega); subst this; simp at ht')) hv3⟩, rfl, ZU, rfl⟩
    obtain ⟨g, cur, hV, rfl, hcapc, hmaxc, hszc, hcurc⟩ := Sl.block hrel.sl (by omega)
    obtain ⟨t, ht⟩ : ∃ t, out[out.length - 1]'(by omega) = t := ⟨_, rfl⟩
    have htk : t.short := ht ▸ hrel.short _ (List.getElem_mem _)
    refine Ze (p := (((out.length : Int) : Int) - 1 : Int) < 0) false (decide_eq_false (h4)) (Zw (.bool false) (Zw (.slice V out.length cv) (Zw (.int .i64 (((out.length : Int) : Int) - 1)) (jL (.pointer (some ⟨g, (out.length - 1) * 14, none⟩)) (by kernel_rfl) (ZA (b := g) (off := 0) (c := cv) (n := out.length) (k := .i64) (j := (out.length : Int) - 1) (e := 74) (sz := 14) hV) (Zw (.pointer (some ⟨g, (out.length - 1) * 14 + 7, none⟩)) (q_load 2 ⟨g, cur, 74⟩ (off := (out.length - 1) * 14 + 7) (zC t.hi) (by kernel_rfl) rfl (by kernel_rfl) (by kernel_rfl) (kX yC hcurc (out.length - 1) 7 (by omega) (by omega) _ (by rw [ht]; kernel_rfl)) (Zw (.pointer (some ⟨b1, 0, none⟩)) (Zm 0 ⟨b1, (zM s).cells, 74⟩ (off := 0) (.agg #[.int .i64 s.lo.e, .int .i64 s.lo.v.maj, .int .i64 s.lo.v.min, .int .i64 s.lo.v.pat, .string (mkS s.lo.v.pre), .string (mkS s.lo.v.build), .bool s.lo.aft]) (Zq (k := 66) (args := #[zC t.hi, .agg #[.int .i64 s.lo.e, .int .i64 s.lo.v.maj, .int .i64 s.lo.v.min, .int .i64 s.lo.v.pat, .string (mkS s.lo.v.pre), .string (mkS s.lo.v.build), .bool s.lo.aft]]) (.int .i64 (zN t.hi s.lo)) (fun w _ => fQ t.hi s.lo w htk.2 hsk.1) ?_)))))))))
    by_cases h5 : (zN t.hi s.lo : Int) < 0
    · refine q_dec (p := (zN t.hi s.lo : Int) < 0) true (by kernel_rfl) (fun _ => by kernel_rfl) (decide_eq_true (h5)) ?_
      refine Zw (.bool true) (vR (zB (Zt (ZO (Zv (.slice V out.length cv) (Zl 0 ⟨b1, (zM s).cells, 74⟩ (off := 0) (zM s) (vQ 74 #[.int .i64 s.lo.e, .int .i64 s.lo.v.maj, .int .i64 s.lo.v.min, .int .i64 s.lo.v.pat, .string (mkS s.lo.v.pre), .string (mkS s.lo.v.build), .bool s.lo.aft, .int .i64 s.hi.e, .int .i64 s.hi.v.maj, .int .i64 s.hi.v.min, .int .i64 s.hi.v.pat, .string (mkS s.hi.v.pre), .string (mkS s.hi.v.build), .bool s.hi.aft] (by kernel_rfl) rfl (fun _ => by kernel_rfl) (fun b2 => xM (L' := [⟨b2, #[.int .i64 s.lo.e, .int .i64 s.lo.v.maj, .int .i64 s.lo.v.min, .int .i64 s.lo.v.pat, .string (mkS s.lo.v.pre), .string (mkS s.lo.v.build), .bool s.lo.aft, .int .i64 s.hi.e, .int .i64 s.hi.v.maj, .int .i64 s.hi.v.min, .int .i64 s.hi.v.pat, .string (mkS s.hi.v.pre), .string (mkS s.hi.v.build), .bool s.hi.aft], 74⟩, ⟨b1, (zM s).cells, 74⟩, ⟨gb, curb, 74⟩] ++ [⟨g, cur, 74⟩] ++ []) (by rw [List.append_nil]; rfl) ?_))))))))
      obtain ⟨i, z, e1, e2, e3, e4, e5⟩ := qL
      refine gP (sz := 14) (by kernel_rfl) rfl Tryz.underlying22 e1 e2 e3 e4 (by kernel_rfl) hrel.sl (a := ⟨b2, 0, none⟩) (m := 1) (c := 1) (news := yR s) (by kernel_rfl) rfl (fun w hO j u hj => ?_) (gY _) (by unfold maxLen; omega) (by rw [e5]; omega) (fun v2 ob2 hv2 => ?_)
      · rw [xV, cell_of_row w b2 (0 + j) (yR s).toArray 74 _ (hO.held ⟨b2, (yR s).toArray, 74⟩ (List.mem_append_left _ (List.mem_append_left _ (List.mem_cons_self ..))))]; simpa using hj
      have hv3 : SlS v2 (out ++ [s]) ob2 := hv2.to (by simp) (by simp)
      obtain ⟨V2, c2, rfl⟩ := hv3.form
      refine Zv (.slice V2 ((out ++ [s]).length) c2) (ZN (y8 (z8 (zG (zB (z7 (Zu (k := .i64) (((k + 1 : Nat) : Int)) (IntWalk.i64_in _ (by omega)) (Zv (.int .i64 ((k + 1 : Nat) : Int)) (zT (yZ (L' := [⟨gb, curb, 74⟩] ++ ob2) (fun w hO => ?_) ?_))))))))))
      · have h2 := hO.apart; rw [List.append_nil] at hO; exact Own.sub [_, _] hO
      exact zX (m' := d.length - (k + 1)) (by omega) ⟨k + 1, V2, (out ++ [s]).length, c2, out ++ [s], ob2, _, ⟨rfl, hrel.step hk hs hsk (mstep_app (fun t' ht' => by rw [last_at (by omega) ht ht']; assumption)) hv3⟩, rfl, ZU, rfl⟩
    refine Ze (p := (zN t.hi s.lo : Int) < 0) false (decide_eq_false (h5)) (Zw (.bool false) (vR (zB (Zf (ZB (ok_drawt 14 (by kernel_rfl) (by kernel_rfl) (by kernel_rfl) ?_))))))
    simp only [List.take_succ_cons, List.take_zero, List.drop_succ_cons, List.drop_zero]
    refine Zw (.slice V out.length cv) (Zw (.int .i64 (((out.length : Int) : Int) - 1)) (Zw (.slice V out.length cv) (Zw (.int .i64 (((out.length : Int) : Int) - 1)) (jL (.pointer (some ⟨g, (out.length - 1) * 14, none⟩)) (by kernel_rfl) (ZA (b := g) (off := 0) (c := cv) (n := out.length) (k := .i64) (j := (out.length : Int) - 1) (e := 74) (sz := 14) hV) (Zw (.pointer (some ⟨g, (out.length - 1) * 14 + 7, none⟩)) (q_load 2 ⟨g, cur, 74⟩ (off := (out.length - 1) * 14 + 7) (zC t.hi) (by kernel_rfl) rfl (by kernel_rfl) (by kernel_rfl) (kX yC hcurc (out.length - 1) 7 (by omega) (by omega) _ (by rw [ht]; kernel_rfl)) (Zw (.pointer (some ⟨b1, 7, none⟩)) (Zm 0 ⟨b1, (zM s).cells, 74⟩ (off := 7) (.agg #[.int .i64 s.hi.e, .int .i64 s.hi.v.maj, .int .i64 s.hi.v.min, .int .i64 s.hi.v.pat, .string (mkS s.hi.v.pre), .string (mkS s.hi.v.build), .bool s.hi.aft]) (Zq (k := 150) (args := #[zC t.hi, .agg #[.int .i64 s.hi.e, .int .i64 s.hi.v.maj, .int .i64 s.hi.v.min, .int .i64 s.hi.v.pat, .string (mkS s.hi.v.pre), .string (mkS s.hi.v.build), .bool s.hi.aft]]) (.tuple #[zC (yH t.hi s.hi), zC (yL t.hi s.hi)]) (fun w _ => gR t.hi s.hi w htk.2 hsk.2) (Zw (.tuple #[zC (yH t.hi s.hi), zC (yL t.hi s.hi)]) (Zw (zC (yH t.hi s.hi)) ?_)))))))))))
    refine Zw (zC (yL t.hi s.hi)) (jL (.pointer (some ⟨g, (out.length - 1) * 14, none⟩)) (by kernel_rfl) (ZA (b := g) (off := 0) (c := cv) (n := out.length) (k := .i64) (j := (out.length : Int) - 1) (e := 74) (sz := 14) hV) (vR (Zv (.pointer (some ⟨g, (out.length - 1) * 14 + 7, none⟩)) (s_storeS 2 ⟨g, cur, 74⟩ (off := (out.length - 1) * 14 + 7) (zC (yL t.hi s.hi)) 7 (by kernel_rfl) rfl rfl (by kernel_rfl) (by kernel_rfl) (by kernel_rfl) (by kernel_rfl) (by kernel_rfl) (by show (out.length - 1) * 14 + 7 + 7 ≤ cur.size; omega) (by kernel_rfl) ?_))))
    have hse := n5 yC hcurc (out.length - 1) 7 (by omega) (zC (yL t.hi s.hi)).cells ⟨t.lo, yL t.hi s.hi⟩ (show 7 + 7 ≤ 14 by decide) (by rw [ht]; rfl)
    refine zT (zP (zB (z7 (Zu (k := .i64) (((k + 1 : Nat) : Int)) (IntWalk.i64_in _ (by omega)) (Zv (.int .i64 ((k + 1 : Nat) : Int)) (zT ?_))))))
    have hset : Merged d (k + 1) V cv (out.set (out.length - 1) ⟨t.lo, yL t.hi s.hi⟩) [⟨g, xU cur ((out.length - 1) * 14 + 7) (zC (yL t.hi s.hi)).cells, 74⟩] := hrel.step hk hs hsk (mstep_set (by omega) ht (by assumption)) (by rw [List.length_set]; exact ⟨by rw [jG yC, List.length_set], .inr ⟨g, cv, _, by rw [hV], rfl, hcapc, hmaxc, by rw [hse.2]; exact hszc, hse.1⟩⟩)
    refine yZ (L' := [⟨gb, curb, 74⟩] ++ [⟨g, xU cur ((out.length - 1) * 14 + 7) (zC (yL t.hi s.hi)).cells, 74⟩]) (fun w hO => Own.sub [_] hO) ?_
    have hls : (out.set (out.length - 1) ⟨t.lo, yL t.hi s.hi⟩).length = out.length := List.length_set
    exact zX (m' := d.length - (k + 1)) (by omega) ⟨k + 1, V, out.length, cv, out.set (out.length - 1) ⟨t.lo, yL t.hi s.hi⟩, [⟨g, xU cur ((out.length - 1) * 14 + 7) (zC (yL t.hi s.hi)).cells, 74⟩], _, ⟨by rw [List.length_set], hset⟩, rfl, ZU, rfl⟩
  refine Zd (p := (k : Int) < (d.length : Int)) false (decide_eq_false (h3)) (ZN (z6 (Zf (y8 (z8 (zQ (zG (zB (z6 (z7 ?_))))))))))
  refine Zv (.slice V out.length cv) (zV (k := 152) (args := #[.slice V out.length cv]) (fun v' L' => ∃ ob', L' = od ++ ob' ∧ SlS v' out ob') (by kernel_rfl) (fun _ => by kernel_rfl) (fun w hO => jN (E := od) hO hrel.sl (by omega) hrel.short) (fun v4 L2 hv2 => ?_))
  obtain ⟨ob4, rfl, hs4⟩ := hv2
  exact Zv (v4) (Zv (.bool true) (ZN (zF (pU (v4) (.bool true) Tryz.results156 (by kernel_rfl) (by kernel_rfl) (fun w hO => ⟨v4, ob4, by rw [hall], by rw [hall, if_pos rfl, show wR l = out from by rw [← merge_eq (allMay_mem.1 hall) hdp hdso]; have he := hrel.eq; rw [List.take_of_length_le (by omega)] at he; exact he]; exact hs4, hO.sub od⟩)))))
end
section
theorem sub0 {P : Program} {ρ : Operand → Value} {o : Oper} (k : Nat) (hr : ∀ w, (execOp ρ o).run P w = .ok (.value (.int .i64 (IntKind.i64.wrap ((k : Int) - 0)))) w) (hk : (k : Int) ≤ 9223372036854775807) (w : World) : (execOp ρ o).run P w = .ok (.value (.int .i64 (k : Int))) w := by
  rw [hr w, Int.sub_zero, IntWalk.i64_in _ (by omega)]
theorem grow4_any (k : Nat) (W : World) (hk : k ≤ 600000) :
    Calls Tryz.prog 190 #[.slice none 0 0, .int .i64 (k : Int)] W fun e w' => ∃ v' ob', e = .returned v' ∧ SlS v' [] ob' ∧ Own [] W w' ob' := by
  refine zR (n := 27) Tryz.func190 rfl (by kernel_rfl) (by kernel_rfl) (ZO (Zv (.slice none 0 0) (ZN (z6 (ZO (Zv (.int .i64 (k : Int)) (Zd (p := (k : Int) < 0) false (decide_eq_false (by omega)) (zT ?_))))))))
  refine zB (Zf (ZB (z6 (ZO (Zv (.int .i64 (k : Int)) (Zv (.slice none 0 0) (Zv (.int .i64 (0 : Int)) (Zv (.slice none 0 0) (Zv (.int .i64 (0 : Int)) ?_)))))))))
  refine Zv (.int .i64 0) (zW (.int .i64 (k : Int)) (by kernel_rfl) (fun w => sub0 k (fun _ => by kernel_rfl) (by omega) w) (Zv (.int .i64 (k : Int)) (ZR (Zv (.int .i64 (k : Int)) ?_))))
  by_cases h1 : (0 : Int) < (k : Int)
  · refine yS (p := (0 : Int) < (k : Int)) true (by kernel_rfl) (fun _ => by kernel_rfl) (decide_eq_true (h1)) ?_
    refine ZY (z7 (Zv (.slice none 0 0) (Zv (.slice none 0 0) (Zv (.int .i64 (0 : Int)) (Zv (.slice none 0 0) (Zv (.int .i64 (k : Int)) ?_))))))
    obtain ⟨i, z, e1, e2, e3, e4, e5⟩ := qL
    refine s_append0 (sz := 14) (k := k) (by kernel_rfl) rfl (by kernel_rfl) (by kernel_rfl) Tryz.underlying22 Tryz.underlying3 e1 e2 e3 e4 (by omega) (by decide) (by unfold maxLen; omega) (by rw [e5]; omega) (fun b cs cap hcs hkc hcm => Zv (.slice none 0 0) (Zv (.int .i64 (0 : Int)) (zW (.slice (some ⟨b, 0, none⟩) 0 cap) (by kernel_rfl) (run_slhi (b := b) (off := 0) (n := k) (c := cap) (k := .i64) (j := 0) (e := 74) (sz := 14) rfl (by kernel_rfl) (by kernel_rfl) (by kernel_rfl) (by kernel_rfl) (by omega) (by omega)) (Zv (.slice (some ⟨b, 0, none⟩) 0 cap) (ZR (Zv (.slice (some ⟨b, 0, none⟩) 0 cap) (Zv (.slice (some ⟨b, 0, none⟩) 0 cap) (zT ?_))))))))
    exact zB (zF (ZF (.slice (some ⟨b, 0, none⟩) 0 cap) Tryz.results190 (fun w hO => ⟨_, [⟨b, cs, 74⟩], rfl, ⟨rfl, .inr ⟨b, cap, cs, rfl, rfl, Nat.zero_le _, hcm, hcs, by simp⟩⟩, hO⟩)))
  refine Zd (p := (0 : Int) < (k : Int)) false (decide_eq_false (h1)) (ZX (ZB (ZO (Zv (.slice none 0 0) (Zv (.slice none 0 0) (zT (zB ?_)))))))
  exact zF (ZF (.slice none 0 0) Tryz.results190 (fun w hO => ⟨_, [], rfl, Sl.nil _ _, by simpa using hO⟩))
end
section
theorem pL {P : Program} {ty : TypeId} {w : World} {b o : Nat} {v : Value} (hc : w.cell? ⟨b, o, none⟩ = some v) (hr : kQ P ty [v].toArray 0 = some v) : (loadVar ty ⟨b, o, none⟩).run P w = .ok v w :=
  old_load [v] v (fun j u h => by
    cases j with
    | zero => simp only [List.getElem?_cons_zero, Option.some.injEq] at h; rw [← h]; exact hc
    | succ j => simp at h) hr
theorem concat4_any (A B : Option Addr) (cap capb : Nat) (a b : List Sp) (W : World) (hv : Reads yR W W.heap.size A a) (hu : Reads yR W W.heap.size B b) (hn : a.length ≤ 100000) (hm : b.length ≤ 100000) (g : Nat) (hg : W.heap[g]? = some (.cells #[.slice A a.length cap, .slice B b.length capb] 22)) :
    Calls Tryz.prog 157 #[.slice (some ⟨g, 0, none⟩) 2 2] W fun e w' => ∃ v' ob', e = .returned v' ∧ SlS v' (a ++ b) ob' ∧ Own [] W w' ob' := by
  have hglt : g < W.heap.size := (Array.getElem?_eq_some_iff.1 hg).1
  have hcell : ∀ j u, (#[.slice A a.length cap, .slice B b.length capb] : Array Value).toList[j]? = some u → W.cell? ⟨g, 0 + j, none⟩ = some u := fun j u h => by rw [cell_of_row W g (0 + j) _ _ _ hg]; simpa using h
  refine zR (n := 36) Tryz.func157 rfl (by kernel_rfl) (by kernel_rfl) (ZO (Zv (.slice none 0 0) (ZR (Zv (.int .i64 0) (ZN (z6 ?_))))))
  refine ZO (Zv (.slice (some ⟨g, 0, none⟩) 2 2) (Zv (.int .i64 (2 : Int)) (Zv (.int .i64 0) (ZN (zL (xA (fun L f m => (∃  (j : Nat → Value), (True) ∧ L = [] ∧ f = g9 j [(0, .slice (some ⟨g, 0, none⟩) 2 2), (3, .int .i64 0), (9, .slice (some ⟨g, 0, none⟩) 2 2), (10, .int .i64 2), (11, .int .i64 0)] ∧ m = 3) ∨ (∃  (j : Nat → Value), (True) ∧ L = [] ∧ f = g9 j [(0, .slice (some ⟨g, 0, none⟩) 2 2), (3, .int .i64 ((0 + a.length : Nat) : Int)), (9, .slice (some ⟨g, 0, none⟩) 2 2), (10, .int .i64 2), (11, .int .i64 1)] ∧ m = 2) ∨ (∃  (j : Nat → Value), (True) ∧ L = [] ∧ f = g9 j [(0, .slice (some ⟨g, 0, none⟩) 2 2), (3, .int .i64 ((0 + a.length + b.length : Nat) : Int)), (9, .slice (some ⟨g, 0, none⟩) 2 2), (10, .int .i64 2), (11, .int .i64 2)] ∧ m = 1)) 3 (.inl ⟨_, trivial, rfl, ZU, rfl⟩) ?_))))))
  rintro L f m (⟨j, hrel, rfl, rfl, rfl⟩ | ⟨j, hrel, rfl, rfl, rfl⟩ | ⟨j, hrel, rfl, rfl, rfl⟩)
  · refine z6 ?_
    refine z7 (Zv (.bool true) (ZN (z6 (Zt (ZB (z6 (zL (z6 (z7 ?_)))))))))
    refine zW (.pointer (some ⟨g, 0, none⟩)) (by kernel_rfl) (ZV (b := g) (off := 0) (n := 2) (c := 2) (k := .i64) (j := 0) (e := 22) (sz := 1)) (Zo (.slice A a.length cap) (a := ⟨g, 0, none⟩) (fun w hO => pL ((hO.below.cell (p := ⟨g, 0, none⟩) hglt).trans (by simpa using hcell 0 _ rfl)) (by kernel_rfl)) (Zv (.slice A a.length cap) (ZR (Zv (.int .i64 0) (Zv (.slice A a.length cap) (Zv (.int .i64 (a.length : Int)) (Zu (k := .i64) (((0 + a.length : Nat) : Int)) (IntWalk.i64_in _ (by omega)) (Zv (.int .i64 ((0 + a.length : Nat) : Int)) ?_))))))))
    refine ZR (Zv (.int .i64 ((0 + a.length : Nat) : Int)) (Zd (p := ((0 + a.length : Nat) : Int) < 0) false (decide_eq_false (by omega)) (ZX (xK (zP (zB ?_))))))
    exact z7 (Zv (.int .i64 1) (Zv (.int .i64 1) (zT (zX (m' := 2) (by decide) (.inr (.inl ⟨_, trivial, rfl, ZU, rfl⟩))))))
  · refine z6 ?_
    refine z7 (Zv (.bool true) (ZN (z6 (Zt (ZB (z6 (zL (z6 (z7 ?_)))))))))
    refine zW (.pointer (some ⟨g, 1, none⟩)) (by kernel_rfl) (ZV (b := g) (off := 0) (n := 2) (c := 2) (k := .i64) (j := 1) (e := 22) (sz := 1)) (Zo (.slice B b.length capb) (a := ⟨g, 1, none⟩) (fun w hO => pL ((hO.below.cell (p := ⟨g, 1, none⟩) hglt).trans (by simpa using hcell 1 _ rfl)) (by kernel_rfl)) (Zv (.slice B b.length capb) (ZR (Zv (.int .i64 ((0 + a.length : Nat) : Int)) (Zv (.slice B b.length capb) (Zv (.int .i64 (b.length : Int)) (Zu (k := .i64) (((0 + a.length + b.length : Nat) : Int)) (IntWalk.i64_in _ (by omega)) (Zv (.int .i64 ((0 + a.length + b.length : Nat) : Int)) ?_))))))))
    refine ZR (Zv (.int .i64 ((0 + a.length + b.length : Nat) : Int)) (Zd (p := ((0 + a.length + b.length : Nat) : Int) < 0) false (decide_eq_false (by omega)) (ZX (xK (zP (zB ?_))))))
    exact z7 (Zv (.int .i64 2) (Zv (.int .i64 2) (zT (zX (m' := 1) (by decide) (.inr (.inr (⟨_, trivial, rfl, ZU, rfl⟩)))))))
  refine ZO (Zv (.bool false) (ZN (z6 (Zf (y8 (z8 (zQ (zG (zB ?_)))))))))
  refine ZO (Zv (.int .i64 ((0 + a.length + b.length : Nat) : Int)) (zV (k := 190) (args := #[.slice none 0 0, .int .i64 ((0 + a.length + b.length : Nat) : Int)]) (fun v' L' => SlS v' [] L') (by kernel_rfl) (fun _ => by kernel_rfl) (fun w hO => (grow4_any (0 + a.length + b.length) w (by omega)).mono fun e w' ⟨v', ob', h1, h2, h3⟩ => ⟨v', ob', h1, h2, by simpa using Own.joinN hO h3⟩) (fun v0 o0 hv0 => xM (L' := o0 ++ []) (List.append_nil _).symm (Zv (v0) (ZN (z6 (ZO (Zv (.slice (some ⟨g, 0, none⟩) 2 2) ?_))))))))
  refine Zv (.int .i64 (2 : Int)) (Zv (.int .i64 0) (ZN (zL (xA (fun L f m => (∃ (v : Value) (oq : List Blk) (j : Nat → Value), (SlS v ([]) oq) ∧ L = oq ++ [] ∧ f = g9 j [(6, v), (25, .slice (some ⟨g, 0, none⟩) 2 2), (26, .int .i64 2), (27, .int .i64 0)] ∧ m = 3) ∨ (∃ (v : Value) (oq : List Blk) (j : Nat → Value), (SlS v (a) oq) ∧ L = oq ++ [] ∧ f = g9 j [(6, v), (25, .slice (some ⟨g, 0, none⟩) 2 2), (26, .int .i64 2), (27, .int .i64 1)] ∧ m = 2) ∨ (∃ (v : Value) (oq : List Blk) (j : Nat → Value), (SlS v (a ++ b) oq) ∧ L = oq ++ [] ∧ f = g9 j [(6, v), (25, .slice (some ⟨g, 0, none⟩) 2 2), (26, .int .i64 2), (27, .int .i64 2)] ∧ m = 1)) 3 (.inl ⟨_, _, _, hv0, rfl, ZU, rfl⟩) ?_))))
  rintro L f m (⟨v, oq, j, hrel, rfl, rfl, rfl⟩ | ⟨v, oq, j, hrel, rfl, rfl, rfl⟩ | ⟨v, oq, j, hrel, rfl, rfl, rfl⟩)
  · unfold SlS at hrel
    refine ZO (Zv (.bool true) (ZN (z6 (Zt (ZB (z6 (zL (z6 ?_))))))))
    refine z7 (zW (.pointer (some ⟨g, 0, none⟩)) (by kernel_rfl) (ZV (b := g) (off := 0) (n := 2) (c := 2) (k := .i64) (j := 0) (e := 22) (sz := 1)) (Zo (.slice A a.length cap) (a := ⟨g, 0, none⟩) (fun w hO => pL ((hO.below.cell (p := ⟨g, 0, none⟩) hglt).trans (by simpa using hcell 0 _ rfl)) (by kernel_rfl)) (Zv (.slice A a.length cap) (ZN (z7 (Zv (v) (Zv (.slice A a.length cap) ?_)))))))
    obtain ⟨i, z, e1, e2, e3, e4, e5⟩ := qL
    refine xM (L' := [] ++ oq ++ []) (by simp) (tJ (E := []) (ob := oq) (L0 := []) (sz := 14) (l := a) (A := A) (c := cap) yC (by kernel_rfl) rfl Tryz.underlying22 e1 e2 e3 e4 (by kernel_rfl) hrel (by kernel_rfl) (fun w hO => hv.on hO.below hO.size) gY (by unfold maxLen; first | (simp; omega) | omega) (by rw [e5]; first | (simp; omega) | omega) (fun va oa hva => xM (L' := oa ++ []) (by simp) ?_))
    have hva2 : SlS va (a) oa := hva.to (by simp) (by simp)
    exact Zv (va) (zT (zP (zB (z7 (Zv (.int .i64 1) (Zv (.int .i64 1) (zT (zX (m' := 2) (by decide) (.inr (.inl ⟨va, oa, _, hva2, rfl, ZU, rfl⟩))))))))))
  · unfold SlS at hrel
    refine ZO (Zv (.bool true) (ZN (z6 (Zt (ZB (z6 (zL (z6 ?_))))))))
    refine z7 (zW (.pointer (some ⟨g, 1, none⟩)) (by kernel_rfl) (ZV (b := g) (off := 0) (n := 2) (c := 2) (k := .i64) (j := 1) (e := 22) (sz := 1)) (Zo (.slice B b.length capb) (a := ⟨g, 1, none⟩) (fun w hO => pL ((hO.below.cell (p := ⟨g, 1, none⟩) hglt).trans (by simpa using hcell 1 _ rfl)) (by kernel_rfl)) (Zv (.slice B b.length capb) (ZN (z7 (Zv (v) (Zv (.slice B b.length capb) ?_)))))))
    obtain ⟨i, z, e1, e2, e3, e4, e5⟩ := qL
    refine xM (L' := [] ++ oq ++ []) (by simp) (tJ (E := []) (ob := oq) (L0 := []) (sz := 14) (l := b) (A := B) (c := capb) yC (by kernel_rfl) rfl Tryz.underlying22 e1 e2 e3 e4 (by kernel_rfl) hrel (by kernel_rfl) (fun w hO => hu.on hO.below hO.size) gY (by unfold maxLen; first | (simp; omega) | omega) (by rw [e5]; first | (simp; omega) | omega) (fun va oa hva => xM (L' := oa ++ []) (by simp) ?_))
    have hva2 : SlS va (a ++ b) oa := hva.to (by simp) (by simp)
    exact Zv (va) (zT (zP (zB (z7 (Zv (.int .i64 2) (Zv (.int .i64 2) (zT (zX (m' := 1) (by decide) (.inr (.inr (⟨va, oa, _, hva2, rfl, ZU, rfl⟩)))))))))))
  unfold SlS at hrel
  refine ZO (Zv (.bool false) (ZN (z6 (Zf (y8 (z8 (zQ (zG (zB ?_)))))))))
  exact ZO (Zv (v) (Zv (v) (ZN (zF (ZF (v) Tryz.results157 (fun w hO => ⟨v, oq, rfl, hrel, by simpa using hO⟩))))))
theorem or4_any (A B : Option Addr) (cap capb : Nat) (a b : List Sp) (W : World) (hv : Reads yR W W.heap.size A a) (hu : Reads yR W W.heap.size B b) (hn : a.length ≤ 100000) (hm : b.length ≤ 100000) (ha : yU a) (hb : yU b) :
    Calls Tryz.prog 107 #[.slice A a.length cap, .slice B b.length capb] W fun e w' => ∃ v' ob', e = .returned v' ∧ SlS v' (if zJ a && zJ b then orL a b else []) ob' ∧ Own [] W w' ob' := by
  refine zR (n := 24) Tryz.func107 rfl (by kernel_rfl) (by kernel_rfl) (ZO (Zv (.slice none 0 0) (ZN (z6 (ZO (Zv (.slice A a.length cap) (Zc (k := 39) (args := #[.slice A a.length cap]) (.bool (zJ a)) (fun w hO => vJ A cap a w (hv.on hO.below hO.size) (by omega) ha) ?_)))))))
  cases h1 : zJ a with
  | true =>
    refine Zv (.bool false) (Zv (.bool false) (Zv (.slice B b.length capb) (Zc (k := 39) (args := #[.slice B b.length capb]) (.bool (zJ b)) (fun w hO => vJ B capb b w (hu.on hO.below hO.size) (by omega) hb) ?_)))
    cases h2 : zJ b with
    | true =>
      refine Zv (.bool false) (Zv (.bool false) (ZX (ZB (ZO (Zv (.slice A a.length cap) (Zv (.slice B b.length capb) (vQ 22 #[.slice A a.length cap, .slice B b.length capb] (by kernel_rfl) rfl (fun _ => by kernel_rfl) (fun b1 => ?_))))))))
      refine zV (k := 157) (args := #[.slice (some ⟨b1, 0, none⟩) 2 2]) (fun v' L' => SlS v' (a ++ b) L') (by kernel_rfl) (fun _ => by kernel_rfl) (fun w hO => (concat4_any A B cap capb a b w (hv.on hO.below hO.size) (hu.on hO.below hO.size) hn hm b1 (hO.held _ List.mem_cons_self)).mono fun e w' ⟨v', ob', h1, h2, h3⟩ => ⟨v', ob', h1, h2, Own.take (Own.joinN hO h3) (fun x hx => List.mem_append_left _ hx) h3.apart⟩) (fun cv oc hcv => ?_)
      obtain ⟨C, capc, rfl⟩ := hcv.form
      have hlen : (a ++ b).length ≤ 200000 := by rw [List.length_append]; omega
      have hlab := both_short ha hb
      refine zV (k := 156) (args := #[.slice C (a ++ b).length capc]) (fun v' L' => ∃ mv, v' = .tuple #[mv, .bool (kL (a ++ b))] ∧ SlS mv (if kL (a ++ b) then wR (a ++ b) else []) L') (by kernel_rfl) (fun _ => by kernel_rfl) (fun w hO => (mD C capc (a ++ b) w (Sl.reads hcv rfl hO (fun x hx => hx)) (by omega) hlab).mono fun e w' ⟨v', ob', h1, h2, h3⟩ => ⟨_, ob', h1, ⟨v', rfl, h2⟩, Own.take (Own.joinN hO h3) (fun x hx => List.mem_append_left _ hx) h3.apart⟩) (fun tv om htv => ?_)
      obtain ⟨mv, rfl, hmv⟩ := htv
      refine Zv (.tuple #[mv, .bool (kL (a ++ b))]) (Zv (mv) (Zv (.bool (kL (a ++ b))) (Zv (mv) (Zv (.bool (kL (a ++ b))) (ZR (Zv (mv) (Zv (mv) (zT ?_))))))))
      exact zB (zF (ZF (mv) Tryz.results107 (fun w hO => ⟨mv, om, rfl, by rw [if_pos (by simp)]; unfold orL; have hall : kL (a ++ b) = true := allMay_mem.2 (t7 (by assumption) (by assumption)); rw [hall, if_pos rfl] at hmv; exact hmv, hO⟩)))
    | false =>
      refine Zv (.bool true) (Zv (.bool true) (ZY (ZO (Zv (.slice none 0 0) (ZN (zF (zA ?_)))))))
      exact ZF (.slice none 0 0) Tryz.results107 (fun w hO => ⟨_, [], rfl, by rw [if_neg (by simp)]; exact Sl.nil _ _, by simpa using hO⟩)
  | false =>
    refine Zv (.bool true) (Zv (.bool true) (Zk (Zk (Zk (Zv (.bool true) (ZY (ZO (Zv (.slice none 0 0) ?_))))))))
    exact ZN (zF (zA (ZF (.slice none 0 0) Tryz.results107 (fun w hO => ⟨_, [], rfl, by rw [if_neg (by simp)]; exact Sl.nil _ _, by simpa using hO⟩))))
end
section
structure BothB (a b : List Sp) (W : World) (A1 B1 : Option Addr) (c1 c2 n : Nat) (a1 b1 : List Sp) (v : Value) (out : List Sp) (ob : List Blk) : Prop where
  ra : Reads yR W W.heap.size A1 a1
  rb : Reads yR W W.heap.size B1 b1
  ca : a1.length ≤ c1
  cb : b1.length ≤ c2
  sa : yU a1
  sb : yU b1
  sl : SlS v out ob
  so : yU out
  len : out.length + n ≤ a.length + b.length
  fuel : a1.length + b1.length ≤ n
  eq : tC (a.length + b.length) [] a b = tC n out a1 b1
theorem andG_end {n : Nat} {out a b : List Sp} (h : ¬ (0 < a.length ∧ 0 < b.length)) : tC n out a b = out := by
  cases n with
  | zero => cases a <;> cases b <;> rfl
  | succ n =>
    cases a with
    | nil => rfl
    | cons s a =>
      cases b with
      | nil => rfl
      | cons u b => exact absurd ⟨by simp, by simp⟩ h
theorem drop1_short {l : List Sp} (h : yU l) : yU (l.drop 1) := fun s hs => h s (List.mem_of_mem_drop hs)
theorem BothB.stepA {a b : List Sp} {W : World} {A1 B1 : Option Addr} {c1 c2 n o b0 : Nat} {a1 b1 : List Sp} {v v2 : Value} {out : List Sp} {ob ob2 : List Blk} (h : BothB a b W A1 B1 c1 c2 n a1 b1 v out ob) (ha : 0 < a1.length) (hb : 0 < b1.length) {s u : Sp} (hs : a1[0] = s) (hu : b1[0] = u) (hA : A1 = some ⟨b0, o, none⟩)
    (he : s.hi = yH s.hi u.hi) (h2 : SlS v2 (gM out (yL s.lo u.lo) (yH s.hi u.hi)) ob2) : BothB a b W (some ⟨b0, o + (if c1 = (1 : Int).toNat then 0 else (1 : Int).toNat * 14), none⟩) B1 (c1 - (1 : Int).toNat) c2 (n - 1) (a1.drop 1) b1 v2 (gM out (yL s.lo u.lo) (yH s.hi u.hi)) ob2 := by
  have hss : s.short := hs ▸ h.sa _ (List.getElem_mem ha)
  have hus : u.short := hu ▸ h.sb _ (List.getElem_mem hb)
  have hf := h.fuel
  have h1 : (1 : Int).toNat = 1 := rfl
  refine ⟨h.ra.drop1 yC hA h.ca, h.rb, by rw [List.length_drop, h1]; have := h.ca; omega, h.cb, drop1_short h.sa, h.sb, h2, mL h.so (dJ hss.1 hus.1) (nI hss.2 hus.2), by have := h.len; have := mM out (yL s.lo u.lo) (yH s.hi u.hi); omega, by rw [List.length_drop]; omega, ?_⟩
  rw [h.eq]
  obtain ⟨m, rfl⟩ : ∃ m, n = m + 1 := ⟨n - 1, by omega⟩
  match a1, b1, ha, hb, hs, hu with
  | x :: a2, y :: b2, _, _, hs, hu =>
    obtain rfl : x = s := hs
    obtain rfl : y = u := hu
    conv => lhs; unfold tC
    rw [if_pos he]; rfl
theorem BothB.stepB {a b : List Sp} {W : World} {A1 B1 : Option Addr} {c1 c2 n o b0 : Nat} {a1 b1 : List Sp} {v v2 : Value} {out : List Sp} {ob ob2 : List Blk} (h : BothB a b W A1 B1 c1 c2 n a1 b1 v out ob) (ha : 0 < a1.length) (hb : 0 < b1.length) {s u : Sp} (hs : a1[0] = s) (hu : b1[0] = u) (hB : B1 = some ⟨b0, o, none⟩)
    (he : ¬ s.hi = yH s.hi u.hi) (h2 : SlS v2 (gM out (yL s.lo u.lo) (yH s.hi u.hi)) ob2) : BothB a b W A1 (some ⟨b0, o + (if c2 = (1 : Int).toNat then 0 else (1 : Int).toNat * 14), none⟩) c1 (c2 - (1 : Int).toNat) (n - 1) a1 (b1.drop 1) v2 (gM out (yL s.lo u.lo) (yH s.hi u.hi)) ob2 := by
  have hss : s.short := hs ▸ h.sa _ (List.getElem_mem ha)
  have hus : u.short := hu ▸ h.sb _ (List.getElem_mem hb)
  have hf := h.fuel
  have h1 : (1 : Int).toNat = 1 := rfl
  refine ⟨h.ra, h.rb.drop1 yC hB h.cb, h.ca, by rw [List.length_drop, h1]; have := h.cb; omega, h.sa, drop1_short h.sb, h2, mL h.so (dJ hss.1 hus.1) (nI hss.2 hus.2), by have := h.len; have := mM out (yL s.lo u.lo) (yH s.hi u.hi); omega, by rw [List.length_drop]; omega, ?_⟩
  rw [h.eq]
  obtain ⟨m, rfl⟩ : ∃ m, n = m + 1 := ⟨n - 1, by omega⟩
  match a1, b1, ha, hb, hs, hu with
  | x :: a2, y :: b2, _, _, hs, hu =>
    obtain rfl : x = s := hs
    obtain rfl : y = u := hu
    conv => lhs; unfold tC
    rw [if_neg he]; rfl
theorem and4_any (A B : Option Addr) (cap capb : Nat) (a b : List Sp) (W : World) (hv : Reads yR W W.heap.size A a) (hu : Reads yR W W.heap.size B b) (hn : a.length ≤ 100000) (hm : b.length ≤ 100000) (ha : yU a) (hb : yU b) (hca : a.length ≤ cap) (hcb : b.length ≤ capb) :
    Calls Tryz.prog 105 #[.slice A a.length cap, .slice B b.length capb] W fun e w' => ∃ v' ob', e = .returned v' ∧ SlS v' (if zJ a && zJ b then f5 a b else []) ob' ∧ Own [] W w' ob' := by
  refine zR (n := 66) Tryz.func105 rfl (by kernel_rfl) (by kernel_rfl) (ZO (Zv (.slice none 0 0) (ZN (z6 (ZO (Zv (.slice A a.length cap) (Zc (k := 39) (args := #[.slice A a.length cap]) (.bool (zJ a)) (fun w hO => vJ A cap a w (hv.on hO.below hO.size) (by omega) ha) ?_)))))))
  cases h1 : zJ a with
  | true =>
    refine Zv (.bool false) (Zv (.bool false) (Zv (.slice B b.length capb) (Zc (k := 39) (args := #[.slice B b.length capb]) (.bool (zJ b)) (fun w hO => vJ B capb b w (hu.on hO.below hO.size) (by omega) hb) ?_)))
    cases h2 : zJ b with
    | true =>
      refine Zv (.bool false) (Zv (.bool false) (ZX (ZB (ZO (Zv (.slice none 0 0) (zT (zB ?_)))))))
      refine z6 (zL (kJ (L' := [] ++ []) rfl (xA (fun L f m => ∃ (A1 : Option Addr) (B1 : Option Addr) (q1 : Nat) (q2 : Nat) (c1 : Nat) (c2 : Nat) (n : Nat) (a1 : List Sp) (b1 : List Sp) (v : Value) (out : List Sp) (ob : List Blk) (j : Nat → Value), (q1 = a1.length ∧ q2 = b1.length ∧ BothB a b W A1 B1 c1 c2 n a1 b1 v out ob) ∧ L = ob ++ [] ∧ f = g9 j [(0, .slice A1 q1 c1), (1, .slice B1 q2 c2), (5, v)] ∧ m = a1.length + b1.length) (a.length + b.length) ⟨A, B, a.length, b.length, cap, capb, a.length + b.length, a, b, _, [], [], _, ⟨rfl, rfl, ⟨hv, hu, hca, hcb, ha, hb, Sl.nil _ _, fun s hs => by simp at hs, by simp, Nat.le_refl _, rfl⟩⟩, rfl, ZU, rfl⟩ ?_)))
      rintro L f m ⟨A1, B1, q1, q2, c1, c2, n, a1, b1, v, out, ob, j, hrel, rfl, rfl, rfl⟩
      obtain ⟨hq1, hq2, hrel⟩ := hrel; subst hq1; subst hq2; have hlen := hrel.len; have hfuel := hrel.fuel; refine kJ (L' := ob) (List.append_nil ob) ?_
      refine z6 (ZO (Zv (.slice A1 a1.length c1) (Zv (.int .i64 (a1.length : Int)) ?_)))
      by_cases h3 : (0 : Int) < (a1.length : Int)
      · have hka : 0 < a1.length := by omega
        obtain ⟨ba, offa, hA, hlta, hcela⟩ := hrel.ra hka
        obtain ⟨s, hs⟩ : ∃ s, a1[0] = s := ⟨_, rfl⟩
        have hsk : s.short := hs ▸ hrel.sa _ (List.getElem_mem hka)
        refine Zd (p := (0 : Int) < (a1.length : Int)) true (decide_eq_true (h3)) (Zv (.bool true) (Zv (.slice B1 b1.length c2) (Zv (.int .i64 (b1.length : Int)) ?_)))
        by_cases h4 : (0 : Int) < (b1.length : Int)
        · have hkb : 0 < b1.length := by omega
          obtain ⟨bb, offb, hB, hltb, hcelb⟩ := hrel.rb hkb
          obtain ⟨u, hu1⟩ : ∃ u, b1[0] = u := ⟨_, rfl⟩
          have huk : u.short := hu1 ▸ hrel.sb _ (List.getElem_mem hkb)
          refine Zd (p := (0 : Int) < (b1.length : Int)) true (decide_eq_true (h4)) (Zv (.bool true) (ZY (ZB (zL (z6 (ok_join (fun L f => ∃ (p6 p7 : Nat) (j : Nat → Value), L = ⟨p7, (zC (yL s.lo u.lo)).cells, 72⟩ :: (⟨p6, (zC (yH s.lo u.lo)).cells, 72⟩ :: (ob)) ∧ f = g9 j [(0, .slice A1 a1.length c1), (1, .slice B1 b1.length c2), (5, v), (6, .pointer (some ⟨p6, 0, none⟩)), (7, .pointer (some ⟨p7, 0, none⟩))]) ?_ ?_))))))
          · refine dH (by kernel_rfl) ?_
            refine ZT 0 [] _ (.slice A1 a1.length c1) yA rfl (wY 1 [] _ (.pointer (some ⟨ba, offa + 0 * 14, none⟩)) rfl (by kernel_rfl) (by kernel_rfl) (by kernel_rfl) yA (by kernel_rfl) (fun w _ => dA (b := ba) (off := offa) (c := c1) (n := a1.length) (k := .i64) (j := 0) (e := 74) (sz := 14) rfl (by kernel_rfl) hA (by kernel_rfl) (by kernel_rfl) (by kernel_rfl) (by omega) (by omega) (by omega) w) (ZT 2 [] _ (.pointer (some ⟨ba, offa + 0 * 14 + 0, none⟩)) yA rfl (hl_old 3 _ (a := ⟨ba, offa + 0 * 14 + 0, none⟩) (zC s.lo) rfl (by kernel_rfl) (by kernel_rfl) (by kernel_rfl) yA (fun w hO => Own.sub [] hO) (by kernel_rfl) rfl (by kernel_rfl) (fun w hO => xG yC (fun j u h => (hO.below.cell (p := ⟨ba, offa + j, none⟩) hlta).trans (hcela j u h)) 0 0 hka (by omega) _ (by rw [hs]; kernel_rfl)) (ZT 4 [] _ (.slice B1 b1.length c2) yA rfl (wY 5 [] _ (.pointer (some ⟨bb, offb + 0 * 14, none⟩)) rfl (by kernel_rfl) (by kernel_rfl) (by kernel_rfl) yA (by kernel_rfl) (fun w _ => dA (b := bb) (off := offb) (c := c2) (n := b1.length) (k := .i64) (j := 0) (e := 74) (sz := 14) rfl (by kernel_rfl) hB (by kernel_rfl) (by kernel_rfl) (by kernel_rfl) (by omega) (by omega) (by omega) w) (ZT 6 [] _ (.pointer (some ⟨bb, offb + 0 * 14 + 0, none⟩)) yA rfl (hl_old 7 _ (a := ⟨bb, offb + 0 * 14 + 0, none⟩) (zC u.lo) rfl (by kernel_rfl) (by kernel_rfl) (by kernel_rfl) yA (fun w hO => Own.sub [] hO) (by kernel_rfl) rfl (by kernel_rfl) (fun w hO => xG yC (fun j u h => (hO.below.cell (p := ⟨bb, offb + j, none⟩) hltb).trans (hcelb j u h)) 0 0 hkb (by omega) _ (by rw [hu1]; kernel_rfl)) (h_three 8 12 13 (by kernel_rfl) ?_ ?_ ?_))))))))
            · refine kK [] _ (k := 150) (args := #[zC s.lo, zC u.lo]) (.tuple #[zC (yH s.lo u.lo), zC (yL s.lo u.lo)]) rfl (by kernel_rfl) (fun _ => by kernel_rfl) (fun w _ => gR s.lo u.lo w hsk.1 huk.1) ?_
              refine ZT 9 [] _ (.tuple #[zC (yH s.lo u.lo), zC (yL s.lo u.lo)]) yA rfl (ZT 10 [] _ (zC (yH s.lo u.lo)) yA rfl (ZT 11 [] _ (zC (yL s.lo u.lo)) yA rfl (mU 12 13 (by kernel_rfl) ?_ ?_)))
              · refine yJ [] _ (.agg #[.int .i64 0, .int .i64 0, .int .i64 0, .int .i64 0, .string ⟨#[]⟩, .string ⟨#[]⟩, .bool false]) rfl (by kernel_rfl) rfl (by kernel_rfl) (fun b1 => ?_)
                exact y6 13 (by kernel_rfl) (yJ [⟨b1, #[.int .i64 0, .int .i64 0, .int .i64 0, .int .i64 0, .string ⟨#[]⟩, .string ⟨#[]⟩, .bool false], 72⟩] _ (.agg #[.int .i64 0, .int .i64 0, .int .i64 0, .int .i64 0, .string ⟨#[]⟩, .string ⟨#[]⟩, .bool false]) rfl (by kernel_rfl) rfl (by kernel_rfl) (fun b2 => y6 14 (by kernel_rfl) (ZS [⟨b2, #[.int .i64 0, .int .i64 0, .int .i64 0, .int .i64 0, .string ⟨#[]⟩, .string ⟨#[]⟩, .bool false], 72⟩, ⟨b1, #[.int .i64 0, .int .i64 0, .int .i64 0, .int .i64 0, .string ⟨#[]⟩, .string ⟨#[]⟩, .bool false], 72⟩] _ 1 ⟨b1, #[.int .i64 0, .int .i64 0, .int .i64 0, .int .i64 0, .string ⟨#[]⟩, .string ⟨#[]⟩, .bool false], 72⟩ (off := 0) (zC (yH s.lo u.lo)) rfl rfl (y6 15 (by kernel_rfl) (ZS [⟨b2, #[.int .i64 0, .int .i64 0, .int .i64 0, .int .i64 0, .string ⟨#[]⟩, .string ⟨#[]⟩, .bool false], 72⟩, ⟨b1, (zC (yH s.lo u.lo)).cells, 72⟩] _ 0 ⟨b2, #[.int .i64 0, .int .i64 0, .int .i64 0, .int .i64 0, .string ⟨#[]⟩, .string ⟨#[]⟩, .bool false], 72⟩ (off := 0) (zC (yL s.lo u.lo)) rfl rfl (x7 (by kernel_rfl) (xN ⟨b1, b2, _, rfl, ZU⟩)))))))
              exact yJ [] _ (.agg #[.int .i64 0, .int .i64 0, .int .i64 0, .int .i64 0, .string ⟨#[]⟩, .string ⟨#[]⟩, .bool false]) rfl (by kernel_rfl) rfl (by kernel_rfl) (fun b1 => y6 12 (by kernel_rfl) (yJ [⟨b1, #[.int .i64 0, .int .i64 0, .int .i64 0, .int .i64 0, .string ⟨#[]⟩, .string ⟨#[]⟩, .bool false], 72⟩] _ (.agg #[.int .i64 0, .int .i64 0, .int .i64 0, .int .i64 0, .string ⟨#[]⟩, .string ⟨#[]⟩, .bool false]) rfl (by kernel_rfl) rfl (by kernel_rfl) (fun b2 => y6 14 (by kernel_rfl) (ZS [⟨b2, #[.int .i64 0, .int .i64 0, .int .i64 0, .int .i64 0, .string ⟨#[]⟩, .string ⟨#[]⟩, .bool false], 72⟩, ⟨b1, #[.int .i64 0, .int .i64 0, .int .i64 0, .int .i64 0, .string ⟨#[]⟩, .string ⟨#[]⟩, .bool false], 72⟩] _ 0 ⟨b2, #[.int .i64 0, .int .i64 0, .int .i64 0, .int .i64 0, .string ⟨#[]⟩, .string ⟨#[]⟩, .bool false], 72⟩ (off := 0) (zC (yH s.lo u.lo)) rfl rfl (y6 15 (by kernel_rfl) (ZS [⟨b2, (zC (yH s.lo u.lo)).cells, 72⟩, ⟨b1, #[.int .i64 0, .int .i64 0, .int .i64 0, .int .i64 0, .string ⟨#[]⟩, .string ⟨#[]⟩, .bool false], 72⟩] _ 1 ⟨b1, #[.int .i64 0, .int .i64 0, .int .i64 0, .int .i64 0, .string ⟨#[]⟩, .string ⟨#[]⟩, .bool false], 72⟩ (off := 0) (zC (yL s.lo u.lo)) rfl rfl (x7 (by kernel_rfl) (vM (xN ⟨b2, b1, _, rfl, ZU⟩)))))))))
            · refine yJ [] _ (.agg #[.int .i64 0, .int .i64 0, .int .i64 0, .int .i64 0, .string ⟨#[]⟩, .string ⟨#[]⟩, .bool false]) rfl (by kernel_rfl) rfl (by kernel_rfl) (fun b1 => ?_)
              refine mU 8 13 (by kernel_rfl) ?_ ?_
              · refine kK [⟨b1, #[.int .i64 0, .int .i64 0, .int .i64 0, .int .i64 0, .string ⟨#[]⟩, .string ⟨#[]⟩, .bool false], 72⟩] _ (k := 150) (args := #[zC s.lo, zC u.lo]) (.tuple #[zC (yH s.lo u.lo), zC (yL s.lo u.lo)]) rfl (by kernel_rfl) (fun _ => by kernel_rfl) (fun w _ => gR s.lo u.lo w hsk.1 huk.1) ?_
                exact ZT 9 [⟨b1, #[.int .i64 0, .int .i64 0, .int .i64 0, .int .i64 0, .string ⟨#[]⟩, .string ⟨#[]⟩, .bool false], 72⟩] _ (.tuple #[zC (yH s.lo u.lo), zC (yL s.lo u.lo)]) yA rfl (ZT 10 [⟨b1, #[.int .i64 0, .int .i64 0, .int .i64 0, .int .i64 0, .string ⟨#[]⟩, .string ⟨#[]⟩, .bool false], 72⟩] _ (zC (yH s.lo u.lo)) yA rfl (ZT 11 [⟨b1, #[.int .i64 0, .int .i64 0, .int .i64 0, .int .i64 0, .string ⟨#[]⟩, .string ⟨#[]⟩, .bool false], 72⟩] _ (zC (yL s.lo u.lo)) yA rfl (y6 13 (by kernel_rfl) (yJ [⟨b1, #[.int .i64 0, .int .i64 0, .int .i64 0, .int .i64 0, .string ⟨#[]⟩, .string ⟨#[]⟩, .bool false], 72⟩] _ (.agg #[.int .i64 0, .int .i64 0, .int .i64 0, .int .i64 0, .string ⟨#[]⟩, .string ⟨#[]⟩, .bool false]) rfl (by kernel_rfl) rfl (by kernel_rfl) (fun b2 => y6 14 (by kernel_rfl) (ZS [⟨b2, #[.int .i64 0, .int .i64 0, .int .i64 0, .int .i64 0, .string ⟨#[]⟩, .string ⟨#[]⟩, .bool false], 72⟩, ⟨b1, #[.int .i64 0, .int .i64 0, .int .i64 0, .int .i64 0, .string ⟨#[]⟩, .string ⟨#[]⟩, .bool false], 72⟩] _ 1 ⟨b1, #[.int .i64 0, .int .i64 0, .int .i64 0, .int .i64 0, .string ⟨#[]⟩, .string ⟨#[]⟩, .bool false], 72⟩ (off := 0) (zC (yH s.lo u.lo)) rfl rfl (y6 15 (by kernel_rfl) (ZS [⟨b2, #[.int .i64 0, .int .i64 0, .int .i64 0, .int .i64 0, .string ⟨#[]⟩, .string ⟨#[]⟩, .bool false], 72⟩, ⟨b1, (zC (yH s.lo u.lo)).cells, 72⟩] _ 0 ⟨b2, #[.int .i64 0, .int .i64 0, .int .i64 0, .int .i64 0, .string ⟨#[]⟩, .string ⟨#[]⟩, .bool false], 72⟩ (off := 0) (zC (yL s.lo u.lo)) rfl rfl (x7 (by kernel_rfl) (xN ⟨b1, b2, _, rfl, ZU⟩))))))))))
              exact yJ [⟨b1, #[.int .i64 0, .int .i64 0, .int .i64 0, .int .i64 0, .string ⟨#[]⟩, .string ⟨#[]⟩, .bool false], 72⟩] _ (.agg #[.int .i64 0, .int .i64 0, .int .i64 0, .int .i64 0, .string ⟨#[]⟩, .string ⟨#[]⟩, .bool false]) rfl (by kernel_rfl) rfl (by kernel_rfl) (fun b2 => y6 8 (by kernel_rfl) (kK [⟨b2, #[.int .i64 0, .int .i64 0, .int .i64 0, .int .i64 0, .string ⟨#[]⟩, .string ⟨#[]⟩, .bool false], 72⟩, ⟨b1, #[.int .i64 0, .int .i64 0, .int .i64 0, .int .i64 0, .string ⟨#[]⟩, .string ⟨#[]⟩, .bool false], 72⟩] _ (k := 150) (args := #[zC s.lo, zC u.lo]) (.tuple #[zC (yH s.lo u.lo), zC (yL s.lo u.lo)]) rfl (by kernel_rfl) (fun _ => by kernel_rfl) (fun w _ => gR s.lo u.lo w hsk.1 huk.1) (ZT 9 [⟨b2, #[.int .i64 0, .int .i64 0, .int .i64 0, .int .i64 0, .string ⟨#[]⟩, .string ⟨#[]⟩, .bool false], 72⟩, ⟨b1, #[.int .i64 0, .int .i64 0, .int .i64 0, .int .i64 0, .string ⟨#[]⟩, .string ⟨#[]⟩, .bool false], 72⟩] _ (.tuple #[zC (yH s.lo u.lo), zC (yL s.lo u.lo)]) yA rfl (ZT 10 [⟨b2, #[.int .i64 0, .int .i64 0, .int .i64 0, .int .i64 0, .string ⟨#[]⟩, .string ⟨#[]⟩, .bool false], 72⟩, ⟨b1, #[.int .i64 0, .int .i64 0, .int .i64 0, .int .i64 0, .string ⟨#[]⟩, .string ⟨#[]⟩, .bool false], 72⟩] _ (zC (yH s.lo u.lo)) yA rfl (ZT 11 [⟨b2, #[.int .i64 0, .int .i64 0, .int .i64 0, .int .i64 0, .string ⟨#[]⟩, .string ⟨#[]⟩, .bool false], 72⟩, ⟨b1, #[.int .i64 0, .int .i64 0, .int .i64 0, .int .i64 0, .string ⟨#[]⟩, .string ⟨#[]⟩, .bool false], 72⟩] _ (zC (yL s.lo u.lo)) yA rfl (y6 14 (by kernel_rfl) (ZS [⟨b2, #[.int .i64 0, .int .i64 0, .int .i64 0, .int .i64 0, .string ⟨#[]⟩, .string ⟨#[]⟩, .bool false], 72⟩, ⟨b1, #[.int .i64 0, .int .i64 0, .int .i64 0, .int .i64 0, .string ⟨#[]⟩, .string ⟨#[]⟩, .bool false], 72⟩] _ 1 ⟨b1, #[.int .i64 0, .int .i64 0, .int .i64 0, .int .i64 0, .string ⟨#[]⟩, .string ⟨#[]⟩, .bool false], 72⟩ (off := 0) (zC (yH s.lo u.lo)) rfl rfl (y6 15 (by kernel_rfl) (ZS [⟨b2, #[.int .i64 0, .int .i64 0, .int .i64 0, .int .i64 0, .string ⟨#[]⟩, .string ⟨#[]⟩, .bool false], 72⟩, ⟨b1, (zC (yH s.lo u.lo)).cells, 72⟩] _ 0 ⟨b2, #[.int .i64 0, .int .i64 0, .int .i64 0, .int .i64 0, .string ⟨#[]⟩, .string ⟨#[]⟩, .bool false], 72⟩ (off := 0) (zC (yL s.lo u.lo)) rfl rfl (x7 (by kernel_rfl) (xN ⟨b1, b2, _, rfl, ZU⟩)))))))))))
            refine yJ [] _ (.agg #[.int .i64 0, .int .i64 0, .int .i64 0, .int .i64 0, .string ⟨#[]⟩, .string ⟨#[]⟩, .bool false]) rfl (by kernel_rfl) rfl (by kernel_rfl) (fun b1 => mU 8 12 (by kernel_rfl) ?_ ?_)
            · refine kK [⟨b1, #[.int .i64 0, .int .i64 0, .int .i64 0, .int .i64 0, .string ⟨#[]⟩, .string ⟨#[]⟩, .bool false], 72⟩] _ (k := 150) (args := #[zC s.lo, zC u.lo]) (.tuple #[zC (yH s.lo u.lo), zC (yL s.lo u.lo)]) rfl (by kernel_rfl) (fun _ => by kernel_rfl) (fun w _ => gR s.lo u.lo w hsk.1 huk.1) ?_
              exact ZT 9 [⟨b1, #[.int .i64 0, .int .i64 0, .int .i64 0, .int .i64 0, .string ⟨#[]⟩, .string ⟨#[]⟩, .bool false], 72⟩] _ (.tuple #[zC (yH s.lo u.lo), zC (yL s.lo u.lo)]) yA rfl (ZT 10 [⟨b1, #[.int .i64 0, .int .i64 0, .int .i64 0, .int .i64 0, .string ⟨#[]⟩, .string ⟨#[]⟩, .bool false], 72⟩] _ (zC (yH s.lo u.lo)) yA rfl (ZT 11 [⟨b1, #[.int .i64 0, .int .i64 0, .int .i64 0, .int .i64 0, .string ⟨#[]⟩, .string ⟨#[]⟩, .bool false], 72⟩] _ (zC (yL s.lo u.lo)) yA rfl (y6 12 (by kernel_rfl) (yJ [⟨b1, #[.int .i64 0, .int .i64 0, .int .i64 0, .int .i64 0, .string ⟨#[]⟩, .string ⟨#[]⟩, .bool false], 72⟩] _ (.agg #[.int .i64 0, .int .i64 0, .int .i64 0, .int .i64 0, .string ⟨#[]⟩, .string ⟨#[]⟩, .bool false]) rfl (by kernel_rfl) rfl (by kernel_rfl) (fun b2 => y6 14 (by kernel_rfl) (ZS [⟨b2, #[.int .i64 0, .int .i64 0, .int .i64 0, .int .i64 0, .string ⟨#[]⟩, .string ⟨#[]⟩, .bool false], 72⟩, ⟨b1, #[.int .i64 0, .int .i64 0, .int .i64 0, .int .i64 0, .string ⟨#[]⟩, .string ⟨#[]⟩, .bool false], 72⟩] _ 0 ⟨b2, #[.int .i64 0, .int .i64 0, .int .i64 0, .int .i64 0, .string ⟨#[]⟩, .string ⟨#[]⟩, .bool false], 72⟩ (off := 0) (zC (yH s.lo u.lo)) rfl rfl (y6 15 (by kernel_rfl) (ZS [⟨b2, (zC (yH s.lo u.lo)).cells, 72⟩, ⟨b1, #[.int .i64 0, .int .i64 0, .int .i64 0, .int .i64 0, .string ⟨#[]⟩, .string ⟨#[]⟩, .bool false], 72⟩] _ 1 ⟨b1, #[.int .i64 0, .int .i64 0, .int .i64 0, .int .i64 0, .string ⟨#[]⟩, .string ⟨#[]⟩, .bool false], 72⟩ (off := 0) (zC (yL s.lo u.lo)) rfl rfl (x7 (by kernel_rfl) (vM (xN ⟨b2, b1, _, rfl, ZU⟩)))))))))))
            refine yJ [⟨b1, #[.int .i64 0, .int .i64 0, .int .i64 0, .int .i64 0, .string ⟨#[]⟩, .string ⟨#[]⟩, .bool false], 72⟩] _ (.agg #[.int .i64 0, .int .i64 0, .int .i64 0, .int .i64 0, .string ⟨#[]⟩, .string ⟨#[]⟩, .bool false]) rfl (by kernel_rfl) rfl (by kernel_rfl) (fun b2 => y6 8 (by kernel_rfl) (kK [⟨b2, #[.int .i64 0, .int .i64 0, .int .i64 0, .int .i64 0, .string ⟨#[]⟩, .string ⟨#[]⟩, .bool false], 72⟩, ⟨b1, #[.int .i64 0, .int .i64 0, .int .i64 0, .int .i64 0, .string ⟨#[]⟩, .string ⟨#[]⟩, .bool false], 72⟩] _ (k := 150) (args := #[zC s.lo, zC u.lo]) (.tuple #[zC (yH s.lo u.lo), zC (yL s.lo u.lo)]) rfl (by kernel_rfl) (fun _ => by kernel_rfl) (fun w _ => gR s.lo u.lo w hsk.1 huk.1) (ZT 9 [⟨b2, #[.int .i64 0, .int .i64 0, .int .i64 0, .int .i64 0, .string ⟨#[]⟩, .string ⟨#[]⟩, .bool false], 72⟩, ⟨b1, #[.int .i64 0, .int .i64 0, .int .i64 0, .int .i64 0, .string ⟨#[]⟩, .string ⟨#[]⟩, .bool false], 72⟩] _ (.tuple #[zC (yH s.lo u.lo), zC (yL s.lo u.lo)]) yA rfl (ZT 10 [⟨b2, #[.int .i64 0, .int .i64 0, .int .i64 0, .int .i64 0, .string ⟨#[]⟩, .string ⟨#[]⟩, .bool false], 72⟩, ⟨b1, #[.int .i64 0, .int .i64 0, .int .i64 0, .int .i64 0, .string ⟨#[]⟩, .string ⟨#[]⟩, .bool false], 72⟩] _ (zC (yH s.lo u.lo)) yA rfl (ZT 11 [⟨b2, #[.int .i64 0, .int .i64 0, .int .i64 0, .int .i64 0, .string ⟨#[]⟩, .string ⟨#[]⟩, .bool false], 72⟩, ⟨b1, #[.int .i64 0, .int .i64 0, .int .i64 0, .int .i64 0, .string ⟨#[]⟩, .string ⟨#[]⟩, .bool false], 72⟩] _ (zC (yL s.lo u.lo)) yA rfl (y6 14 (by kernel_rfl) (ZS [⟨b2, #[.int .i64 0, .int .i64 0, .int .i64 0, .int .i64 0, .string ⟨#[]⟩, .string ⟨#[]⟩, .bool false], 72⟩, ⟨b1, #[.int .i64 0, .int .i64 0, .int .i64 0, .int .i64 0, .string ⟨#[]⟩, .string ⟨#[]⟩, .bool false], 72⟩] _ 0 ⟨b2, #[.int .i64 0, .int .i64 0, .int .i64 0, .int .i64 0, .string ⟨#[]⟩, .string ⟨#[]⟩, .bool false], 72⟩ (off := 0) (zC (yH s.lo u.lo)) rfl rfl (y6 15 (by kernel_rfl) (ZS [⟨b2, (zC (yH s.lo u.lo)).cells, 72⟩, ⟨b1, #[.int .i64 0, .int .i64 0, .int .i64 0, .int .i64 0, .string ⟨#[]⟩, .string ⟨#[]⟩, .bool false], 72⟩] _ 1 ⟨b1, #[.int .i64 0, .int .i64 0, .int .i64 0, .int .i64 0, .string ⟨#[]⟩, .string ⟨#[]⟩, .bool false], 72⟩ (off := 0) (zC (yL s.lo u.lo)) rfl rfl (x7 (by kernel_rfl) (vM ?_)))))))))))
            exact xN ⟨b2, b1, _, rfl, ZU⟩
          · rintro L f ⟨p6, p7, j, rfl, rfl⟩
            refine zB (z6 (ok_join (fun L f => ∃ (p8 p9 : Nat) (j : Nat → Value), L = ⟨p9, (zC (yL s.hi u.hi)).cells, 72⟩ :: (⟨p8, (zC (yH s.hi u.hi)).cells, 72⟩ :: (⟨p7, (zC (yL s.lo u.lo)).cells, 72⟩ :: (⟨p6, (zC (yH s.lo u.lo)).cells, 72⟩ :: (ob)))) ∧ f = g9 j [(0, .slice A1 a1.length c1), (1, .slice B1 b1.length c2), (5, v), (6, .pointer (some ⟨p6, 0, none⟩)), (7, .pointer (some ⟨p7, 0, none⟩)), (8, .pointer (some ⟨p8, 0, none⟩)), (9, .pointer (some ⟨p9, 0, none⟩))]) ?_ ?_))
            · refine dH (by kernel_rfl) ?_
              refine ZT 0 [] _ (.slice A1 a1.length c1) yA rfl (wY 1 [] _ (.pointer (some ⟨ba, offa + 0 * 14, none⟩)) rfl (by kernel_rfl) (by kernel_rfl) (by kernel_rfl) yA (by kernel_rfl) (fun w _ => dA (b := ba) (off := offa) (c := c1) (n := a1.length) (k := .i64) (j := 0) (e := 74) (sz := 14) rfl (by kernel_rfl) hA (by kernel_rfl) (by kernel_rfl) (by kernel_rfl) (by omega) (by omega) (by omega) w) (ZT 2 [] _ (.pointer (some ⟨ba, offa + 0 * 14 + 7, none⟩)) yA rfl (hl_old 3 _ (a := ⟨ba, offa + 0 * 14 + 7, none⟩) (zC s.hi) rfl (by kernel_rfl) (by kernel_rfl) (by kernel_rfl) yA (fun w hO => Own.sub [] hO) (by kernel_rfl) rfl (by kernel_rfl) (fun w hO => xG yC (fun j u h => (hO.below.cell (p := ⟨ba, offa + j, none⟩) hlta).trans (hcela j u h)) 0 7 hka (by omega) _ (by rw [hs]; kernel_rfl)) (ZT 4 [] _ (.slice B1 b1.length c2) yA rfl (wY 5 [] _ (.pointer (some ⟨bb, offb + 0 * 14, none⟩)) rfl (by kernel_rfl) (by kernel_rfl) (by kernel_rfl) yA (by kernel_rfl) (fun w _ => dA (b := bb) (off := offb) (c := c2) (n := b1.length) (k := .i64) (j := 0) (e := 74) (sz := 14) rfl (by kernel_rfl) hB (by kernel_rfl) (by kernel_rfl) (by kernel_rfl) (by omega) (by omega) (by omega) w) (ZT 6 [] _ (.pointer (some ⟨bb, offb + 0 * 14 + 7, none⟩)) yA rfl (hl_old 7 _ (a := ⟨bb, offb + 0 * 14 + 7, none⟩) (zC u.hi) rfl (by kernel_rfl) (by kernel_rfl) (by kernel_rfl) yA (fun w hO => Own.sub [] hO) (by kernel_rfl) rfl (by kernel_rfl) (fun w hO => xG yC (fun j u h => (hO.below.cell (p := ⟨bb, offb + j, none⟩) hltb).trans (hcelb j u h)) 0 7 hkb (by omega) _ (by rw [hu1]; kernel_rfl)) (h_three 8 12 13 (by kernel_rfl) ?_ ?_ ?_))))))))
              · refine kK [] _ (k := 150) (args := #[zC s.hi, zC u.hi]) (.tuple #[zC (yH s.hi u.hi), zC (yL s.hi u.hi)]) rfl (by kernel_rfl) (fun _ => by kernel_rfl) (fun w _ => gR s.hi u.hi w hsk.2 huk.2) ?_
                refine ZT 9 [] _ (.tuple #[zC (yH s.hi u.hi), zC (yL s.hi u.hi)]) yA rfl (ZT 10 [] _ (zC (yH s.hi u.hi)) yA rfl (ZT 11 [] _ (zC (yL s.hi u.hi)) yA rfl (mU 12 13 (by kernel_rfl) ?_ ?_)))
                · refine yJ [] _ (.agg #[.int .i64 0, .int .i64 0, .int .i64 0, .int .i64 0, .string ⟨#[]⟩, .string ⟨#[]⟩, .bool false]) rfl (by kernel_rfl) rfl (by kernel_rfl) (fun b3 => ?_)
                  exact y6 13 (by kernel_rfl) (yJ [⟨b3, #[.int .i64 0, .int .i64 0, .int .i64 0, .int .i64 0, .string ⟨#[]⟩, .string ⟨#[]⟩, .bool false], 72⟩] _ (.agg #[.int .i64 0, .int .i64 0, .int .i64 0, .int .i64 0, .string ⟨#[]⟩, .string ⟨#[]⟩, .bool false]) rfl (by kernel_rfl) rfl (by kernel_rfl) (fun b4 => y6 14 (by kernel_rfl) (ZS [⟨b4, #[.int .i64 0, .int .i64 0, .int .i64 0, .int .i64 0, .string ⟨#[]⟩, .string ⟨#[]⟩, .bool false], 72⟩, ⟨b3, #[.int .i64 0, .int .i64 0, .int .i64 0, .int .i64 0, .string ⟨#[]⟩, .string ⟨#[]⟩, .bool false], 72⟩] _ 1 ⟨b3, #[.int .i64 0, .int .i64 0, .int .i64 0, .int .i64 0, .string ⟨#[]⟩, .string ⟨#[]⟩, .bool false], 72⟩ (off := 0) (zC (yH s.hi u.hi)) rfl rfl (y6 15 (by kernel_rfl) (ZS [⟨b4, #[.int .i64 0, .int .i64 0, .int .i64 0, .int .i64 0, .string ⟨#[]⟩, .string ⟨#[]⟩, .bool false], 72⟩, ⟨b3, (zC (yH s.hi u.hi)).cells, 72⟩] _ 0 ⟨b4, #[.int .i64 0, .int .i64 0, .int .i64 0, .int .i64 0, .string ⟨#[]⟩, .string ⟨#[]⟩, .bool false], 72⟩ (off := 0) (zC (yL s.hi u.hi)) rfl rfl (x7 (by kernel_rfl) (xN ⟨b3, b4, _, rfl, ZU⟩)))))))
                exact yJ [] _ (.agg #[.int .i64 0, .int .i64 0, .int .i64 0, .int .i64 0, .string ⟨#[]⟩, .string ⟨#[]⟩, .bool false]) rfl (by kernel_rfl) rfl (by kernel_rfl) (fun b3 => y6 12 (by kernel_rfl) (yJ [⟨b3, #[.int .i64 0, .int .i64 0, .int .i64 0, .int .i64 0, .string ⟨#[]⟩, .string ⟨#[]⟩, .bool false], 72⟩] _ (.agg #[.int .i64 0, .int .i64 0, .int .i64 0, .int .i64 0, .string ⟨#[]⟩, .string ⟨#[]⟩, .bool false]) rfl (by kernel_rfl) rfl (by kernel_rfl) (fun b4 => y6 14 (by kernel_rfl) (ZS [⟨b4, #[.int .i64 0, .int .i64 0, .int .i64 0, .int .i64 0, .string ⟨#[]⟩, .string ⟨#[]⟩, .bool false], 72⟩, ⟨b3, #[.int .i64 0, .int .i64 0, .int .i64 0, .int .i64 0, .string ⟨#[]⟩, .string ⟨#[]⟩, .bool false], 72⟩] _ 0 ⟨b4, #[.int .i64 0, .int .i64 0, .int .i64 0, .int .i64 0, .string ⟨#[]⟩, .string ⟨#[]⟩, .bool false], 72⟩ (off := 0) (zC (yH s.hi u.hi)) rfl rfl (y6 15 (by kernel_rfl) (ZS [⟨b4, (zC (yH s.hi u.hi)).cells, 72⟩, ⟨b3, #[.int .i64 0, .int .i64 0, .int .i64 0, .int .i64 0, .string ⟨#[]⟩, .string ⟨#[]⟩, .bool false], 72⟩] _ 1 ⟨b3, #[.int .i64 0, .int .i64 0, .int .i64 0, .int .i64 0, .string ⟨#[]⟩, .string ⟨#[]⟩, .bool false], 72⟩ (off := 0) (zC (yL s.hi u.hi)) rfl rfl (x7 (by kernel_rfl) (vM (xN ⟨b4, b3, _, rfl, ZU⟩)))))))))
              · refine yJ [] _ (.agg #[.int .i64 0, .int .i64 0, .int .i64 0, .int .i64 0, .string ⟨#[]⟩, .string ⟨#[]⟩, .bool false]) rfl (by kernel_rfl) rfl (by kernel_rfl) (fun b3 => ?_)
                refine mU 8 13 (by kernel_rfl) ?_ ?_
                · refine kK [⟨b3, #[.int .i64 0, .int .i64 0, .int .i64 0, .int .i64 0, .string ⟨#[]⟩, .string ⟨#[]⟩, .bool false], 72⟩] _ (k := 150) (args := #[zC s.hi, zC u.hi]) (.tuple #[zC (yH s.hi u.hi), zC (yL s.hi u.hi)]) rfl (by kernel_rfl) (fun _ => by kernel_rfl) (fun w _ => gR s.hi u.hi w hsk.2 huk.2) ?_
                  exact ZT 9 [⟨b3, #[.int .i64 0, .int .i64 0, .int .i64 0, .int .i64 0, .string ⟨#[]⟩, .string ⟨#[]⟩, .bool false], 72⟩] _ (.tuple #[zC (yH s.hi u.hi), zC (yL s.hi u.hi)]) yA rfl (ZT 10 [⟨b3, #[.int .i64 0, .int .i64 0, .int .i64 0, .int .i64 0, .string ⟨#[]⟩, .string ⟨#[]⟩, .bool false], 72⟩] _ (zC (yH s.hi u.hi)) yA rfl (ZT 11 [⟨b3, #[.int .i64 0, .int .i64 0, .int .i64 0, .int .i64 0, .string ⟨#[]⟩, .string ⟨#[]⟩, .bool false], 72⟩] _ (zC (yL s.hi u.hi)) yA rfl (y6 13 (by kernel_rfl) (yJ [⟨b3, #[.int .i64 0, .int .i64 0, .int .i64 0, .int .i64 0, .string ⟨#[]⟩, .string ⟨#[]⟩, .bool false], 72⟩] _ (.agg #[.int .i64 0, .int .i64 0, .int .i64 0, .int .i64 0, .string ⟨#[]⟩, .string ⟨#[]⟩, .bool false]) rfl (by kernel_rfl) rfl (by kernel_rfl) (fun b4 => y6 14 (by kernel_rfl) (ZS [⟨b4, #[.int .i64 0, .int .i64 0, .int .i64 0, .int .i64 0, .string ⟨#[]⟩, .string ⟨#[]⟩, .bool false], 72⟩, ⟨b3, #[.int .i64 0, .int .i64 0, .int .i64 0, .int .i64 0, .string ⟨#[]⟩, .string ⟨#[]⟩, .bool false], 72⟩] _ 1 ⟨b3, #[.int .i64 0, .int .i64 0, .int .i64 0, .int .i64 0, .string ⟨#[]⟩, .string ⟨#[]⟩, .bool false], 72⟩ (off := 0) (zC (yH s.hi u.hi)) rfl rfl (y6 15 (by kernel_rfl) (ZS [⟨b4, #[.int .i64 0, .int .i64 0, .int .i64 0, .int .i64 0, .string ⟨#[]⟩, .string ⟨#[]⟩, .bool false], 72⟩, ⟨b3, (zC (yH s.hi u.hi)).cells, 72⟩] _ 0 ⟨b4, #[.int .i64 0, .int .i64 0, .int .i64 0, .int .i64 0, .string ⟨#[]⟩, .string ⟨#[]⟩, .bool false], 72⟩ (off := 0) (zC (yL s.hi u.hi)) rfl rfl (x7 (by kernel_rfl) (xN ⟨b3, b4, _, rfl, ZU⟩))))))))))
                exact yJ [⟨b3, #[.int .i64 0, .int .i64 0, .int .i64 0, .int .i64 0, .string ⟨#[]⟩, .string ⟨#[]⟩, .bool false], 72⟩] _ (.agg #[.int .i64 0, .int .i64 0, .int .i64 0, .int .i64 0, .string ⟨#[]⟩, .string ⟨#[]⟩, .bool false]) rfl (by kernel_rfl) rfl (by kernel_rfl) (fun b4 => y6 8 (by kernel_rfl) (kK [⟨b4, #[.int .i64 0, .int .i64 0, .int .i64 0, .int .i64 0, .string ⟨#[]⟩, .string ⟨#[]⟩, .bool false], 72⟩, ⟨b3, #[.int .i64 0, .int .i64 0, .int .i64 0, .int .i64 0, .string ⟨#[]⟩, .string ⟨#[]⟩, .bool false], 72⟩] _ (k := 150) (args := #[zC s.hi, zC u.hi]) (.tuple #[zC (yH s.hi u.hi), zC (yL s.hi u.hi)]) rfl (by kernel_rfl) (fun _ => by kernel_rfl) (fun w _ => gR s.hi u.hi w hsk.2 huk.2) (ZT 9 [⟨b4, #[.int .i64 0, .int .i64 0, .int .i64 0, .int .i64 0, .string ⟨#[]⟩, .string ⟨#[]⟩, .bool false], 72⟩, ⟨b3, #[.int .i64 0, .int .i64 0, .int .i64 0, .int .i64 0, .string ⟨#[]⟩, .string ⟨#[]⟩, .bool false], 72⟩] _ (.tuple #[zC (yH s.hi u.hi), zC (yL s.hi u.hi)]) yA rfl (ZT 10 [⟨b4, #[.int .i64 0, .int .i64 0, .int .i64 0, .int .i64 0, .string ⟨#[]⟩, .string ⟨#[]⟩, .bool false], 72⟩, ⟨b3, #[.int .i64 0, .int .i64 0, .int .i64 0, .int .i64 0, .string ⟨#[]⟩, .string ⟨#[]⟩, .bool false], 72⟩] _ (zC (yH s.hi u.hi)) yA rfl (ZT 11 [⟨b4, #[.int .i64 0, .int .i64 0, .int .i64 0, .int .i64 0, .string ⟨#[]⟩, .string ⟨#[]⟩, .bool false], 72⟩, ⟨b3, #[.int .i64 0, .int .i64 0, .int .i64 0, .int .i64 0, .string ⟨#[]⟩, .string ⟨#[]⟩, .bool false], 72⟩] _ (zC (yL s.hi u.hi)) yA rfl (y6 14 (by kernel_rfl) (ZS [⟨b4, #[.int .i64 0, .int .i64 0, .int .i64 0, .int .i64 0, .string ⟨#[]⟩, .string ⟨#[]⟩, .bool false], 72⟩, ⟨b3, #[.int .i64 0, .int .i64 0, .int .i64 0, .int .i64 0, .string ⟨#[]⟩, .string ⟨#[]⟩, .bool false], 72⟩] _ 1 ⟨b3, #[.int .i64 0, .int .i64 0, .int .i64 0, .int .i64 0, .string ⟨#[]⟩, .string ⟨#[]⟩, .bool false], 72⟩ (off := 0) (zC (yH s.hi u.hi)) rfl rfl (y6 15 (by kernel_rfl) (ZS [⟨b4, #[.int .i64 0, .int .i64 0, .int .i64 0, .int .i64 0, .string ⟨#[]⟩, .string ⟨#[]⟩, .bool false], 72⟩, ⟨b3, (zC (yH s.hi u.hi)).cells, 72⟩] _ 0 ⟨b4, #[.int .i64 0, .int .i64 0, .int .i64 0, .int .i64 0, .string ⟨#[]⟩, .string ⟨#[]⟩, .bool false], 72⟩ (off := 0) (zC (yL s.hi u.hi)) rfl rfl (x7 (by kernel_rfl) (xN ⟨b3, b4, _, rfl, ZU⟩)))))))))))
              refine yJ [] _ (.agg #[.int .i64 0, .int .i64 0, .int .i64 0, .int .i64 0, .string ⟨#[]⟩, .string ⟨#[]⟩, .bool false]) rfl (by kernel_rfl) rfl (by kernel_rfl) (fun b3 => mU 8 12 (by kernel_rfl) ?_ ?_)
              · refine kK [⟨b3, #[.int .i64 0, .int .i64 0, .int .i64 0, .int .i64 0, .string ⟨#[]⟩, .string ⟨#[]⟩, .bool false], 72⟩] _ (k := 150) (args := #[zC s.hi, zC u.hi]) (.tuple #[zC (yH s.hi u.hi), zC (yL s.hi u.hi)]) rfl (by kernel_rfl) (fun _ => by kernel_rfl) (fun w _ => gR s.hi u.hi w hsk.2 huk.2) ?_
                exact ZT 9 [⟨b3, #[.int .i64 0, .int .i64 0, .int .i64 0, .int .i64 0, .string ⟨#[]⟩, .string ⟨#[]⟩, .bool false], 72⟩] _ (.tuple #[zC (yH s.hi u.hi), zC (yL s.hi u.hi)]) yA rfl (ZT 10 [⟨b3, #[.int .i64 0, .int .i64 0, .int .i64 0, .int .i64 0, .string ⟨#[]⟩, .string ⟨#[]⟩, .bool false], 72⟩] _ (zC (yH s.hi u.hi)) yA rfl (ZT 11 [⟨b3, #[.int .i64 0, .int .i64 0, .int .i64 0, .int .i64 0, .string ⟨#[]⟩, .string ⟨#[]⟩, .bool false], 72⟩] _ (zC (yL s.hi u.hi)) yA rfl (y6 12 (by kernel_rfl) (yJ [⟨b3, #[.int .i64 0, .int .i64 0, .int .i64 0, .int .i64 0, .string ⟨#[]⟩, .string ⟨#[]⟩, .bool false], 72⟩] _ (.agg #[.int .i64 0, .int .i64 0, .int .i64 0, .int .i64 0, .string ⟨#[]⟩, .string ⟨#[]⟩, .bool false]) rfl (by kernel_rfl) rfl (by kernel_rfl) (fun b4 => y6 14 (by kernel_rfl) (ZS [⟨b4, #[.int .i64 0, .int .i64 0, .int .i64 0, .int .i64 0, .string ⟨#[]⟩, .string ⟨#[]⟩, .bool false], 72⟩, ⟨b3, #[.int .i64 0, .int .i64 0, .int .i64 0, .int .i64 0, .string ⟨#[]⟩, .string ⟨#[]⟩, .bool false], 72⟩] _ 0 ⟨b4, #[.int .i64 0, .int .i64 0, .int .i64 0, .int .i64 0, .string ⟨#[]⟩, .string ⟨#[]⟩, .bool false], 72⟩ (off := 0) (zC (yH s.hi u.hi)) rfl rfl (y6 15 (by kernel_rfl) (ZS [⟨b4, (zC (yH s.hi u.hi)).cells, 72⟩, ⟨b3, #[.int .i64 0, .int .i64 0, .int .i64 0, .int .i64 0, .string ⟨#[]⟩, .string ⟨#[]⟩, .bool false], 72⟩] _ 1 ⟨b3, #[.int .i64 0, .int .i64 0, .int .i64 0, .int .i64 0, .string ⟨#[]⟩, .string ⟨#[]⟩, .bool false], 72⟩ (off := 0) (zC (yL s.hi u.hi)) rfl rfl (x7 (by kernel_rfl) (vM (xN ⟨b4, b3, _, rfl, ZU⟩)))))))))))
              refine yJ [⟨b3, #[.int .i64 0, .int .i64 0, .int .i64 0, .int .i64 0, .string ⟨#[]⟩, .string ⟨#[]⟩, .bool false], 72⟩] _ (.agg #[.int .i64 0, .int .i64 0, .int .i64 0, .int .i64 0, .string ⟨#[]⟩, .string ⟨#[]⟩, .bool false]) rfl (by kernel_rfl) rfl (by kernel_rfl) (fun b4 => y6 8 (by kernel_rfl) (kK [⟨b4, #[.int .i64 0, .int .i64 0, .int .i64 0, .int .i64 0, .string ⟨#[]⟩, .string ⟨#[]⟩, .bool false], 72⟩, ⟨b3, #[.int .i64 0, .int .i64 0, .int .i64 0, .int .i64 0, .string ⟨#[]⟩, .string ⟨#[]⟩, .bool false], 72⟩] _ (k := 150) (args := #[zC s.hi, zC u.hi]) (.tuple #[zC (yH s.hi u.hi), zC (yL s.hi u.hi)]) rfl (by kernel_rfl) (fun _ => by kernel_rfl) (fun w _ => gR s.hi u.hi w hsk.2 huk.2) (ZT 9 [⟨b4, #[.int .i64 0, .int .i64 0, .int .i64 0, .int .i64 0, .string ⟨#[]⟩, .string ⟨#[]⟩, .bool false], 72⟩, ⟨b3, #[.int .i64 0, .int .i64 0, .int .i64 0, .int .i64 0, .string ⟨#[]⟩, .string ⟨#[]⟩, .bool false], 72⟩] _ (.tuple #[zC (yH s.hi u.hi), zC (yL s.hi u.hi)]) yA rfl (ZT 10 [⟨b4, #[.int .i64 0, .int .i64 0, .int .i64 0, .int .i64 0, .string ⟨#[]⟩, .string ⟨#[]⟩, .bool false], 72⟩, ⟨b3, #[.int .i64 0, .int .i64 0, .int .i64 0, .int .i64 0, .string ⟨#[]⟩, .string ⟨#[]⟩, .bool false], 72⟩] _ (zC (yH s.hi u.hi)) yA rfl (ZT 11 [⟨b4, #[.int .i64 0, .int .i64 0, .int .i64 0, .int .i64 0, .string ⟨#[]⟩, .string ⟨#[]⟩, .bool false], 72⟩, ⟨b3, #[.int .i64 0, .int .i64 0, .int .i64 0, .int .i64 0, .string ⟨#[]⟩, .string ⟨#[]⟩, .bool false], 72⟩] _ (zC (yL s.hi u.hi)) yA rfl (y6 14 (by kernel_rfl) (ZS [⟨b4, #[.int .i64 0, .int .i64 0, .int .i64 0, .int .i64 0, .string ⟨#[]⟩, .string ⟨#[]⟩, .bool false], 72⟩, ⟨b3, #[.int .i64 0, .int .i64 0, .int .i64 0, .int .i64 0, .string ⟨#[]⟩, .string ⟨#[]⟩, .bool false], 72⟩] _ 0 ⟨b4, #[.int .i64 0, .int .i64 0, .int .i64 0, .int .i64 0, .string ⟨#[]⟩, .string ⟨#[]⟩, .bool false], 72⟩ (off := 0) (zC (yH s.hi u.hi)) rfl rfl (y6 15 (by kernel_rfl) (ZS [⟨b4, (zC (yH s.hi u.hi)).cells, 72⟩, ⟨b3, #[.int .i64 0, .int .i64 0, .int .i64 0, .int .i64 0, .string ⟨#[]⟩, .string ⟨#[]⟩, .bool false], 72⟩] _ 1 ⟨b3, #[.int .i64 0, .int .i64 0, .int .i64 0, .int .i64 0, .string ⟨#[]⟩, .string ⟨#[]⟩, .bool false], 72⟩ (off := 0) (zC (yL s.hi u.hi)) rfl rfl (x7 (by kernel_rfl) (vM ?_)))))))))))
              exact xN ⟨b4, b3, _, rfl, ZU⟩
            · rintro L f ⟨p8, p9, j, rfl, rfl⟩
              refine zB (ZO (Zv (v) (Zl 2 ⟨p7, (zC (yL s.lo u.lo)).cells, 72⟩ (off := 0) (zC (yL s.lo u.lo)) (Zl 1 ⟨p8, (zC (yH s.hi u.hi)).cells, 72⟩ (off := 0) (zC (yH s.hi u.hi)) (zV (k := 151) (args := #[v, zC (yL s.lo u.lo), zC (yH s.hi u.hi)]) (fun v' L' => ∃ ob', L' = [⟨p9, (zC (yL s.hi u.hi)).cells, 72⟩, ⟨p8, (zC (yH s.hi u.hi)).cells, 72⟩, ⟨p7, (zC (yL s.lo u.lo)).cells, 72⟩, ⟨p6, (zC (yH s.lo u.lo)).cells, 72⟩] ++ ob' ∧ SlS v' (gM out (yL s.lo u.lo) (yH s.hi u.hi)) ob') (by kernel_rfl) (fun _ => by kernel_rfl) (fun w hO => add_call (E := [⟨p9, (zC (yL s.hi u.hi)).cells, 72⟩, ⟨p8, (zC (yH s.hi u.hi)).cells, 72⟩, ⟨p7, (zC (yL s.lo u.lo)).cells, 72⟩, ⟨p6, (zC (yH s.lo u.lo)).cells, 72⟩]) (yL s.lo u.lo) (yH s.hi u.hi) hO hrel.sl (by omega) hrel.so (dJ hsk.1 huk.1) (nI hsk.2 huk.2)) (fun v2 L2 hv2 => ?_))))))
              obtain ⟨ob2, rfl, hs2⟩ := hv2
              refine Zv (v2) (ZN (z6 (mA (by kernel_rfl) (by kernel_rfl) (Zw (.slice A1 a1.length c1) (jL (.pointer (some ⟨ba, offa + 0 * 14, none⟩)) (by kernel_rfl) (ZA (b := ba) (off := offa) (c := c1) (n := a1.length) (k := .i64) (j := 0) (e := 74) (sz := 14) hA) (Zw (.pointer (some ⟨ba, offa + 0 * 14 + 7, none⟩)) (q_old (zC s.hi) (a := ⟨ba, offa + 0 * 14 + 7, none⟩) (by kernel_rfl) rfl (by kernel_rfl) (fun w hO => xG yC (fun j u h => (hO.below.cell (p := ⟨ba, offa + j, none⟩) hlta).trans (hcela j u h)) 0 7 hka (by omega) _ (by rw [hs]; kernel_rfl)) (Zm 1 ⟨p8, (zC (yH s.hi u.hi)).cells, 72⟩ (off := 0) (zC (yH s.hi u.hi)) ?_))))))))
              by_cases h5 : s.hi = yH s.hi u.hi
              · refine jL (.bool true) (by kernel_rfl) (v8 (u := s.hi) (v := yH s.hi u.hi) rfl (by kernel_rfl) (by kernel_rfl) (decide_eq_true (h5))) ?_
                refine vR (zB (Zt (z7 (Zv (.slice A1 a1.length c1) (zW (.slice (some ⟨ba, offa + (if c1 = (1 : Int).toNat then 0 else (1 : Int).toNat * 14), none⟩) (a1.length - (1 : Int).toNat) (c1 - (1 : Int).toNat)) (by kernel_rfl) (run_sllA (n := a1.length) (c := c1) (k := .i64) (j := 1) (e := 74) (sz := 14) rfl (by kernel_rfl) hA (by kernel_rfl) (by kernel_rfl) (by kernel_rfl) (by omega) (by omega)) (Zv (.slice (some ⟨ba, offa + (if c1 = (1 : Int).toNat then 0 else (1 : Int).toNat * 14), none⟩) (a1.length - (1 : Int).toNat) (c1 - (1 : Int).toNat)) (zT (zP (yZ (L' := ob2 ++ []) (fun w hO => by rw [List.append_nil]; exact Own.sub [_, _, _, _] hO) ?_)))))))))
                have hd1 : (a1.drop 1).length = a1.length - 1 := List.length_drop
                exact zX (m' := (a1.drop 1).length + b1.length) (by omega) ⟨some ⟨ba, offa + (if c1 = (1 : Int).toNat then 0 else (1 : Int).toNat * 14), none⟩, B1, a1.length - (1 : Int).toNat, b1.length, c1 - (1 : Int).toNat, c2, n - 1, a1.drop 1, b1, v2, gM out (yL s.lo u.lo) (yH s.hi u.hi), ob2, _, ⟨by rw [List.length_drop]; rfl, rfl, hrel.stepA hka hkb hs hu1 hA (by assumption) hs2⟩, rfl, ZU, rfl⟩
              refine jL (.bool false) (by kernel_rfl) (v8 (u := s.hi) (v := yH s.hi u.hi) rfl (by kernel_rfl) (by kernel_rfl) (decide_eq_false (h5))) (vR (zB (Zf (z7 (Zv (.slice B1 b1.length c2) (zW (.slice (some ⟨bb, offb + (if c2 = (1 : Int).toNat then 0 else (1 : Int).toNat * 14), none⟩) (b1.length - (1 : Int).toNat) (c2 - (1 : Int).toNat)) (by kernel_rfl) (run_sllA (n := b1.length) (c := c2) (k := .i64) (j := 1) (e := 74) (sz := 14) rfl (by kernel_rfl) hB (by kernel_rfl) (by kernel_rfl) (by kernel_rfl) (by omega) (by omega)) (Zv (.slice (some ⟨bb, offb + (if c2 = (1 : Int).toNat then 0 else (1 : Int).toNat * 14), none⟩) (b1.length - (1 : Int).toNat) (c2 - (1 : Int).toNat)) (zT (zP (yZ (L' := ob2 ++ []) (fun w hO => by rw [List.append_nil]; exact Own.sub [_, _, _, _] hO) ?_))))))))))
              have hd1 : (b1.drop 1).length = b1.length - 1 := List.length_drop
              exact zX (m' := a1.length + (b1.drop 1).length) (by omega) ⟨A1, some ⟨bb, offb + (if c2 = (1 : Int).toNat then 0 else (1 : Int).toNat * 14), none⟩, a1.length, b1.length - (1 : Int).toNat, c1, c2 - (1 : Int).toNat, n - 1, a1, b1.drop 1, v2, gM out (yL s.lo u.lo) (yH s.hi u.hi), ob2, _, ⟨rfl, by rw [List.length_drop]; rfl, hrel.stepB hka hkb hs hu1 hB (by assumption) hs2⟩, rfl, ZU, rfl⟩
        refine Zd (p := (0 : Int) < (b1.length : Int)) false (decide_eq_false (h4)) (Zv (.bool false) (ZX (y8 (z8 (zQ (zG (zB (z6 (z7 ?_)))))))))
        exact Zv (v) (zV (k := 152) (args := #[v]) (fun v' L' => SlS v' out L') (by kernel_rfl) (fun _ => by kernel_rfl) (fun w hO => (jN (E := []) hO hrel.sl (by omega) hrel.so).mono fun e w' ⟨v', L', k1, ⟨ob', k2, k3⟩, k4⟩ => ⟨v', L', k1, by subst k2; exact k3, k4⟩) (fun v4 ob4 hs4 => Zv (v4) (ZN (zF (ZF (v4) Tryz.results105 (fun w hO => ⟨v4, ob4, rfl, by rw [if_pos (by simp), ← andG_eq (by assumption) (by assumption), hrel.eq, andG_end (by omega)]; exact hs4, hO⟩))))))
      refine Zd (p := (0 : Int) < (a1.length : Int)) false (decide_eq_false (h3)) (Zv (.bool false) (Zk (Zk (Zk (Zv (.bool false) (ZX (y8 (z8 (zQ ?_)))))))))
      exact zG (zB (ZO (Zv (v) (zV (k := 152) (args := #[v]) (fun v' L' => SlS v' out L') (by kernel_rfl) (fun _ => by kernel_rfl) (fun w hO => (jN (E := []) hO hrel.sl (by omega) hrel.so).mono fun e w' ⟨v', L', k1, ⟨ob', k2, k3⟩, k4⟩ => ⟨v', L', k1, by subst k2; exact k3, k4⟩) (fun v4 ob4 hs4 => Zv (v4) (ZN (zF (ZF (v4) Tryz.results105 (fun w hO => ⟨v4, ob4, rfl, by rw [if_pos (by simp), ← andG_eq (by assumption) (by assumption), hrel.eq, andG_end (by omega)]; exact hs4, hO⟩)))))))))
    | false =>
      refine Zv (.bool true) (Zv (.bool true) (ZY (ZO (Zv (.slice none 0 0) (ZN (zF (zA ?_)))))))
      exact ZF (.slice none 0 0) Tryz.results105 (fun w hO => ⟨_, [], rfl, by rw [if_neg (by simp)]; exact Sl.nil _ _, by simpa using hO⟩)
  | false =>
    refine Zv (.bool true) (Zv (.bool true) (Zk (Zk (Zk (Zv (.bool true) (ZY (ZO (Zv (.slice none 0 0) ?_))))))))
    exact ZN (zF (zA (ZF (.slice none 0 0) Tryz.results105 (fun w hO => ⟨_, [], rfl, by rw [if_neg (by simp)]; exact Sl.nil _ _, by simpa using hO⟩))))
end
section
def mO (v : Ver) : Ver := { v with pre := [] }
theorem pK {v : Ver} (h : v.build = []) : mO v = mN v := by
  obtain ⟨a, b, c, p, q⟩ := v
  simp only at h; subst h; rfl
theorem rel_least {v : Ver} : mN v = Ver.zero ↔ wB v = true := by
  unfold mN wB Ver.rel Ver.zero
  simp only [Ver.mk.injEq, and_true, Bool.and_eq_true, decide_eq_true_eq, and_assoc]
theorem relA_zero {v : Ver} (h : mN v = Ver.zero) : relA v = zZ (-1) := by unfold relA; rw [rel_least.1 h]; rfl
theorem relA_one {v : Ver} (h : ¬ mN v = Ver.zero) : relA v = ⟨0, mN v, false⟩ := by
  unfold relA
  rw [show wB v = false from Bool.eq_false_iff.2 fun e => h (rel_least.2 e)]; rfl
theorem rel_self {v : Ver} (h1 : v.pre = []) (h2 : v.build = []) : mN v = v := by
  obtain ⟨a, b, c, p, q⟩ := v
  simp only at h1 h2; subst h1; subst h2; rfl
theorem next_pre {v : Ver} (h : v.may = true) (hp : v.pre ≠ []) : yP v = mN v ∧ kR v = true := by
  have e : v.pre.isEmpty = false := by cases hq : v.pre with
    | nil => exact absurd hq hp
    | cons _ _ => rfl
  unfold yP kR
  rw [h, e]; exact ⟨rfl, rfl⟩
theorem next_pos {v : Ver} (h : v.may = true) (hp : v.pre = []) (ho : kR v = true) : ¬ mO (yP v) = Ver.zero := by
  intro e
  rcases next_is h with ⟨k, _⟩ | ⟨_, a, b, c, e1, e2, ⟨_, e3⟩ | ⟨e3, _⟩⟩
  · rw [ho] at k; cases k
  · have hn := j5 h
    rw [e1] at e
    have h4 : (Ver.rel a b c).code = 0 := by
      have : Ver.rel a b c = Ver.zero := e
      rw [this]; rfl
    rw [h4] at e3
    unfold Ver.code at e3; omega
  · exact e3 hp
theorem pre0_next (v : Ver) : mO (yP v) = yP v := by
  have h := (tO v).1
  generalize yP v = u at h ⊢
  obtain ⟨a, b, c, p, q⟩ := u
  simp only at h; subst h; rfl
theorem mX {c : Cu} (h : ¬ c.e = 0) : kZ c = c := by unfold kZ; rw [if_pos h]
theorem fV {c : Cu} (hm : c.may = true) (h0 : c.e = 0) (ha : c.aft = true) (ho : kR c.v = false) : kZ c = zZ 1 := by
  have hb := qB hm
  have hp : c.v.pre = [] := Classical.byContradiction fun hp => by rw [(next_pre (wA hm) hp).2] at ho; cases ho
  unfold kZ relB
  rw [if_neg (by omega), if_pos ⟨ha, hp⟩, rel_self hp hb, ho]; rfl
theorem bD {c : Cu} (hm : c.may = true) (h0 : c.e = 0) (ha : c.aft = true) (ho : kR c.v = true) (hz : mO (yP c.v) = Ver.zero) : kZ c = zZ (-1) := by
  have hp : ¬ c.v.pre = [] := fun hp => next_pos (wA hm) hp ho hz
  unfold kZ
  rw [if_neg (by omega), if_neg (fun h => hp h.2)]
  refine relA_zero ?_
  rw [← (next_pre (wA hm) hp).1, ← pre0_next]; exact hz
theorem bC {c : Cu} (hm : c.may = true) (h0 : c.e = 0) (ha : c.aft = true) (ho : kR c.v = true) (hz : ¬ mO (yP c.v) = Ver.zero) : kZ c = ⟨0, mO (yP c.v), false⟩ := by
  have hb := qB hm
  rw [pre0_next] at hz ⊢
  unfold kZ
  by_cases hp : c.v.pre = []
  · rw [if_neg (by omega), if_pos ⟨ha, hp⟩]
    unfold relB
    rw [rel_self hp hb, ho]; rfl
  · rw [(next_pre (wA hm) hp).1] at hz ⊢
    rw [if_neg (by omega), if_neg (fun h => hp h.2)]
    exact relA_one hz
theorem tF {c : Cu} (hm : c.may = true) (h0 : c.e = 0) (ha : c.aft = false) (hz : mO c.v = Ver.zero) : kZ c = zZ (-1) := by
  unfold kZ
  rw [if_neg (by omega), if_neg (fun h => by rw [ha] at h; cases h.1)]
  exact relA_zero (by rw [← pK (qB hm)]; exact hz)
theorem mY {c : Cu} (hm : c.may = true) (h0 : c.e = 0) (ha : c.aft = false) (hz : ¬ mO c.v = Ver.zero) : kZ c = ⟨0, mO c.v, false⟩ := by
  unfold kZ
  rw [if_neg (by omega), if_neg (fun h => by rw [ha] at h; cases h.1), pK (qB hm)]
  exact relA_one (by rw [← pK (qB hm)]; exact hz)
theorem turn_right {c : Cu} (hm : c.may = true) : decide (c = kZ c) = kA c := by
  cases h : kA c with
  | false => exact decide_eq_false fun e => by rw [e, (turn_ok hm).2] at h; cases h
  | true =>
    refine decide_eq_true ?_
    by_cases h0 : c.e = 0
    · have hr := h
      unfold kA at hr
      rw [decide_eq_false (by simpa using h0), Bool.false_or] at hr
      simp only [Bool.and_eq_true, Bool.not_eq_true', decide_eq_true_eq] at hr
      obtain ⟨⟨ha, hp⟩, hl⟩ := hr
      have e1 : mO c.v = c.v := by
        have := qB hm
        rw [pK this, rel_self hp this]
      rw [mY hm h0 ha (by rw [e1]; intro e; rw [e] at hl; revert hl; decide), e1]
      obtain ⟨e, v, a⟩ := c
      simp only at h0 ha; subst h0; subst ha; rfl
    · exact (mX h0).symm
theorem tG (c : Cu) (W : World) (hc : c.short) (hm : c.may = true) : Calls Tryz.prog 64 #[zC c] W fun e w' => e = .returned (zC (kZ c)) ∧ Below W.heap.size W w' := by
  refine zR (n := 30) Tryz.func64 rfl (by kernel_rfl) (by kernel_rfl) (ZO (Zb (zC c) (fun b1 => Za (.agg #[.int .i64 0, .int .i64 0, .int .i64 0, .int .i64 0, .string ⟨#[]⟩, .string ⟨#[]⟩, .bool false]) (fun b2 => ZN (z6 (ZO (Zv (.pointer (some ⟨b1, 0, none⟩)) (Zl 1 ⟨b1, (zC c).cells, 72⟩ (off := 0) (.int .i64 c.e) ?_))))))))
  by_cases h1 : (c.e : Int) = 0
  · refine d9 (p := (c.e : Int) = 0) true (by kernel_rfl) (fun _ => by kernel_rfl) (decide_eq_true (h1)) ?_
    refine ZX (ZB (ZO (Zv (.pointer (some ⟨b1, 1, none⟩)) (Zl 1 ⟨b1, (zC c).cells, 72⟩ (off := 1) (.agg #[.int .i64 c.v.maj, .int .i64 c.v.min, .int .i64 c.v.pat, .string (mkS c.v.pre), .string (mkS c.v.build)]) (Za (.agg #[.int .i64 0, .int .i64 0, .int .i64 0, .string ⟨#[]⟩, .string ⟨#[]⟩]) (fun b3 => Zs 0 ⟨b3, #[.int .i64 0, .int .i64 0, .int .i64 0, .string ⟨#[]⟩, .string ⟨#[]⟩], 70⟩ (off := 0) (.agg #[.int .i64 c.v.maj, .int .i64 c.v.min, .int .i64 c.v.pat, .string (mkS c.v.pre), .string (mkS c.v.build)]) (Zv (.bool true) ?_)))))))
    refine ZN (z6 (ZO (Zv (.pointer (some ⟨b1, 6, none⟩)) (Zl 2 ⟨b1, (zC c).cells, 72⟩ (off := 6) (.bool c.aft) (zT (zB ?_))))))
    cases h2 : c.aft with
    | true =>
      refine Zt (z7 (Zl 0 ⟨b3, #[.int .i64 c.v.maj, .int .i64 c.v.min, .int .i64 c.v.pat, .string (mkS c.v.pre), .string (mkS c.v.build)], 70⟩ (off := 0) (.agg #[.int .i64 c.v.maj, .int .i64 c.v.min, .int .i64 c.v.pat, .string (mkS c.v.pre), .string (mkS c.v.build)]) (Zc (k := 111) (args := #[.agg #[.int .i64 c.v.maj, .int .i64 c.v.min, .int .i64 c.v.pat, .string (mkS c.v.pre), .string (mkS c.v.build)]]) (.tuple #[yK (yP c.v), .bool (kR c.v)]) (fun w _ => vnext_any c.v w hc.1 hc.2) (Zv (.tuple #[yK (yP c.v), .bool (kR c.v)]) (Zv (yK (yP c.v)) (Zv (.bool (kR c.v)) (Zs 0 ⟨b3, #[.int .i64 c.v.maj, .int .i64 c.v.min, .int .i64 c.v.pat, .string (mkS c.v.pre), .string (mkS c.v.build)], 70⟩ (off := 0) (yK (yP c.v)) (Zv (.bool (kR c.v)) (ZN (z6 ?_))))))))))
      refine z7 (Zv (.pointer (some ⟨b3, 3, none⟩)) (Zs 0 ⟨b3, (yK (yP c.v)).cells, 70⟩ (off := 3) (.string ⟨#[]⟩) (ZN (z6 (zL (ZO (Zv (.bool (kR c.v)) ?_)))))))
      cases h3 : kR c.v with
      | true =>
        refine Zv (.bool false) (Zv (.bool false) (ZX (ZO (Zl 0 ⟨b3, #[.int .i64 ((yP c.v).maj), .int .i64 ((yP c.v).min), .int .i64 ((yP c.v).pat), .string ⟨#[]⟩, .string (mkS (yP c.v).build)], 70⟩ (off := 0) (.agg #[.int .i64 ((yP c.v).maj), .int .i64 ((yP c.v).min), .int .i64 ((yP c.v).pat), .string ⟨#[]⟩, .string (mkS (yP c.v).build)]) (Zv (.agg #[.int .i64 0, .int .i64 0, .int .i64 0, .string ⟨#[]⟩, .string ⟨#[]⟩]) ?_)))))
        by_cases h4 : mO (yP c.v) = Ver.zero
        · refine zW (.bool true) (by kernel_rfl) (m9 (u := mO (yP c.v)) (v := Ver.zero) rfl (by kernel_rfl) (by kernel_rfl) (decide_eq_true (h4))) ?_
          refine Zv (.bool true) (ZY (ZO (Zv (.agg #[.int .i64 (-1), .int .i64 0, .int .i64 0, .int .i64 0, .string ⟨#[]⟩, .string ⟨#[]⟩, .bool false]) (Zs 1 ⟨b2, #[.int .i64 0, .int .i64 0, .int .i64 0, .int .i64 0, .string ⟨#[]⟩, .string ⟨#[]⟩, .bool false], 72⟩ (off := 0) (.agg #[.int .i64 (-1), .int .i64 0, .int .i64 0, .int .i64 0, .string ⟨#[]⟩, .string ⟨#[]⟩, .bool false]) (ZN (zF (zH ?_)))))))
          exact zA (ZC 1 ⟨b2, #[.int .i64 (-1), .int .i64 0, .int .i64 0, .int .i64 0, .string ⟨#[]⟩, .string ⟨#[]⟩, .bool false], 72⟩ (off := 0) (.agg #[.int .i64 (-1), .int .i64 0, .int .i64 0, .int .i64 0, .string ⟨#[]⟩, .string ⟨#[]⟩, .bool false]) Tryz.results64 (fun w hO => ⟨by first | rw [mX (by omega)] | (rw [fV hm (by omega) (by assumption) (by assumption)]; rfl) | (rw [bD hm (by omega) (by assumption) (by assumption) (by assumption)]; rfl) | (rw [bC hm (by omega) (by assumption) (by assumption) (by assumption)]; rfl) | (rw [tF hm (by omega) (by assumption) (by assumption)]; rfl) | (rw [mY hm (by omega) (by assumption) (by assumption)]; rfl), hO.below⟩))
        refine zW (.bool false) (by kernel_rfl) (m9 (u := mO (yP c.v)) (v := Ver.zero) rfl (by kernel_rfl) (by kernel_rfl) (decide_eq_false (h4))) (Zv (.bool false) (ZX (xK (zP (zB (ZO (Zl 0 ⟨b3, #[.int .i64 ((yP c.v).maj), .int .i64 ((yP c.v).min), .int .i64 ((yP c.v).pat), .string ⟨#[]⟩, .string (mkS (yP c.v).build)], 70⟩ (off := 0) (.agg #[.int .i64 ((yP c.v).maj), .int .i64 ((yP c.v).min), .int .i64 ((yP c.v).pat), .string ⟨#[]⟩, .string (mkS (yP c.v).build)]) (Zv (.agg #[.int .i64 0, .int .i64 ((yP c.v).maj), .int .i64 ((yP c.v).min), .int .i64 ((yP c.v).pat), .string ⟨#[]⟩, .string (mkS (yP c.v).build), .bool false]) ?_))))))))
        exact Zs 1 ⟨b2, #[.int .i64 0, .int .i64 0, .int .i64 0, .int .i64 0, .string ⟨#[]⟩, .string ⟨#[]⟩, .bool false], 72⟩ (off := 0) (.agg #[.int .i64 0, .int .i64 ((yP c.v).maj), .int .i64 ((yP c.v).min), .int .i64 ((yP c.v).pat), .string ⟨#[]⟩, .string (mkS (yP c.v).build), .bool false]) (ZN (zF (ZC 1 ⟨b2, #[.int .i64 0, .int .i64 ((yP c.v).maj), .int .i64 ((yP c.v).min), .int .i64 ((yP c.v).pat), .string ⟨#[]⟩, .string (mkS (yP c.v).build), .bool false], 72⟩ (off := 0) (.agg #[.int .i64 0, .int .i64 ((yP c.v).maj), .int .i64 ((yP c.v).min), .int .i64 ((yP c.v).pat), .string ⟨#[]⟩, .string (mkS (yP c.v).build), .bool false]) Tryz.results64 (fun w hO => ⟨by first | rw [mX (by omega)] | (rw [fV hm (by omega) (by assumption) (by assumption)]; rfl) | (rw [bD hm (by omega) (by assumption) (by assumption) (by assumption)]; rfl) | (rw [bC hm (by omega) (by assumption) (by assumption) (by assumption)]; rfl) | (rw [tF hm (by omega) (by assumption) (by assumption)]; rfl) | (rw [mY hm (by omega) (by assumption) (by assumption)]; rfl), hO.below⟩))))
      | false =>
        refine Zv (.bool true) (Zv (.bool true) (ZY (ZO (Zv (.agg #[.int .i64 1, .int .i64 0, .int .i64 0, .int .i64 0, .string ⟨#[]⟩, .string ⟨#[]⟩, .bool false]) (Zs 1 ⟨b2, #[.int .i64 0, .int .i64 0, .int .i64 0, .int .i64 0, .string ⟨#[]⟩, .string ⟨#[]⟩, .bool false], 72⟩ (off := 0) (.agg #[.int .i64 1, .int .i64 0, .int .i64 0, .int .i64 0, .string ⟨#[]⟩, .string ⟨#[]⟩, .bool false]) (ZN (zF ?_)))))))
        exact zH (zA (ZC 1 ⟨b2, #[.int .i64 1, .int .i64 0, .int .i64 0, .int .i64 0, .string ⟨#[]⟩, .string ⟨#[]⟩, .bool false], 72⟩ (off := 0) (.agg #[.int .i64 1, .int .i64 0, .int .i64 0, .int .i64 0, .string ⟨#[]⟩, .string ⟨#[]⟩, .bool false]) Tryz.results64 (fun w hO => ⟨by first | rw [mX (by omega)] | (rw [fV hm (by omega) (by assumption) (by assumption)]; rfl) | (rw [bD hm (by omega) (by assumption) (by assumption) (by assumption)]; rfl) | (rw [bC hm (by omega) (by assumption) (by assumption) (by assumption)]; rfl) | (rw [tF hm (by omega) (by assumption) (by assumption)]; rfl) | (rw [mY hm (by omega) (by assumption) (by assumption)]; rfl), hO.below⟩)))
    | false =>
      refine Zf (ZB (ZO (Zv (.pointer (some ⟨b3, 3, none⟩)) (Zs 0 ⟨b3, #[.int .i64 c.v.maj, .int .i64 c.v.min, .int .i64 c.v.pat, .string (mkS c.v.pre), .string (mkS c.v.build)], 70⟩ (off := 3) (.string ⟨#[]⟩) (ZN (z6 (zL (z6 ?_))))))))
      refine z7 (Zv (.bool true) (Zv (.bool false) (Zv (.bool false) (ZX (ZO (Zl 0 ⟨b3, #[.int .i64 c.v.maj, .int .i64 c.v.min, .int .i64 c.v.pat, .string ⟨#[]⟩, .string (mkS c.v.build)], 70⟩ (off := 0) (.agg #[.int .i64 c.v.maj, .int .i64 c.v.min, .int .i64 c.v.pat, .string ⟨#[]⟩, .string (mkS c.v.build)]) (Zv (.agg #[.int .i64 0, .int .i64 0, .int .i64 0, .string ⟨#[]⟩, .string ⟨#[]⟩]) ?_)))))))
      by_cases h5 : mO c.v = Ver.zero
      · refine zW (.bool true) (by kernel_rfl) (m9 (u := mO c.v) (v := Ver.zero) rfl (by kernel_rfl) (by kernel_rfl) (decide_eq_true (h5))) ?_
        refine Zv (.bool true) (ZY (ZO (Zv (.agg #[.int .i64 (-1), .int .i64 0, .int .i64 0, .int .i64 0, .string ⟨#[]⟩, .string ⟨#[]⟩, .bool false]) (Zs 1 ⟨b2, #[.int .i64 0, .int .i64 0, .int .i64 0, .int .i64 0, .string ⟨#[]⟩, .string ⟨#[]⟩, .bool false], 72⟩ (off := 0) (.agg #[.int .i64 (-1), .int .i64 0, .int .i64 0, .int .i64 0, .string ⟨#[]⟩, .string ⟨#[]⟩, .bool false]) (ZN (zF (zH ?_)))))))
        exact zA (ZC 1 ⟨b2, #[.int .i64 (-1), .int .i64 0, .int .i64 0, .int .i64 0, .string ⟨#[]⟩, .string ⟨#[]⟩, .bool false], 72⟩ (off := 0) (.agg #[.int .i64 (-1), .int .i64 0, .int .i64 0, .int .i64 0, .string ⟨#[]⟩, .string ⟨#[]⟩, .bool false]) Tryz.results64 (fun w hO => ⟨by first | rw [mX (by omega)] | (rw [fV hm (by omega) (by assumption) (by assumption)]; rfl) | (rw [bD hm (by omega) (by assumption) (by assumption) (by assumption)]; rfl) | (rw [bC hm (by omega) (by assumption) (by assumption) (by assumption)]; rfl) | (rw [tF hm (by omega) (by assumption) (by assumption)]; rfl) | (rw [mY hm (by omega) (by assumption) (by assumption)]; rfl), hO.below⟩))
      refine zW (.bool false) (by kernel_rfl) (m9 (u := mO c.v) (v := Ver.zero) rfl (by kernel_rfl) (by kernel_rfl) (decide_eq_false (h5))) (Zv (.bool false) (ZX (xK (zP (zB (ZO (Zl 0 ⟨b3, #[.int .i64 c.v.maj, .int .i64 c.v.min, .int .i64 c.v.pat, .string ⟨#[]⟩, .string (mkS c.v.build)], 70⟩ (off := 0) (.agg #[.int .i64 c.v.maj, .int .i64 c.v.min, .int .i64 c.v.pat, .string ⟨#[]⟩, .string (mkS c.v.build)]) (Zv (.agg #[.int .i64 0, .int .i64 c.v.maj, .int .i64 c.v.min, .int .i64 c.v.pat, .string ⟨#[]⟩, .string (mkS c.v.build), .bool false]) ?_))))))))
      exact Zs 1 ⟨b2, #[.int .i64 0, .int .i64 0, .int .i64 0, .int .i64 0, .string ⟨#[]⟩, .string ⟨#[]⟩, .bool false], 72⟩ (off := 0) (.agg #[.int .i64 0, .int .i64 c.v.maj, .int .i64 c.v.min, .int .i64 c.v.pat, .string ⟨#[]⟩, .string (mkS c.v.build), .bool false]) (ZN (zF (ZC 1 ⟨b2, #[.int .i64 0, .int .i64 c.v.maj, .int .i64 c.v.min, .int .i64 c.v.pat, .string ⟨#[]⟩, .string (mkS c.v.build), .bool false], 72⟩ (off := 0) (.agg #[.int .i64 0, .int .i64 c.v.maj, .int .i64 c.v.min, .int .i64 c.v.pat, .string ⟨#[]⟩, .string (mkS c.v.build), .bool false]) Tryz.results64 (fun w hO => ⟨by first | rw [mX (by omega)] | (rw [fV hm (by omega) (by assumption) (by assumption)]; rfl) | (rw [bD hm (by omega) (by assumption) (by assumption) (by assumption)]; rfl) | (rw [bC hm (by omega) (by assumption) (by assumption) (by assumption)]; rfl) | (rw [tF hm (by omega) (by assumption) (by assumption)]; rfl) | (rw [mY hm (by omega) (by assumption) (by assumption)]; rfl), hO.below⟩))))
  refine Zn (p := (c.e : Int) = 0) false (decide_eq_false (h1)) (ZY (ZO (Zl 1 ⟨b1, (zC c).cells, 72⟩ (off := 0) (zC c) (Zs 0 ⟨b2, #[.int .i64 0, .int .i64 0, .int .i64 0, .int .i64 0, .string ⟨#[]⟩, .string ⟨#[]⟩, .bool false], 72⟩ (off := 0) (zC c) (ZN (zF (zA ?_)))))))
  exact ZC 0 ⟨b2, (zC c).cells, 72⟩ (off := 0) (zC c) Tryz.results64 (fun w hO => ⟨by first | rw [mX (by omega)] | (rw [fV hm (by omega) (by assumption) (by assumption)]; rfl) | (rw [bD hm (by omega) (by assumption) (by assumption) (by assumption)]; rfl) | (rw [bC hm (by omega) (by assumption) (by assumption) (by assumption)]; rfl) | (rw [tF hm (by omega) (by assumption) (by assumption)]; rfl) | (rw [mY hm (by omega) (by assumption) (by assumption)]; rfl), hO.below⟩)
theorem mayRel_any (c : Cu) (W : World) (hc : c.short) (hm : c.may = true) : Calls Tryz.prog 38 #[zC c] W fun e w' => e = .returned (.bool (kA c)) ∧ Below W.heap.size W w' := by
  rw [← turn_right hm]
  refine zR (n := 7) Tryz.func38 rfl (by kernel_rfl) (by kernel_rfl) (ZO (Zb (zC c) (fun b1 => Zv (.bool false) (ZN (z6 (mA (by kernel_rfl) (by kernel_rfl) (Zm 0 ⟨b1, (zC c).cells, 72⟩ (off := 0) (zC c) (Zm 0 ⟨b1, (zC c).cells, 72⟩ (off := 0) (zC c) (Zq (k := 64) (args := #[zC c]) (zC (kZ c)) (fun w _ => tG c w hc hm) ?_)))))))))
  by_cases h1 : c = kZ c
  · refine jL (.bool true) (by kernel_rfl) (v8 (u := c) (v := kZ c) rfl (by kernel_rfl) (by kernel_rfl) (decide_eq_true (h1))) ?_
    exact Zw (.bool true) (vR (zB (zF (ZF (.bool true) Tryz.results38 (fun w hO => ⟨by rw [decide_eq_true h1], hO.below⟩)))))
  exact jL (.bool false) (by kernel_rfl) (v8 (u := c) (v := kZ c) rfl (by kernel_rfl) (by kernel_rfl) (decide_eq_false (h1))) (Zw (.bool false) (vR (zB (zF (ZF (.bool false) Tryz.results38 (fun w hO => ⟨by rw [decide_eq_false h1], hO.below⟩))))))
def gL (s : Sp) : Bool := !kA s.lo || !kA s.hi
theorem wS {l : List Sp} : (!l.any gL) = l.all fun x => kA x.lo && kA x.hi := by
  rw [List.not_any_eq_all_not]
  congr 1
  funext s
  unfold gL
  simp
theorem foreign1_any (s : Sp) (W : World) (hs : s.short) (hm : s.may = true) : Calls Tryz.prog 37 #[zM s] W fun e w' => e = .returned (.bool (gL s)) ∧ Below W.heap.size W w' := by
  obtain ⟨m1, m2⟩ := zU hm
  refine zR (n := 13) Tryz.func37 rfl (by kernel_rfl) (by kernel_rfl) (ZO (Zb (zM s) (fun b1 => Zv (.bool false) (ZR (Zv (.pointer (some ⟨b1, 0, none⟩)) (Zl 0 ⟨b1, (zM s).cells, 74⟩ (off := 0) (.agg #[.int .i64 s.lo.e, .int .i64 s.lo.v.maj, .int .i64 s.lo.v.min, .int .i64 s.lo.v.pat, .string (mkS s.lo.v.pre), .string (mkS s.lo.v.build), .bool s.lo.aft]) (Zc (k := 38) (args := #[.agg #[.int .i64 s.lo.e, .int .i64 s.lo.v.maj, .int .i64 s.lo.v.min, .int .i64 s.lo.v.pat, .string (mkS s.lo.v.pre), .string (mkS s.lo.v.build), .bool s.lo.aft]]) (.bool (kA s.lo)) (fun w _ => mayRel_any s.lo w hs.1 m1) ?_)))))))
  cases h1 : kA s.lo with
  | true =>
    refine Zv (.bool false) (Zv (.bool false) (Zv (.pointer (some ⟨b1, 7, none⟩)) (Zl 0 ⟨b1, (zM s).cells, 74⟩ (off := 7) (.agg #[.int .i64 s.hi.e, .int .i64 s.hi.v.maj, .int .i64 s.hi.v.min, .int .i64 s.hi.v.pat, .string (mkS s.hi.v.pre), .string (mkS s.hi.v.build), .bool s.hi.aft]) (Zc (k := 38) (args := #[.agg #[.int .i64 s.hi.e, .int .i64 s.hi.v.maj, .int .i64 s.hi.v.min, .int .i64 s.hi.v.pat, .string (mkS s.hi.v.pre), .string (mkS s.hi.v.build), .bool s.hi.aft]]) (.bool (kA s.hi)) (fun w _ => mayRel_any s.hi w hs.2 m2) ?_))))
    cases h2 : kA s.hi with
    | true =>
      exact Zv (.bool false) (Zv (.bool false) (Zv (.bool false) (ZN (zF (ZF (.bool false) Tryz.results37 (fun w hO => ⟨by unfold gL; simp [h1, h2], hO.below⟩))))))
    | false =>
      exact Zv (.bool true) (Zv (.bool true) (Zv (.bool true) (ZN (zF (ZF (.bool true) Tryz.results37 (fun w hO => ⟨by unfold gL; simp [h1, h2], hO.below⟩))))))
  | false =>
    refine Zv (.bool true) (Zv (.bool true) (Zk (Zk (Zk (Zk (Zv (.bool true) (Zv (.bool true) (ZN (zF (ZF (.bool true) Tryz.results37 ?_))))))))))
    exact fun w hO => ⟨by unfold gL; simp [h1], hO.below⟩
def pR : List Sp → Int → Int
  | [], _ => -1
  | s :: r, k => if gL s then k else pR r (k + 1)
theorem idxR_any : ∀ (l : List Sp) (k : Int), 0 ≤ k → decide (0 ≤ pR l k) = l.any gL
  | [], k, _ => rfl
  | s :: r, k, hk => by
    unfold pR
    rw [List.any_cons]
    cases h : gL s with
    | true => rw [if_pos rfl, Bool.true_or]; exact decide_eq_true hk
    | false => rw [if_neg (by decide), Bool.false_or]; exact idxR_any r (k + 1) (by omega)
theorem idxr_any (A : Option Addr) (cap : Nat) (l : List Sp) (W : World) (hv : Reads yR W W.heap.size A l) (hn : l.length ≤ 1000000) (hl : yU l) (hmay : ∀ s ∈ l, s.may = true) :
    Calls Tryz.prog 67 #[.slice A l.length cap, .func (.func 37) #[] #[]] W fun e w' => e = .returned (.int .i64 (pR l 0)) ∧ Below W.heap.size W w' := by
  refine zR (n := 19) Tryz.func67 rfl (by kernel_rfl) (by kernel_rfl) (ZO (Zv (.int .i64 0) (ZN (z6 (ZO (Zv (.slice A l.length cap) (Zv (.int .i64 (l.length : Int)) (Zv (.int .i64 0) ?_))))))))
  refine ZN (zL (xA (fun L f m => ∃ (k : Nat) (j : Nat → Value), (k ≤ l.length ∧ pR l 0 = pR (l.drop k) (k : Int)) ∧ L = [] ∧ f = g9 j [(0, .slice A l.length cap), (1, .func (.func 37) #[] #[]), (7, .int .i64 (l.length : Int)), (8, .int .i64 (k : Int))] ∧ m = l.length - k) (l.length - 0) ⟨0, _, ⟨Nat.zero_le _, by rw [List.drop_zero]; rfl⟩, rfl, ZU, rfl⟩ ?_))
  rintro L f m ⟨k, j, hrel, rfl, rfl, rfl⟩
  have hkl := hrel.1
  refine z6 (z7 ?_)
  by_cases h1 : (k : Int) < (l.length : Int)
  · have hk : k < l.length := by omega
    obtain ⟨b, off, hA, hlt, hcel⟩ := hv (by omega)
    obtain ⟨s, hs⟩ : ∃ s, l[k] = s := ⟨_, rfl⟩
    have hsk : s.short := hs ▸ hl l[k] (List.getElem_mem hk)
    have hsm : s.may = true := hs ▸ hmay l[k] (List.getElem_mem hk)
    refine Zd (p := (k : Int) < (l.length : Int)) true (decide_eq_true (h1)) (ZN (z6 (Zt (ZB (z6 (zL (ZO (Zv (.int .i64 (k : Int)) ?_))))))))
    refine Zv (.int .i64 (k : Int)) (ZR (Zv (.func (.func 37) #[] #[]) (Zv (.slice A l.length cap) (Zv (.int .i64 (k : Int)) (zW (.pointer (some ⟨b, off + k * 14, none⟩)) (by kernel_rfl) (ZA (b := b) (off := off) (c := cap) (n := l.length) (k := .i64) (j := (k : Int)) (e := 74) (sz := 14) hA) (Zo (zM s) (a := ⟨b, off + k * 14, none⟩) (fun w hO => xG yC (fun j u h => (hO.below.cell (p := ⟨b, off + j, none⟩) hlt).trans (hcel j u h)) k 0 hk (by omega) _ (by rw [hs]; kernel_rfl)) (Zc (k := 37) (args := #[zM s]) (.bool (gL s)) (fun w hO => foreign1_any s w hsk hsm) (zT ?_))))))))
    refine zB ?_
    cases h2 : gL s with
    | true =>
      refine Zt (ZO (Zv (.int .i64 (k : Int)) (Zv (.int .i64 (k : Int)) (ZN (zF (zH (zA (yT (zH ?_)))))))))
      exact zA (ZF (.int .i64 (k : Int)) Tryz.results67 (fun w hO => ⟨by rw [hrel.2, List.drop_eq_getElem_cons hk, hs]; simp only [pR, h2]; rfl, hO.below⟩))
    | false =>
      refine Zf (xK (zP (zB (z7 (Zu (k := .i64) (((k + 1 : Nat) : Int)) (IntWalk.i64_in _ (by omega)) (Zv (.int .i64 ((k + 1 : Nat) : Int)) (zT ?_)))))))
      have hnext : pR l 0 = pR (l.drop (k + 1)) ((k + 1 : Nat) : Int) := by rw [hrel.2, List.drop_eq_getElem_cons hk, hs]; simp only [pR, h2]; rfl
      exact zX (m' := l.length - (k + 1)) (by omega) ⟨k + 1, _, ⟨by omega, hnext⟩, rfl, ZU, rfl⟩
  refine Zd (p := (k : Int) < (l.length : Int)) false (decide_eq_false (h1)) (ZN (z6 (Zf (y8 (z8 (zQ (zG (zB (z6 (z7 ?_))))))))))
  exact Zv (.int .i64 (-1)) (ZN (zF (ZF (.int .i64 (-1)) Tryz.results67 (fun w hO => ⟨by rw [hrel.2, List.drop_of_length_le (by omega)]; rfl, hO.below⟩))))
theorem containsr_any (A : Option Addr) (cap : Nat) (l : List Sp) (W : World) (hv : Reads yR W W.heap.size A l) (hn : l.length ≤ 1000000) (hl : yU l) (hmay : ∀ s ∈ l, s.may = true) :
    Calls Tryz.prog 40 #[.slice A l.length cap, .func (.func 37) #[] #[]] W fun e w' => e = .returned (.bool (l.any gL)) ∧ Below W.heap.size W w' := by
  rw [← idxR_any l 0 (by omega)]
  refine zR (n := 9) Tryz.func40 rfl (by kernel_rfl) (by kernel_rfl) (ZO (Zv (.bool false) (ZR (Zv (.slice A l.length cap) (Zv (.func (.func 37) #[] #[]) (Zc (k := 67) (args := #[.slice A l.length cap, .func (.func 37) #[] #[]]) (.int .i64 (pR l 0)) (fun w hO => idxr_any A cap l w (hv.on hO.below hO.size) hn hl hmay) ?_))))))
  by_cases h1 : (0 : Int) ≤ pR l 0
  · refine yS (p := (0 : Int) ≤ pR l 0) true (by kernel_rfl) (fun _ => by kernel_rfl) (decide_eq_true (h1)) ?_
    exact Zv (.bool true) (ZN (zF (ZF (.bool true) Tryz.results40 (fun w hO => ⟨by simp only [decide_eq_true h1], hO.below⟩))))
  exact Zd (p := (0 : Int) ≤ pR l 0) false (decide_eq_false (h1)) (Zv (.bool false) (ZN (zF (ZF (.bool false) Tryz.results40 (fun w hO => ⟨by simp only [decide_eq_false h1], hO.below⟩)))))
theorem fE (A B : Option Addr) (c d : Nat) (a : St) (W : World) (hs : SetIn W W.heap.size A B a) (ca : a.rel.length ≤ c ∧ a.pre.length ≤ d) : Calls Tryz.prog 21 #[.agg #[.slice A a.rel.length c, .slice B a.pre.length d]] W fun e w' => e = .returned (.bool a.may) ∧ Below W.heap.size W w' := by
  refine zR (n := 19) Tryz.func21 rfl (by kernel_rfl) (by kernel_rfl) (ZO (Zb (.agg #[.slice A a.rel.length c, .slice B a.pre.length d]) (fun b1 => Zv (.bool false) (ZR (Zv (.func (.func 37) #[] #[]) (zT (zB ?_)))))))
  refine ZO (Zv (.pointer (some ⟨b1, 0, none⟩)) (Zl 0 ⟨b1, #[.slice A a.rel.length c, .slice B a.pre.length d], 24⟩ (off := 0) (.slice A a.rel.length c) (Zc (k := 39) (args := #[.slice A a.rel.length c]) (.bool (zJ a.rel)) (fun w hO => vJ A c a.rel w (hs.rel.on hO.below hO.size) (Nat.le_trans hs.lr (by decide)) hs.sr) (Zv (.bool (zJ a.rel)) ?_))))
  cases h1 : zJ a.rel with
  | true =>
    refine Zv (.pointer (some ⟨b1, 1, none⟩)) (Zl 0 ⟨b1, #[.slice A a.rel.length c, .slice B a.pre.length d], 24⟩ (off := 1) (.slice B a.pre.length d) (Zc (k := 39) (args := #[.slice B a.pre.length d]) (.bool (zJ a.pre)) (fun w hO => vJ B d a.pre w (hs.pre.on hO.below hO.size) (Nat.le_trans hs.lp (by decide)) hs.sp) (Zv (.bool (zJ a.pre)) (Zv (.bool (zJ a.pre)) ?_))))
    cases h2 : zJ a.pre with
    | true =>
      refine Zv (.pointer (some ⟨b1, 0, none⟩)) (Zl 0 ⟨b1, #[.slice A a.rel.length c, .slice B a.pre.length d], 24⟩ (off := 0) (.slice A a.rel.length c) (Zv (.func (.func 37) #[] #[]) (Zc (k := 40) (args := #[.slice A a.rel.length c, .func (.func 37) #[] #[]]) (.bool (a.rel.any gL)) (fun w hO => containsr_any A c a.rel w (hs.rel.on hO.below hO.size) (Nat.le_trans hs.lr (by decide)) hs.sr (x3 h1)) ?_)))
      cases h3 : a.rel.any gL with
      | true =>
        exact Zv (.bool false) (Zv (.bool false) (Zv (.bool false) (ZN (zF (ZF (.bool false) Tryz.results21 (fun w hO => ⟨by unfold St.may; rw [← wS]; simp [h1, h2, h3], hO.below⟩))))))
      | false =>
        exact Zv (.bool true) (Zv (.bool true) (Zv (.bool true) (ZN (zF (ZF (.bool true) Tryz.results21 (fun w hO => ⟨by unfold St.may; rw [← wS]; simp [h1, h2, h3], hO.below⟩))))))
    | false =>
      exact Zk (Zk (Zk (Zk (Zk (Zv (.bool false) (Zv (.bool false) (ZN (zF (ZF (.bool false) Tryz.results21 (fun w hO => ⟨by unfold St.may; rw [← wS]; simp [h1, h2], hO.below⟩))))))))))
  | false =>
    refine Zk (Zk (Zk (Zv (.bool false) (Zv (.bool false) (Zk (Zk (Zk (Zk (Zk (Zv (.bool false) (Zv (.bool false) ?_)))))))))))
    exact ZN (zF (ZF (.bool false) Tryz.results21 (fun w hO => ⟨by unfold St.may; rw [← wS]; simp [h1], hO.below⟩)))
theorem gC (W : World) : Calls Tryz.prog 29 #[] W fun e w' => e = .returned (.agg #[.slice none 0 0, .slice none 0 0]) ∧ Below W.heap.size W w' := by
  refine zR (n := 2) Tryz.func29 rfl (by kernel_rfl) (by kernel_rfl) (ZO (Za (.agg #[.slice none 0 0, .slice none 0 0]) (fun b1 => ZR (Zv (.agg #[.slice none 0 0, .slice none 0 0]) (Zs 0 ⟨b1, #[.slice none 0 0, .slice none 0 0], 24⟩ (off := 0) (.agg #[.slice none 0 0, .slice none 0 0]) (zT (zB ?_)))))))
  exact zF (ZC 0 ⟨b1, #[.slice none 0 0, .slice none 0 0], 24⟩ (off := 0) (.agg #[.slice none 0 0, .slice none 0 0]) Tryz.results29 (fun w hO => ⟨rfl, hO.below⟩))
end
section
theorem vS (A B : Option Addr) (c d : Nat) (a : St) (W : World) (hs : SetIn W W.heap.size A B a) (ca : a.rel.length ≤ c ∧ a.pre.length ≤ d) (ht : HasTab W) :
    Calls Tryz.prog 11 #[.agg #[.slice A a.rel.length c, .slice B a.pre.length d]] W fun e w' => e = .returned (.string (mkS (yN a))) ∧ Below W.heap.size W w' := by
  refine zR (n := 21) Tryz.func11 rfl (by kernel_rfl) (by kernel_rfl) (ZO (Zb (.agg #[.slice A a.rel.length c, .slice B a.pre.length d]) (fun b1 => Zv (.string ⟨#[]⟩) (ZN (z6 (ZO (Zl 0 ⟨b1, #[.slice A a.rel.length c, .slice B a.pre.length d], 24⟩ (off := 0) (.agg #[.slice A a.rel.length c, .slice B a.pre.length d]) (Zc (k := 21) (args := #[.agg #[.slice A a.rel.length c, .slice B a.pre.length d]]) (.bool a.may) (fun w hO => fE A B c d a w (hs.on hO.below hO.size) ca) ?_))))))))
  cases h1 : a.may with
  | true =>
    obtain ⟨y1, y2, y3⟩ := St.facts h1
    have z1 := hJ (g0 y1)
    have z2 := hJ (g0 y2)
    have z3 := hs.lr
    have z4 := hs.lp
    refine Zv (.bool false) (ZX (ZB (ZO (Za (.agg #[.pointer none, .slice none 0 0]) (fun b2 => ?_)))))
    obtain ⟨o0, eo⟩ : ∃ q, q = ([⟨b2, #[.pointer none, .slice none 0 0], 46⟩] : List Blk) := ⟨_, rfl⟩
    have hB0 : Bu b2 [] o0 := eo ▸ Bu.new b2
    refine xM (L' := o0 ++ ([⟨b1, #[.slice A a.rel.length c, .slice B a.pre.length d], 24⟩])) (by rw [eo]; rfl) (yQ (L' := ⟨b1, #[.slice A a.rel.length c, .slice B a.pre.length d], 24⟩ :: (o0)) (fun w hO => hO.perm (List.perm_append_comm (l₁ := o0) (l₂ := ([⟨b1, #[.slice A a.rel.length c, .slice B a.pre.length d], 24⟩] : List Blk)))) (ZR (Zv (.pointer (some ⟨b1, 0, none⟩)) (Zl 0 ⟨b1, #[.slice A a.rel.length c, .slice B a.pre.length d], 24⟩ (off := 0) (.slice A a.rel.length c) (yQ (L' := o0 ++ ([⟨b1, #[.slice A a.rel.length c, .slice B a.pre.length d], 24⟩] : List Blk)) (fun w hO => hO.perm (List.perm_append_comm (l₁ := ([⟨b1, #[.slice A a.rel.length c, .slice B a.pre.length d], 24⟩] : List Blk)) (l₂ := o0))) (zV (k := 22) (args := #[.pointer (some ⟨b2, 0, none⟩), .slice A a.rel.length c]) (fun v' L' => v' = .tuple #[] ∧ ∃ ob', L' = ob' ++ ([⟨b1, #[.slice A a.rel.length c, .slice B a.pre.length d], 24⟩] : List Blk) ∧ Bu b2 ([] ++ yG a.rel) ob') (by kernel_rfl) (fun _ => by kernel_rfl) (fun w hO => (wrow_any b2 [] A c a.rel o0 w hB0 (Own.lent (R := ([⟨b1, #[.slice A a.rel.length c, .slice B a.pre.length d], 24⟩] : List Blk)) hO) W.heap.size (fun x hx => (hO.base x (List.mem_append_left _ hx)).elim id fun q => by simp at q) hO.size ⟨fun w' hb => ht.on (hO.below.trans hb)⟩ (hs.rel.on hO.below (Nat.le_refl _)) (g0 y1) hs.sr (by first | omega | (simp only [List.length_append, List.length_cons, List.length_nil]; omega)) (Nat.le_trans hs.lr (by decide))).mono fun e w' ⟨ob', k1, k2, k3⟩ => ⟨_, _, k1, ⟨rfl, ob', rfl, k2⟩, Own.back hO k3⟩) (fun vl1 Ll1 hvl1 => ?_)))))))
    obtain ⟨rfl, ob1, rfl, hB1⟩ := hvl1
    refine yQ (L' := ⟨b1, #[.slice A a.rel.length c, .slice B a.pre.length d], 24⟩ :: (ob1)) (fun w hO => hO.perm (List.perm_append_comm (l₁ := ob1) (l₂ := ([⟨b1, #[.slice A a.rel.length c, .slice B a.pre.length d], 24⟩] : List Blk)))) (ZN (z6 (ZO (Zv (.pointer (some ⟨b1, 1, none⟩)) (Zl 0 ⟨b1, #[.slice A a.rel.length c, .slice B a.pre.length d], 24⟩ (off := 1) (.slice B a.pre.length d) (Zv (.int .i64 (a.pre.length : Int)) ?_))))))
    by_cases h2 : (0 : Int) < (a.pre.length : Int)
    · refine yS (p := (0 : Int) < (a.pre.length : Int)) true (by kernel_rfl) (fun _ => by kernel_rfl) (decide_eq_true (h2)) ?_
      refine ZY (ZO (Zv (.pointer (some ⟨b2, 0, none⟩)) (yQ (L' := ob1 ++ ([⟨b1, #[.slice A a.rel.length c, .slice B a.pre.length d], 24⟩] : List Blk)) (fun w hO => hO.perm (List.perm_append_comm (l₁ := ([⟨b1, #[.slice A a.rel.length c, .slice B a.pre.length d], 24⟩] : List Blk)) (l₂ := ob1))) (zV (k := 23) (args := #[.pointer (some ⟨b2, 0, none⟩), .string ⟨#[32, 47, 32]⟩]) (fun v' L' => v' = .tuple #[.int .i64 ((mkS ([32, 47, 32])).size : Int), .nilIface] ∧ ∃ ob', L' = ob' ++ ([⟨b1, #[.slice A a.rel.length c, .slice B a.pre.length d], 24⟩] : List Blk) ∧ Bu b2 ([] ++ yG a.rel ++ ([32, 47, 32])) ob') (by kernel_rfl) (fun _ => by kernel_rfl) (fun w hO => (qY b2 ([] ++ yG a.rel) ([32, 47, 32]) ob1 w hB1 (Own.lent (R := ([⟨b1, #[.slice A a.rel.length c, .slice B a.pre.length d], 24⟩] : List Blk)) hO) (by first | omega | (simp only [List.length_append, List.length_cons, List.length_nil]; omega)) (by first | omega | (simp only [List.length_append, List.length_cons, List.length_nil]; omega))).mono fun e w' ⟨ob', k1, k2, k3⟩ => ⟨_, _, k1, ⟨rfl, ob', rfl, k2⟩, Own.back hO k3⟩) (fun vl2 Ll2 hvl2 => ?_)))))
      obtain ⟨rfl, ob2, rfl, hB2⟩ := hvl2
      refine yQ (L' := ⟨b1, #[.slice A a.rel.length c, .slice B a.pre.length d], 24⟩ :: (ob2)) (fun w hO => hO.perm (List.perm_append_comm (l₁ := ob2) (l₂ := ([⟨b1, #[.slice A a.rel.length c, .slice B a.pre.length d], 24⟩] : List Blk)))) (ZN (z7 (Zv (.pointer (some ⟨b1, 1, none⟩)) (Zl 0 ⟨b1, #[.slice A a.rel.length c, .slice B a.pre.length d], 24⟩ (off := 1) (.slice B a.pre.length d) (yQ (L' := ob2 ++ ([⟨b1, #[.slice A a.rel.length c, .slice B a.pre.length d], 24⟩] : List Blk)) (fun w hO => hO.perm (List.perm_append_comm (l₁ := ([⟨b1, #[.slice A a.rel.length c, .slice B a.pre.length d], 24⟩] : List Blk)) (l₂ := ob2))) (zV (k := 22) (args := #[.pointer (some ⟨b2, 0, none⟩), .slice B a.pre.length d]) (fun v' L' => v' = .tuple #[] ∧ ∃ ob', L' = ob' ++ ([⟨b1, #[.slice A a.rel.length c, .slice B a.pre.length d], 24⟩] : List Blk) ∧ Bu b2 ([] ++ yG a.rel ++ ([32, 47, 32]) ++ yG a.pre) ob') (by kernel_rfl) (fun _ => by kernel_rfl) (fun w hO => (wrow_any b2 ([] ++ yG a.rel ++ ([32, 47, 32])) B d a.pre ob2 w hB2 (Own.lent (R := ([⟨b1, #[.slice A a.rel.length c, .slice B a.pre.length d], 24⟩] : List Blk)) hO) W.heap.size (fun x hx => (hO.base x (List.mem_append_left _ hx)).elim id fun q => by simp at q) hO.size ⟨fun w' hb => ht.on (hO.below.trans hb)⟩ (hs.pre.on hO.below (Nat.le_refl _)) (g0 y2) hs.sp (by first | omega | (simp only [List.length_append, List.length_cons, List.length_nil]; omega)) (Nat.le_trans hs.lp (by decide))).mono fun e w' ⟨ob', k1, k2, k3⟩ => ⟨_, _, k1, ⟨rfl, ob', rfl, k2⟩, Own.back hO k3⟩) (fun vl3 Ll3 hvl3 => ?_)))))))
      obtain ⟨rfl, ob3, rfl, hB3⟩ := hvl3
      refine yQ (L' := ⟨b1, #[.slice A a.rel.length c, .slice B a.pre.length d], 24⟩ :: (ob3)) (fun w hO => hO.perm (List.perm_append_comm (l₁ := ob3) (l₂ := ([⟨b1, #[.slice A a.rel.length c, .slice B a.pre.length d], 24⟩] : List Blk)))) (ZR (Zv (.pointer (some ⟨b2, 0, none⟩)) ?_))
      have hfin : [] ++ yG a.rel ++ ([32, 47, 32]) ++ yG a.pre = x8 a := by unfold x8; rw [if_neg (fun e => absurd h2 (by rw [e]; decide))]; simp
      rw [hfin] at hB3
      refine zV (k := 24) (args := #[.pointer (some ⟨b2, 0, none⟩)]) (fun v' L' => v' = .string (mkS (x8 a)) ∧ L' = []) (by kernel_rfl) (fun _ => by kernel_rfl) (fun w hO => (wstring_any b2 (x8 a) ob3 W w hB3 (Own.sub [⟨b1, #[.slice A a.rel.length c, .slice B a.pre.length d], 24⟩] hO) (stext_ne h1)).mono fun e w' ⟨k1, k2⟩ => ⟨_, _, k1, ⟨rfl, rfl⟩, k2⟩) (fun v9 L9 hv9 => ?_)
      obtain ⟨rfl, rfl⟩ := hv9
      exact Zv (.string (mkS (x8 a))) (ZN (zF (ZF (.string (mkS (x8 a))) Tryz.results11 (fun w hO => ⟨by rw [show yN a = x8 a from if_pos h1], hO.below⟩))))
    refine Zd (p := (0 : Int) < (a.pre.length : Int)) false (decide_eq_false (h2)) (ZX (ZB (ZO (Zv (.pointer (some ⟨b2, 0, none⟩)) ?_))))
    have hfin : [] ++ yG a.rel = x8 a := by unfold x8; rw [if_pos (List.eq_nil_of_length_eq_zero (by omega))]; simp
    rw [hfin] at hB1
    refine zV (k := 24) (args := #[.pointer (some ⟨b2, 0, none⟩)]) (fun v' L' => v' = .string (mkS (x8 a)) ∧ L' = []) (by kernel_rfl) (fun _ => by kernel_rfl) (fun w hO => (wstring_any b2 (x8 a) ob1 W w hB1 (Own.sub [⟨b1, #[.slice A a.rel.length c, .slice B a.pre.length d], 24⟩] hO) (stext_ne h1)).mono fun e w' ⟨k1, k2⟩ => ⟨_, _, k1, ⟨rfl, rfl⟩, k2⟩) (fun v9 L9 hv9 => ?_)
    obtain ⟨rfl, rfl⟩ := hv9
    exact Zv (.string (mkS (x8 a))) (ZN (zF (ZF (.string (mkS (x8 a))) Tryz.results11 (fun w hO => ⟨by rw [show yN a = x8 a from if_pos h1], hO.below⟩))))
  | false =>
    refine Zv (.bool true) (ZY (ZO (Zv (.string ⟨#[]⟩) (ZN (zF (zA (ZF (.string ⟨#[]⟩) Tryz.results11 ?_)))))))
    exact fun w hO => ⟨by rw [show yN a = [] from if_neg (by rw [h1]; decide)]; rfl, hO.below⟩
end
section
theorem grow_inner (B b n : Nat) (w : World) (hB : B ≤ b) (hbk : w.heap[b]? = some (.cells #[.pointer (some ⟨b, 0, none⟩), .slice none 0 0] 44 (0, 0))) (hBw : B ≤ w.heap.size) (hn : n ≤ 281474976710656) :
    Calls Tryz.prog 182 #[.pointer (some ⟨b, 0, none⟩), .int .i64 n] w fun e w' => e = .returned (.tuple #[]) ∧ (Lib.BuilderAt 44 5 B b (.pointer (some ⟨b, 0, none⟩)) [] w' ∧ Below B w w') := by
  obtain ⟨cs, hrun, hle, hmax⟩ := Lib.run_makeNoZero (P := Tryz.prog) w.drew #[3] 35 5 Tryz.underlying35 n hn
  have hlt : b < w.heap.size := by
    rcases Nat.lt_or_ge b w.heap.size with h | h
    · exact h
    · simp [Array.getElem?_eq_none h] at hbk
  have hw : IntKind.i64.wrap (IntKind.i64.wrap 0 + (n : Int)) = n := by
    rw [IntKind.wrap_i64, IntKind.wrap_i64]; omega
  have hcall : (callFunc 206 #[.int .i64 (IntKind.i64.wrap (IntKind.i64.wrap 0 + (n : Int)))]).run Tryz.prog w.drew = .ok (.value (.slice (some ⟨w.drew.heap.size, 0, none⟩) n cs.size)) (w.drew.drew.drew.alloc (.cells cs 5)) := by
    rw [hw, run_callFunc_extern Tryz.func206 (by kernel_rfl) (by kernel_rfl) (by kernel_rfl) (e := Extern.BytealgMakeNoZero.makeNoZero #[3] #[35]) (by kernel_rfl), hrun]
    rfl
  have c1 : w.drew.cell? ⟨b, 1, none⟩ = some (.slice none 0 0) := by
    have : w.drew.heap[b]? = _ := hbk
    rw [Lib.cell_of_heap this]; rfl
  have hb2 : (w.alloc (.cells cs 5)).heap[b]? = _ := (Lib.alloc_old w _ b hlt).trans hbk
  have c2 : (w.alloc (.cells cs 5)).cell? ⟨b, 1, none⟩ = some (.slice none 0 0) := by rw [Lib.cell_of_heap hb2]; rfl
  have f2 : (w.alloc (.cells cs 5)).frozen? ⟨b, 1, none⟩ = false := Lib.frozen_of_heap hb2 1
  have hcopy : ∀ W : World, (Builtin.copy_ #[35, 35] 3 #[.slice (some ⟨w.heap.size, 0, none⟩) 0 cs.size, .slice none 0 0]).run Tryz.prog W = .ok (goInt 0) W :=
    fun W => run_copy_none W 35 35 3 5 _ _ 0 cs.size 0 0 Tryz.underlying35 (by kernel_rfl) rfl
  clear hw hlt hb2
  have mixed : Tryz.prog.follows .mixedOrders = true := by kernel_rfl
  go_enter Tryz.func182, Tryz.ntmps182
  go_wp2
  have hfin := Lib.grown_fresh (T := 44) (e := 5) (cs := cs) hB hbk hBw (hmax (by unfold maxLen; omega)) (by decide)
  have hbel : Below B w ((w.alloc (.cells cs 5)).setCell ⟨b, 1, none⟩ (.slice (some ⟨w.heap.size, 0, none⟩) 0 cs.size)).drew.drew.drew := ((((Below.refl B w).alloc hBw _).setCell (p := ⟨b, 1, none⟩) hB _).drew).drew.drew
  go_region_o
  all_goals (go_wp2; go_end0; exact ⟨rfl, hfin.1, hbel⟩)
theorem grow_fresh (B b n : Nat) (w : World) (hB : B ≤ b) (hbk : w.heap[b]? = some (.cells #[.pointer none, .slice none 0 0] 44 (0, 0))) (hBw : B ≤ w.heap.size) (hn : n ≤ 281474976710656) :
    Calls Tryz.prog 148 #[.pointer (some ⟨b, 0, none⟩), .int .i64 n] w fun e w' => e = .returned (.tuple #[]) ∧ (Lib.BuilderAt 44 5 B b (.pointer (some ⟨b, 0, none⟩)) [] w' ∧ Below B w w') := by
  obtain ⟨w1, hw1⟩ : ∃ x, x = w.setCell ⟨b, 0, none⟩ (.pointer (some ⟨b, 0, none⟩)) := ⟨_, rfl⟩
  have hbk1 : w1.heap[b]? = some (.cells #[.pointer (some ⟨b, 0, none⟩), .slice none 0 0] 44 (0, 0)) := by
    rw [hw1]; simp [World.setCell, Array.getElem?_modify, hbk]
  have hs1 : B ≤ w1.heap.size := by rw [hw1]; simpa [World.setCell] using hBw
  have hb1 : Below B w w1 := by rw [hw1]; exact (Below.refl B w).setCell (p := ⟨b, 0, none⟩) hB _
  have hc : Calls Tryz.prog 42 #[.pointer (some ⟨b, 0, none⟩)] w fun e w' => e = .returned (.tuple #[]) ∧ w' = w1 := by
    rw [hw1]
    exact dY b w (by rw [Lib.cell_of_heap hbk]; rfl) (by simp [World.shape?, hbk]) (Lib.frozen_of_heap hbk 0)
  clear hw1
  have c1 : w1.cell? ⟨b, 1, none⟩ = some (.slice none 0 0) := by rw [Lib.cell_of_heap hbk1]; rfl
  have c1' : w1.drew.cell? ⟨b, 1, none⟩ = some (.slice none 0 0) := c1
  have hU : Lib.BuilderAt 44 5 B b (.pointer (some ⟨b, 0, none⟩)) [] w1 := ⟨hB, .slice none 0 0, hbk1, World.ownsRow_nil _ _ _ _, by simp [Value.ownBlock]⟩
  have mixed : Tryz.prog.follows .mixedOrders = true := by kernel_rfl
  go_enter Tryz.func148, Tryz.ntmps148
  go_wp2_with (go_at_call 42; refine hc.mono ?_; rintro e w' ⟨rfl, hw⟩; rw [hw])
  go_region_o
  all_goals go_wp2_with (go_at_call 182; refine (grow_inner B b n w1.drew hB hbk1 hs1 hn).mono ?_; rintro e w' ⟨rfl, h1, h2⟩)
  all_goals first
    | (go_end0; exact ⟨rfl, h1, hb1.drew.trans h2⟩)
    | (go_end0; exact ⟨rfl, hU.drew, hb1.drew⟩)
end
section
structure HasLib (w : World) : Prop where
  tab : HasTab w
  max : ∃ m, w.cell? ⟨0, 0, none⟩ = some (.int .i64 m)
theorem HasLib.on {w w' : World} (h : HasLib w) (hb : Below w.heap.size w w') : HasLib w' :=
  ⟨h.tab.on hb, let ⟨m, hm⟩ := h.max; ⟨m, (hb.cell (World.block_lt_of_cell? _ _ hm)).trans hm⟩⟩
theorem hasLib_of {W : World} (ht : HasTab W) (hS : W.ShapedOpen Tryz.prog) : HasLib W := ⟨ht, Tryz.laysM143.s1_3 W hS⟩
theorem fY (s sep : List UInt8) (l : List (List UInt8)) (W : World) (h0 : 1 ≤ sep.length) (hs : s.length ≤ 1000000) (hl : Lib.splitB (mkS sep) 0 (Lib.countB (mkS s) (mkS sep)) (mkS s) = l.map mkS) (ht : HasLib W) :
    Calls Tryz.prog 47 #[.string (mkS s), .string (mkS sep)] W fun e w' => ∃ v' ob', e = .returned v' ∧ SlT v' l ob' ∧ Own [] W w' ob' := by
  obtain ⟨m, hm⟩ := ht.max
  have hz : (mkS sep).size = sep.length := x6 sep
  have hlen := Lib.splitB_all (mkS sep) (by omega) 0 _ (mkS s) rfl
  have hle := Lib.countB_le (mkS sep) (by omega) (mkS s).size (mkS s) (Nat.le_refl _)
  rw [x6] at hle
  rw [hl, List.length_map] at hlen
  refine (Tryz.strings_Split (mkS s) (mkS sep) m W (by rw [x6]; omega) hm (by omega)).mono fun e w' ⟨he, hw⟩ => ?_
  subst hw
  rw [hl, List.map_map] at *
  rw [← hlen] at he
  refine ⟨_, _, he, slt_lit l W.heap.size _ (by unfold vT; rfl) (by unfold maxLen; omega), (Own.start [] W).alloc _ _⟩
theorem split_bars (s : List UInt8) (W : World) (hs : s.length ≤ 1000000) (ht : HasLib W) :
    Calls Tryz.prog 47 #[.string (mkS s), .string ⟨#[124, 124]⟩] W fun e w' => ∃ v' ob', e = .returned v' ∧ SlT v' (kV [] s) ob' ∧ Own [] W w' ob' :=
  fY s [124, 124] (kV [] s) W (by decide) hs (splitB_alts s) ht
theorem split_comma (s : List UInt8) (W : World) (hs : s.length ≤ 1000000) (ht : HasLib W) :
    Calls Tryz.prog 47 #[.string (mkS s), .string ⟨#[44]⟩] W fun e w' => ∃ v' ob', e = .returned v' ∧ SlT v' (yD 44 [] s) ob' ∧ Own [] W w' ob' :=
  fY s [44] (yD 44 [] s) W (by decide) hs (splitB_cuts 44 s) ht
theorem trim_any (s : List UInt8) (W : World) (hs : s.length ≤ 1000000) :
    Calls Tryz.prog 57 #[.string (mkS s), .string ⟨#[32]⟩] W fun e w' => e = .returned (.string (mkS (xO s))) ∧ Below W.heap.size W w' :=
  (Tryz.strings_Trim_one (mkS s) 32 (by decide) W (by rw [x6]; omega)).mono fun e w' ⟨he, hw⟩ =>
    ⟨by rw [he, mk_data, trim_bare]; rfl, hw.elim (fun q => q ▸ Below.refl _ _) (fun q => q ▸ (Below.refl _ _).drew)⟩
def qW (sep : List UInt8) : List (List UInt8) → List UInt8
  | [] => []
  | x :: r => sep ++ x ++ qW sep r
theorem joinB_T (sep : List UInt8) : ∀ (r : List (List UInt8)) (x : List UInt8), g8 sep (x :: r) = x ++ qW sep r
  | [], x => by simp [g8, qW]
  | y :: r, x => by rw [jV, joinB_T sep r y, qW]; simp only [List.append_assoc]
theorem joinT_snoc (sep x : List UInt8) : ∀ (r : List (List UInt8)), qW sep (r ++ [x]) = qW sep r ++ (sep ++ x)
  | [] => by simp [qW]
  | y :: r => by rw [List.cons_append, qW, qW, joinT_snoc sep x r]; simp only [List.append_assoc]
theorem joinT_len {sep : List UInt8} (hs : sep.length ≤ 100) : ∀ {r : List (List UInt8)}, (∀ x ∈ r, x.length ≤ 1000000) → (qW sep r).length ≤ r.length * 1000100
  | [], _ => by simp [qW]
  | y :: r, h => by
    have h1 := joinT_len hs (r := r) fun x hx => h x (List.mem_cons_of_mem _ hx)
    have h2 := h y (List.mem_cons_self ..)
    rw [qW]; simp only [List.length_append, List.length_cons]; omega
theorem bc_two (x y z : List UInt8) : Lib.byteCells (x ++ (y ++ z)) = Lib.byteCells x ++ Lib.strCells (mkS y) ++ Lib.strCells (mkS z) := by
  rw [j8, j8, ← Lib.byteCells_append, ← Lib.byteCells_append, List.append_assoc]
theorem join_many (sep x0 : List UInt8) (r : List (List UInt8)) (b off cap : Nat) (w : World) (hc : ∀ j (h : j < (x0 :: r).length), w.cell? ⟨b, off + j, none⟩ = some (.string (mkS ((x0 :: r)[j]))))
    (hb : b < w.heap.size) (hr : 1 ≤ r.length) (hn : r.length ≤ 1000) (h0 : sep ≠ []) (hs : sep.length ≤ 100) (hx : ∀ x ∈ x0 :: r, x.length ≤ 1000000) (hcap : r.length + 1 ≤ cap) :
    Calls Tryz.prog 102 #[.slice (some ⟨b, off, none⟩) (r.length + 1) cap, .string (mkS sep)] w fun e w' => e = .returned (.string (mkS (g8 sep (x0 :: r)))) ∧ Below w.heap.size w w' := by
  have HT := Lib.hid (show ∀ k, (x0 ++ qW sep (r.take k)).length ≤ 2000000000 from fun k => by
    have h1 := joinT_len hs (r := r.take k) fun x hm => hx x (List.mem_cons_of_mem _ (List.mem_of_mem_take hm))
    have h2 := hx x0 (List.mem_cons_self ..)
    have h3 : (r.take k).length ≤ 1000 := Nat.le_trans (by rw [List.length_take]; exact Nat.min_le_right ..) hn
    rw [List.length_append]; omega)
  have HC := Lib.hid hc
  have HX := Lib.hid hx
  have HJ := Lib.hid (joinB_T sep r x0)
  have hx0 : (mkS x0).size ≤ 1000000 := by rw [x6]; exact hx x0 (List.mem_cons_self ..)
  obtain ⟨S, hS⟩ : ∃ q, q = mkS sep := ⟨_, rfl⟩
  have hSz : S.size = sep.length := by rw [hS, x6]
  have hS1 : 1 ≤ S.size := by cases sep with
    | nil => exact absurd rfl h0
    | cons _ _ => rw [hSz]; simp
  have hS9 : S.size ≤ 100 := by omega
  rw [← hS]
  have HS := Lib.hid hS
  obtain ⟨N, hN⟩ : ∃ q, q = r.length + 1 := ⟨_, rfl⟩
  rw [← hN] at hcap ⊢
  have hcast : ((N : Int) - 1) = (r.length : Int) := by omega
  have hmul : S.size * r.length ≤ 100000 := Nat.le_trans (Nat.mul_le_mul hS9 hn) (by decide)
  have hdv : ¬ (9223372036854775807 / ((N : Int) - 1) ≤ (S.size : Int)) := by
    rw [hcast]
    intro q
    have h1 : (9223372036854775807 : Int) < ((S.size : Int) + 1) * (r.length : Int) :=
      Int.lt_mul_of_ediv_lt (by omega) (Int.lt_add_one_of_le q)
    have h2 : ((S.size : Int) + 1) * (r.length : Int) = ((S.size * r.length + r.length : Nat) : Int) := by rw [Int.add_mul, Int.one_mul]; push_cast; rfl
    omega
  have hprod : wrap64 ((S.size : Int) * ((N : Int) - 1)) = ((S.size * r.length : Nat) : Int) := by
    rw [hcast, show (S.size : Int) * (r.length : Int) = ((S.size * r.length : Nat) : Int) from by push_cast; rfl]
    exact IntWalk.wrap64_in _ ⟨by omega, by omega⟩
  generalize S.size * r.length = M at hmul hprod
  have hne0 : ((N : Int) == 0) = false := beq_eq_false_iff_ne.2 (by omega)
  have hne1 : ((N : Int) == 1) = false := beq_eq_false_iff_ne.2 (by omega)
  have hN2 : 2 ≤ N := by omega
  have hN9 : N ≤ 1001 := by omega
  have HN := Lib.hid hN
  have H0 := Lib.hid h0
  clear hc hx hs h0 hS hSz hcast hN hr hn
  go_enter Tryz.func102, Tryz.ntmps102
  go_wp2
  go_loop [5, 41] (fun n i => ∃ (k t : Nat), k ≤ N ∧ i = .int .i64 k ∧ n = .int .i64 t ∧ t ≤ 100000 + k * 1000000) (fun _ i => N - (intOf i).toNat)
  case atStart => exact ⟨0, M, Nat.zero_le _, rfl, rfl, by omega⟩
  case round =>
    obtain ⟨k, t, hk, rfl, rfl, ht⟩ := hrel
    by_cases hkn : k < N
    · have hkl : k < (x0 :: r).length := by have := HN.out; rw [List.length_cons]; omega
      obtain ⟨y, hy⟩ : ∃ q, q = mkS ((x0 :: r)[k]) := ⟨_, rfl⟩
      have hyz : y.size ≤ 1000000 := by rw [hy, x6]; exact HX.out _ (List.getElem_mem hkl)
      have hck : w.cell? ⟨b, off + k, none⟩ = some (.string y) := by rw [hy]; exact HC.out k hkl
      clear hy hkl
      go_wp2
      exact ⟨⟨k + 1, t + y.size, by omega, by go_num, by go_num, by omega⟩, by simp [intOf]; omega⟩
    · obtain rfl : k = N := by omega
      go_wp2_with (go_at_call 148; refine (grow_fresh w.heap.size w.heap.size t _ (Nat.le_refl _) (heap_alloc_new w _) (by simp) (by omega)).mono ?_)
      rintro e w1 rfl h1 hb1
      have hb1' : Below w.heap.size w w1 := ((Below.refl w.heap.size w).alloc (Nat.le_refl _) _).trans hb1
      have hsz1 := hb1'.size
      have hc0 : w1.cell? ⟨b, off, none⟩ = some (.string (mkS x0)) := by
        rw [hb1'.cell (p := ⟨b, off, none⟩) hb]
        exact HC.out 0 (by simp)
      have H1 := Lib.hid (Or.inr h1 : Lib.IsBuilder 44 5 w.heap.size w.heap.size [] w1)
      have HB1 := Lib.hid hb1'
      clear h1 hb1 hb1' ht hprod hmul hdv hkn hk
      obtain ⟨X, hX⟩ : ∃ q, q = mkS x0 := ⟨_, rfl⟩
      rw [← hX] at hc0 hx0
      have HX0 := Lib.hid hX
      clear hX
      go_wp2_with (go_at_call 23; refine (q8 w.heap.size w.heap.size [] X w1 H1.out ?_ hsz1).mono ?_)
      · simp; omega
      rintro e w2 ⟨rfl, h2, hb2⟩
      have H2 := Lib.hid (show Lib.IsBuilder 44 5 w.heap.size w.heap.size (Lib.byteCells (x0 ++ qW sep (r.take 0))) w2 from by
        rw [HX0.out, j8, List.nil_append] at h2
        rw [List.take_zero, qW, List.append_nil]; exact Or.inr h2)
      have HB2 := Lib.hid (HB1.out.trans hb2)
      clear h2 hb2 hsz1 hc0
      have hrk : k - 1 = r.length := by have := HN.out; omega
      go_wp2
      go_loopw [65] (fun i wr => ∃ j : Nat, j ≤ r.length ∧ i = .int .i64 j ∧ Hid (Lib.IsBuilder 44 5 w.heap.size w.heap.size (Lib.byteCells (x0 ++ qW sep (r.take j))) wr) ∧ Hid (Below w.heap.size w wr)) (fun i _ => r.length - (intOf i).toNat)
      case atStart => exact ⟨0, Nat.zero_le _, rfl, H2, HB2⟩
      case round =>
        obtain ⟨j, hj, rfl, HB, HW⟩ := hrel
        have hsz := HW.out.size
        by_cases hjr : j < r.length
        · obtain ⟨y, hy⟩ : ∃ q, q = mkS r[j] := ⟨_, rfl⟩
          have hyz : y.size ≤ 1000000 := by rw [hy, x6]; exact HX.out _ (List.mem_cons_of_mem _ (List.getElem_mem hjr))
          have hck : wr.cell? ⟨b, off + 1 + j, none⟩ = some (.string y) := by
            rw [HW.out.cell (p := ⟨b, off + 1 + j, none⟩) hb, hy, show off + 1 + j = off + (j + 1) from by omega]
            exact HC.out (j + 1) (by simp; omega)
          have HY := Lib.hid hy
          have hlen : (Lib.byteCells (x0 ++ qW sep (r.take j))).length ≤ 2000000000 := by rw [Lib.byteCells_length]; exact HT.out j
          have HE := Lib.hid (show Lib.byteCells (x0 ++ qW sep (r.take j)) ++ Lib.strCells S ++ Lib.strCells y = Lib.byteCells (x0 ++ qW sep (r.take (j + 1))) from by
            rw [HS.out, HY.out, List.take_succ_eq_append_getElem hjr, joinT_snoc, ← List.append_assoc, bc_two])
          clear hy
          go_wp2_with (go_at_call 23; refine (q8 w.heap.size w.heap.size _ S wr HB.out ?_ hsz).mono ?_)
          · omega
          rintro e w3 ⟨rfl, h3, hb3⟩
          have hsz3 := Nat.le_trans hsz hb3.size
          have H3 := Lib.hid h3
          have HB3 := Lib.hid hb3
          clear h3 hb3
          go_wp2_with (go_at_call 23; refine (q8 w.heap.size w.heap.size _ y w3 (Or.inr H3.out) ?_ hsz3).mono ?_)
          · rw [List.length_append, Lib.strCells_length]; omega
          rintro e w4 ⟨rfl, h4, hb4⟩
          rw [HE.out] at h4
          have H4 := Lib.hid (Or.inr h4 : Lib.IsBuilder 44 5 w.heap.size w.heap.size (Lib.byteCells (x0 ++ qW sep (r.take (j + 1)))) w4)
          have HB4 := Lib.hid ((HW.out.trans HB3.out).trans hb4)
          clear h4 hb4
          go_wp2
          go_roundw
          case rel => exact ⟨j + 1, by omega, by go_num, H4, HB4⟩
          case measure => simp [intOf]; omega
        · obtain rfl : j = r.length := by omega
          have HB' := HB.out
          rw [List.take_length, ← HJ.out] at HB'
          have hne : g8 sep (x0 :: r) ≠ [] := by
            rw [HJ.out]
            cases r with
            | nil => simp at hrk; omega
            | cons y r => rw [qW]; intro q; exact H0.out (List.append_eq_nil_iff.1 (List.append_eq_nil_iff.1 (List.append_eq_nil_iff.1 q).2).1).1
          have HBF := Lib.hid HB'
          clear HB'
          go_wp2_with (go_at_call 24; refine (string_any w.heap.size w.heap.size _ _ HBF.out hne).mono ?_)
          rintro e w5 ⟨rfl, hb5⟩
          go_wp2
          go_ret
          exact ⟨rfl, HW.out.trans hb5⟩
theorem join_one (sep x : List UInt8) (A : Option Addr) (cap : Nat) (w : World) (hv : Reads pC w w.heap.size A [x]) (hcap : 1 ≤ cap) :
    Calls Tryz.prog 102 #[.slice A 1 cap, .string (mkS sep)] w fun e w' => e = .returned (.string (mkS x)) ∧ Below w.heap.size w w' := by
  obtain ⟨b, off, rfl, hb, hcell⟩ := hv (by simp)
  have hc : w.cell? ⟨b, off, none⟩ = some (.string (mkS x)) := hcell 0 _ rfl
  go_enter Tryz.func102, Tryz.ntmps102
  go_wp2
  go_ret
  exact ⟨rfl, Below.refl _ _⟩
theorem join_none (sep : List UInt8) (A : Option Addr) (cap : Nat) (w : World) :
    Calls Tryz.prog 102 #[.slice A 0 cap, .string (mkS sep)] w fun e w' => e = .returned (.string (mkS [])) ∧ Below w.heap.size w w' := by
  go_enter Tryz.func102, Tryz.ntmps102
  go_wp2
  go_ret
  exact ⟨rfl, Below.refl _ _⟩
theorem sjoin_any (sep : List UInt8) (l : List (List UInt8)) (A : Option Addr) (cap : Nat) (w : World) (hv : Reads pC w w.heap.size A l) (h0 : sep ≠ []) (hs : sep.length ≤ 100) (hn : l.length ≤ 1000) (hx : ∀ x ∈ l, x.length ≤ 1000000) (hcap : l.length ≤ cap) :
    Calls Tryz.prog 102 #[.slice A l.length cap, .string (mkS sep)] w fun e w' => e = .returned (.string (mkS (g8 sep l))) ∧ Below w.heap.size w w' := by
  match l, hv, hn, hx, hcap with
  | [], _, _, _, _ => exact join_none sep A cap w
  | [x], hv, _, _, hcap => exact join_one sep x A cap w hv hcap
  | x :: y :: r, hv, hn, hx, hcap =>
    obtain ⟨b, off, rfl, hb, hcell⟩ := hv (by simp)
    refine join_many sep x (y :: r) b off cap w (fun j hj => ?_) hb (by simp) (by simp at hn ⊢; omega) h0 hs hx hcap
    refine hcell j _ ?_
    rw [← jQ]; unfold vT
    rw [List.getElem?_map, List.getElem?_eq_getElem hj]; rfl
theorem SlT.caps {A : Option Addr} {n cap : Nat} {l : List (List UInt8)} {ob : List Blk} (h : SlT (.slice A n cap) l ob) : n = l.length ∧ l.length ≤ cap := by
  rcases h.2 with ⟨h1, h2, _⟩ | ⟨g, c, cur, h1, _, h3, _⟩
  · injection h1 with q1 q2 q3
    exact ⟨by omega, by omega⟩
  · injection h1 with q1 q2 q3
    exact ⟨q2, by omega⟩
theorem SlT.add {u : Value} {l : List (List UInt8)} {x : List UInt8} {ob : List Blk} (h : Sl 9 1 u (l.length + 1) (vT l ++ pC x) ob) : SlT u (l ++ [x]) ob :=
  Sl.to h (by simp) (by unfold vT; rw [List.map_append]; rfl)
end
section
theorem split_or (s : List UInt8) (W : World) (hs : s.length ≤ 1000000) (ht : HasLib W) :
    Calls Tryz.prog 47 #[.string (mkS s), .string ⟨#[32, 111, 114, 32]⟩] W fun e w' => ∃ v' ob', e = .returned v' ∧ SlT v' (tM s) ob' ∧ Own [] W w' ob' :=
  fY s [32, 111, 114, 32] (tM s) W (by decide) hs (by rw [wM, show Lib.countB (mkS s) (mkS [32, 111, 114, 32]) = Lib.count s [32, 111, 114, 32] from by unfold Lib.countB; rw [mk_data, mk_data]]; rfl) ht
theorem split_sp (s : List UInt8) (W : World) (hs : s.length ≤ 1000000) (ht : HasLib W) :
    Calls Tryz.prog 47 #[.string (mkS s), .string ⟨#[32]⟩] W fun e w' => ∃ v' ob', e = .returned v' ∧ SlT v' (yD 32 [] s) ob' ∧ Own [] W w' ob' :=
  fY s [32] (yD 32 [] s) W (by decide) hs (splitB_cuts 32 s) ht
theorem cut_stroke (s r1 r2 : List UInt8) (m : Bool) (hc : Lib.cut s [32, 47, 32] = (r1, r2, m)) (W : World) (hs : s.length ≤ 1000000) (ht : HasLib W) :
    Calls Tryz.prog 27 #[.string (mkS s), .string ⟨#[32, 47, 32]⟩] W fun e w' => e = .returned (.tuple #[.string (mkS r1), .string (mkS r2), .bool m]) ∧ Below W.heap.size W w' := by
  obtain ⟨x, hm⟩ := ht.max
  refine (Tryz.strings_Cut (mkS s) (mkS [32, 47, 32]) x W (by rw [x6]; omega) hm).mono fun e w' ⟨he, n, hw⟩ => ⟨?_, by rw [hw]; exact fS (Below.refl _ _) n⟩
  rw [he, mk_data, mk_data, hc]; rfl
theorem cut_lens {s r1 r2 : List UInt8} {m : Bool} (hc : Lib.cut s [32, 47, 32] = (r1, r2, m)) : r1.length ≤ s.length ∧ r2.length ≤ s.length := by
  unfold Lib.cut at hc
  split at hc
  · injection hc with h1 h2
    injection h2 with h2 h3
    rw [← h1, ← h2, List.length_take, List.length_drop]
    exact ⟨Nat.min_le_right .., Nat.sub_le ..⟩
  · injection hc with h1 h2
    injection h2 with h2 h3
    rw [← h1, ← h2]
    exact ⟨Nat.le_refl _, Nat.zero_le _⟩
theorem sgs_info : (Tryz.prog.info? (Tryz.lays161_ren.t 116)).map (fun i => (i.zero, i.size)) = some (some (.agg (Array.replicate 256 (.bool false))), 256) := by kernel_rfl
theorem trim_signs (p : List UInt8) (W : World) : Calls Tryz.prog 76 #[.string (mkS p), .string ⟨#[60, 61, 62]⟩] W fun e w' => e = .returned (.string (mkS (vH p))) ∧ Below W.heap.size W w' := by
  by_cases h0 : p = []
  · subst h0
    exact (Any.strings_TrimLeft_empty Tryz.lays161 (mkS []) (mkS sgs) W (.inl rfl)).mono fun e w' ⟨he, hw⟩ => ⟨he, hw ▸ Below.refl _ _⟩
  · have hz : 0 < (mkS p).size := by rw [x6]; exact List.length_pos_iff.2 h0
    refine (Any.strings_TrimLeft_set Tryz.lays161 (zero_of_info sgs_info).1 (zero_of_info sgs_info).2 (mkS p) (mkS sgs) W (by decide) hz (by decide) (ascii_of_all (by decide))).mono fun e w' ⟨he, hw⟩ => ⟨?_, ?_⟩
    · rw [he, mk_data, mk_data]; rfl
    · rw [hw]
      exact ((Below.refl _ W).alloc (Nat.le_refl _) _).alloc (by simp) _
theorem trim_number (p : List UInt8) (W : World) (hp : p.length ≤ 1000000) : Calls Tryz.prog 78 #[.string (mkS p), .string (mkS (vH p))] W fun e w' => e = .returned (.string (mkS (vU p))) ∧ Below W.heap.size W w' :=
  (Tryz.strings_TrimSuffix (mkS p) (mkS (vH p)) W (by rw [x6]; omega)).mono fun e w' ⟨he, hw⟩ => by
    refine ⟨?_, hw ▸ Below.refl _ _⟩
    rw [he, mk_data, mk_data, trim_sgn]; rfl
theorem ors_ne (s : List UInt8) : tM s ≠ [] := by
  rw [ors_unf]
  split <;> simp
theorem splitL_many (b : UInt8) : ∀ (s acc : List UInt8), (yD b acc s).length ≤ s.length + 1 := fun s acc => by
  have h : ∀ (n : Nat) (s acc : List UInt8), s.length ≤ n → (yD b acc s).length ≤ s.length + 1 := by
    intro n
    induction n with
    | zero =>
      intro s acc hs
      obtain rfl := List.eq_nil_of_length_eq_zero (Nat.le_zero.1 hs)
      simp [yD]
    | succ n ih =>
      intro s acc hs
      cases s with
      | nil => simp [yD]
      | cons c r =>
        rw [yD]
        split
        · have := ih r [] (by simp at hs; omega)
          simp only [List.length_cons]; omega
        · have := ih r (acc ++ [c]) (by simp at hs; omega)
          simp only [List.length_cons]; omega
  exact h _ s acc (Nat.le_refl _)
theorem splitL_le (b : UInt8) : ∀ (s acc : List UInt8), ∀ x ∈ yD b acc s, x.length ≤ acc.length + s.length := fun s => by
  induction s with
  | nil => intro acc x hx; rw [yD, List.mem_singleton] at hx; rw [hx]; exact Nat.le_add_right ..
  | cons c r ih =>
    intro acc x hx
    rw [yD] at hx
    split at hx
    · rcases List.mem_cons.1 hx with rfl | hx
      · exact Nat.le_add_right ..
      · have := ih [] x hx
        simp only [List.length_nil, List.length_cons] at this ⊢; omega
    · have := ih (acc ++ [c]) x hx
      simp only [List.length_append, List.length_cons, List.length_nil] at this ⊢; omega
end
section
theorem not1_any (A B : Option Addr) (cap capb : Nat) (x y : List Sp) (W : World) (hv : Reads yR W W.heap.size A x) (hu : Reads yR W W.heap.size B y) (hx : RF x 100000) (hy : RF y 100000) (hca : x.length ≤ cap) (hcb : y.length ≤ capb) : Calls Tryz.prog 183 #[.slice A x.length cap, .slice B y.length capb] W fun e w' => ∃ v' ob', e = .returned v' ∧ SlS v' (vD x) ob' ∧ Own [] W w' ob' := by
  refine zR (n := 7) Tryz.func183 rfl (by kernel_rfl) (by kernel_rfl) (ZO (Zv (.slice none 0 0) (ZR (Zv (.slice A x.length cap) (zV (k := 155) (args := #[.slice A x.length cap]) (fun v' L' => ∃ ob', L' = ob' ++ ([]) ∧ SlS v' (vD x) ob') (by kernel_rfl) (fun _ => by kernel_rfl) (fun w hO => (not4_any A cap x w (hv.on hO.below hO.size) (Nat.le_trans hx.len (by decide)) hx.short).mono fun e w' ⟨v', ob', k1, k2, k3⟩ => ⟨v', _, k1, ⟨ob', rfl, by rw [if_pos hx.may] at k2; exact k2⟩, Own.joinN hO k3⟩) (fun v1 L1 hv1 => ?_))))))
  obtain ⟨o1, rfl, hr1⟩ := hv1
  obtain ⟨V1, c1, rfl⟩ := hr1.form
  exact xM (L' := o1) (List.append_nil _) (Zv (.slice V1 ((vD x).length) c1) (ZN (zF (ZF (.slice V1 ((vD x).length) c1) Tryz.results183 (fun w hO => ⟨_, o1, rfl, hr1, by simpa using hO⟩)))))
theorem combOr_any (A B A' B' : Option Addr) (c d c' d' : Nat) (a b : St) (W : World) (hs : SetIn W W.heap.size A B a) (ht : SetIn W W.heap.size A' B' b) (ca : a.rel.length ≤ c ∧ a.pre.length ≤ d) (cb : b.rel.length ≤ c' ∧ b.pre.length ≤ d') : Calls Tryz.prog 158 #[.agg #[.slice A a.rel.length c, .slice B a.pre.length d], .agg #[.slice A' b.rel.length c', .slice B' b.pre.length d'], .func (.func 107) #[] #[]] W fun e w' => ∃ v' ob', e = .returned v' ∧ SetO v' (if a.may && b.may then orT a b else yY) ob' ∧ Own [] W w' ob' := by
  refine zR (n := 29) Tryz.func158 rfl (by kernel_rfl) (by kernel_rfl) (ZO (Zb (.agg #[.slice A a.rel.length c, .slice B a.pre.length d]) (fun b1 => Zb (.agg #[.slice A' b.rel.length c', .slice B' b.pre.length d']) (fun b2 => Za (.agg #[.slice none 0 0, .slice none 0 0]) (fun b3 => ZN (z6 (ZO (Zl 2 ⟨b1, #[.slice A a.rel.length c, .slice B a.pre.length d], 24⟩ (off := 0) (.agg #[.slice A a.rel.length c, .slice B a.pre.length d]) ?_))))))))
  refine Zc (k := 21) (args := #[.agg #[.slice A a.rel.length c, .slice B a.pre.length d]]) (.bool a.may) (fun w hO => fE A B c d a w (hs.on hO.below hO.size) ca) ?_
  cases h1 : a.may with
  | true =>
    refine Zv (.bool false) (Zv (.bool false) (Zl 1 ⟨b2, #[.slice A' b.rel.length c', .slice B' b.pre.length d'], 24⟩ (off := 0) (.agg #[.slice A' b.rel.length c', .slice B' b.pre.length d']) (Zc (k := 21) (args := #[.agg #[.slice A' b.rel.length c', .slice B' b.pre.length d']]) (.bool b.may) (fun w hO => fE A' B' c' d' b w (ht.on hO.below hO.size) cb) ?_)))
    cases h2 : b.may with
    | true =>
      refine Zv (.bool false) (Zv (.bool false) (ZX (ZB (z6 (gI [⟨b2, #[.slice A' b.rel.length c', .slice B' b.pre.length d'], 24⟩, ⟨b1, #[.slice A a.rel.length c, .slice B a.pre.length d], 24⟩] (by kernel_rfl) (fun w hO => Own.sub [⟨b3, #[.slice none 0 0, .slice none 0 0], 24⟩] hO) (ZT 0 [⟨b3, #[.slice none 0 0, .slice none 0 0], 24⟩] _ (.func (.func 107) #[] #[]) (zK zO) rfl (ZT 1 [⟨b3, #[.slice none 0 0, .slice none 0 0], 24⟩] _ (.pointer (some ⟨b1, 0, none⟩)) (zK zO) rfl (ZL 2 [⟨b3, #[.slice none 0 0, .slice none 0 0], 24⟩] _ 1 ⟨b1, #[.slice A a.rel.length c, .slice B a.pre.length d], 24⟩ (off := 0) (.slice A a.rel.length c) (zK zO) rfl rfl ?_))))))))
      refine ZT 3 [⟨b3, #[.slice none 0 0, .slice none 0 0], 24⟩] _ (.pointer (some ⟨b2, 0, none⟩)) (zK zO) rfl (ZL 4 [⟨b3, #[.slice none 0 0, .slice none 0 0], 24⟩] _ 0 ⟨b2, #[.slice A' b.rel.length c', .slice B' b.pre.length d'], 24⟩ (off := 0) (.slice A' b.rel.length c') (zK zO) rfl rfl (ZT 6 [⟨b3, #[.slice none 0 0, .slice none 0 0], 24⟩] _ (.func (.func 107) #[] #[]) (zK zO) rfl (ZT 7 [⟨b3, #[.slice none 0 0, .slice none 0 0], 24⟩] _ (.pointer (some ⟨b1, 1, none⟩)) (zK zO) rfl (ZL 8 [⟨b3, #[.slice none 0 0, .slice none 0 0], 24⟩] _ 1 ⟨b1, #[.slice A a.rel.length c, .slice B a.pre.length d], 24⟩ (off := 1) (.slice B a.pre.length d) (zK zO) rfl rfl (ZT 9 [⟨b3, #[.slice none 0 0, .slice none 0 0], 24⟩] _ (.pointer (some ⟨b2, 1, none⟩)) (zK zO) rfl (ZL 10 [⟨b3, #[.slice none 0 0, .slice none 0 0], 24⟩] _ 0 ⟨b2, #[.slice A' b.rel.length c', .slice B' b.pre.length d'], 24⟩ (off := 1) (.slice B' b.pre.length d') (zK zO) rfl rfl (y6 5 (by kernel_rfl) (vK _ (k := 107) (args := #[.slice A a.rel.length c, .slice A' b.rel.length c']) (fun v' L' => ∃ ob', L' = ob' ++ ([⟨b3, #[.slice none 0 0, .slice none 0 0], 24⟩] ++ ([⟨b2, #[.slice A' b.rel.length c', .slice B' b.pre.length d'], 24⟩, ⟨b1, #[.slice A a.rel.length c, .slice B a.pre.length d], 24⟩])) ∧ SlS v' (orL a.rel b.rel) ob') rfl (by kernel_rfl) (fun _ => by kernel_rfl) (fun w hO => (or4_any A A' c c' a.rel b.rel w (hs.rel.on hO.below hO.size) (ht.rel.on hO.below hO.size) (SF.of h1 hs.lr hs.lp).rel.len (SF.of h2 ht.lr ht.lp).rel.len (SF.of h1 hs.lr hs.lp).rel.short (SF.of h2 ht.lr ht.lp).rel.short).mono fun e w' ⟨v', ob', k1, k2, k3⟩ => ⟨v', _, k1, ⟨ob', rfl, by rw [if_pos (by rw [(SF.of h1 hs.lr hs.lp).rel.may, (SF.of h2 ht.lr ht.lp).rel.may]; rfl)] at k2; exact k2⟩, Own.joinN hO k3⟩) (fun v' L' ⟨ob', e, _⟩ w hO => by subst e; exact Own.sub [⟨b3, #[.slice none 0 0, .slice none 0 0], 24⟩] (Own.sub ob' hO)) (fun v1 L2 hv2 => ?_)))))))))
      obtain ⟨o1, rfl, hr1⟩ := hv2
      obtain ⟨V1, c1, rfl⟩ := hr1.form
      refine dL (L' := (o1 ++ ([⟨b3, #[.slice none 0 0, .slice none 0 0], 24⟩] : List Blk)) ++ ([⟨b2, #[.slice A' b.rel.length c', .slice B' b.pre.length d'], 24⟩, ⟨b1, #[.slice A a.rel.length c, .slice B a.pre.length d], 24⟩])) (List.append_assoc _ _ _).symm (y6 11 (by kernel_rfl) (vK _ (k := 107) (args := #[.slice B a.pre.length d, .slice B' b.pre.length d']) (fun v' L' => ∃ ob', L' = ob' ++ ((o1 ++ ([⟨b3, #[.slice none 0 0, .slice none 0 0], 24⟩] : List Blk)) ++ ([⟨b2, #[.slice A' b.rel.length c', .slice B' b.pre.length d'], 24⟩, ⟨b1, #[.slice A a.rel.length c, .slice B a.pre.length d], 24⟩])) ∧ SlS v' (orL a.pre b.pre) ob') rfl (by kernel_rfl) (fun _ => by kernel_rfl) (fun w hO => (or4_any B B' d d' a.pre b.pre w (hs.pre.on hO.below hO.size) (ht.pre.on hO.below hO.size) (SF.of h1 hs.lr hs.lp).pre.len (SF.of h2 ht.lr ht.lp).pre.len (SF.of h1 hs.lr hs.lp).pre.short (SF.of h2 ht.lr ht.lp).pre.short).mono fun e w' ⟨v', ob', k1, k2, k3⟩ => ⟨v', _, k1, ⟨ob', rfl, by rw [if_pos (by rw [(SF.of h1 hs.lr hs.lp).pre.may, (SF.of h2 ht.lr ht.lp).pre.may]; rfl)] at k2; exact k2⟩, Own.joinN hO k3⟩) (fun v' L' ⟨ob', e, _⟩ w hO => by subst e; exact Own.sub (o1 ++ ([⟨b3, #[.slice none 0 0, .slice none 0 0], 24⟩] : List Blk)) (Own.sub ob' hO)) (fun v2 L2 hv2 => ?_)))
      obtain ⟨o2, rfl, hr2⟩ := hv2
      obtain ⟨V2, c2, rfl⟩ := hr2.form
      exact dL (L' := (o2 ++ (o1 ++ ([⟨b3, #[.slice none 0 0, .slice none 0 0], 24⟩] : List Blk))) ++ ([⟨b2, #[.slice A' b.rel.length c', .slice B' b.pre.length d'], 24⟩, ⟨b1, #[.slice A a.rel.length c, .slice B a.pre.length d], 24⟩])) (List.append_assoc _ _ _).symm (ZT 12 (o2 ++ (o1 ++ ([⟨b3, #[.slice none 0 0, .slice none 0 0], 24⟩] : List Blk))) _ (.agg #[.slice V1 ((orL a.rel b.rel).length) c1, .slice V2 ((orL a.pre b.pre).length) c2]) (zK zO) rfl (y6 13 (by kernel_rfl) (hs_front (E' := (⟨b3, #[.slice none 0 0, .slice none 0 0], 24⟩ :: (o2 ++ (o1 ++ ([] : List Blk))))) (by simpa [List.append_assoc] using (List.perm_middle (a := ⟨b3, #[.slice none 0 0, .slice none 0 0], 24⟩) (l₁ := (o2 ++ (o1 ++ ([] : List Blk)))) (l₂ := []))) (ZS (⟨b3, #[.slice none 0 0, .slice none 0 0], 24⟩ :: (o2 ++ (o1 ++ ([] : List Blk)))) _ 0 ⟨b3, #[.slice none 0 0, .slice none 0 0], 24⟩ (off := 0) (.agg #[.slice V1 ((orL a.rel b.rel).length) c1, .slice V2 ((orL a.pre b.pre).length) c2]) rfl rfl (x7 (by kernel_rfl) (zB (zF (ZC 0 ⟨b3, #[.slice V1 ((orL a.rel b.rel).length) c1, .slice V2 ((orL a.pre b.pre).length) c2], 24⟩ (off := 0) (.agg #[.slice V1 ((orL a.rel b.rel).length) c1, .slice V2 ((orL a.pre b.pre).length) c2]) Tryz.results158 (fun w hO => ⟨_, _, rfl, by rw [if_pos (by simp [h1, h2])]; exact ⟨_, _, o1, o2, rfl, rfl, hr1, hr2⟩, own_mid hO⟩)))))))))
    | false =>
      refine Zv (.bool true) (Zv (.bool true) (ZY (ZO (Zc (k := 29) (args := #[]) (.agg #[.slice none 0 0, .slice none 0 0]) (fun w _ => gC w) (Zs 0 ⟨b3, #[.slice none 0 0, .slice none 0 0], 24⟩ (off := 0) (.agg #[.slice none 0 0, .slice none 0 0]) (ZN (zF ?_)))))))
      exact zA (ZC 0 ⟨b3, #[.slice none 0 0, .slice none 0 0], 24⟩ (off := 0) (.agg #[.slice none 0 0, .slice none 0 0]) Tryz.results158 (fun w hO => ⟨_, [], rfl, by rw [if_neg (by simp [h1, h2])]; exact SetO.none, gH hO⟩))
  | false =>
    refine Zv (.bool true) (Zv (.bool true) (Zk (Zk (Zk (Zv (.bool true) (ZY (ZO (Zc (k := 29) (args := #[]) (.agg #[.slice none 0 0, .slice none 0 0]) (fun w _ => gC w) ?_))))))))
    exact Zs 0 ⟨b3, #[.slice none 0 0, .slice none 0 0], 24⟩ (off := 0) (.agg #[.slice none 0 0, .slice none 0 0]) (ZN (zF (zA (ZC 0 ⟨b3, #[.slice none 0 0, .slice none 0 0], 24⟩ (off := 0) (.agg #[.slice none 0 0, .slice none 0 0]) Tryz.results158 (fun w hO => ⟨_, [], rfl, by rw [if_neg (by simp [h1])]; exact SetO.none, gH hO⟩)))))
theorem combNot_any (A B A' B' : Option Addr) (c d c' d' : Nat) (a b : St) (W : World) (hs : SetIn W W.heap.size A B a) (ht : SetIn W W.heap.size A' B' b) (ca : a.rel.length ≤ c ∧ a.pre.length ≤ d) (cb : b.rel.length ≤ c' ∧ b.pre.length ≤ d') : Calls Tryz.prog 158 #[.agg #[.slice A a.rel.length c, .slice B a.pre.length d], .agg #[.slice A' b.rel.length c', .slice B' b.pre.length d'], .func (.func 183) #[] #[]] W fun e w' => ∃ v' ob', e = .returned v' ∧ SetO v' (if a.may && b.may then notT a else yY) ob' ∧ Own [] W w' ob' := by
  refine zR (n := 29) Tryz.func158 rfl (by kernel_rfl) (by kernel_rfl) (ZO (Zb (.agg #[.slice A a.rel.length c, .slice B a.pre.length d]) (fun b1 => Zb (.agg #[.slice A' b.rel.length c', .slice B' b.pre.length d']) (fun b2 => Za (.agg #[.slice none 0 0, .slice none 0 0]) (fun b3 => ZN (z6 (ZO (Zl 2 ⟨b1, #[.slice A a.rel.length c, .slice B a.pre.length d], 24⟩ (off := 0) (.agg #[.slice A a.rel.length c, .slice B a.pre.length d]) ?_))))))))
  refine Zc (k := 21) (args := #[.agg #[.slice A a.rel.length c, .slice B a.pre.length d]]) (.bool a.may) (fun w hO => fE A B c d a w (hs.on hO.below hO.size) ca) ?_
  cases h1 : a.may with
  | true =>
    refine Zv (.bool false) (Zv (.bool false) (Zl 1 ⟨b2, #[.slice A' b.rel.length c', .slice B' b.pre.length d'], 24⟩ (off := 0) (.agg #[.slice A' b.rel.length c', .slice B' b.pre.length d']) (Zc (k := 21) (args := #[.agg #[.slice A' b.rel.length c', .slice B' b.pre.length d']]) (.bool b.may) (fun w hO => fE A' B' c' d' b w (ht.on hO.below hO.size) cb) ?_)))
    cases h2 : b.may with
    | true =>
      refine Zv (.bool false) (Zv (.bool false) (ZX (ZB (z6 (gI [⟨b2, #[.slice A' b.rel.length c', .slice B' b.pre.length d'], 24⟩, ⟨b1, #[.slice A a.rel.length c, .slice B a.pre.length d], 24⟩] (by kernel_rfl) (fun w hO => Own.sub [⟨b3, #[.slice none 0 0, .slice none 0 0], 24⟩] hO) (ZT 0 [⟨b3, #[.slice none 0 0, .slice none 0 0], 24⟩] _ (.func (.func 183) #[] #[]) (zK zO) rfl (ZT 1 [⟨b3, #[.slice none 0 0, .slice none 0 0], 24⟩] _ (.pointer (some ⟨b1, 0, none⟩)) (zK zO) rfl (ZL 2 [⟨b3, #[.slice none 0 0, .slice none 0 0], 24⟩] _ 1 ⟨b1, #[.slice A a.rel.length c, .slice B a.pre.length d], 24⟩ (off := 0) (.slice A a.rel.length c) (zK zO) rfl rfl ?_))))))))
      refine ZT 3 [⟨b3, #[.slice none 0 0, .slice none 0 0], 24⟩] _ (.pointer (some ⟨b2, 0, none⟩)) (zK zO) rfl (ZL 4 [⟨b3, #[.slice none 0 0, .slice none 0 0], 24⟩] _ 0 ⟨b2, #[.slice A' b.rel.length c', .slice B' b.pre.length d'], 24⟩ (off := 0) (.slice A' b.rel.length c') (zK zO) rfl rfl (ZT 6 [⟨b3, #[.slice none 0 0, .slice none 0 0], 24⟩] _ (.func (.func 183) #[] #[]) (zK zO) rfl (ZT 7 [⟨b3, #[.slice none 0 0, .slice none 0 0], 24⟩] _ (.pointer (some ⟨b1, 1, none⟩)) (zK zO) rfl (ZL 8 [⟨b3, #[.slice none 0 0, .slice none 0 0], 24⟩] _ 1 ⟨b1, #[.slice A a.rel.length c, .slice B a.pre.length d], 24⟩ (off := 1) (.slice B a.pre.length d) (zK zO) rfl rfl (ZT 9 [⟨b3, #[.slice none 0 0, .slice none 0 0], 24⟩] _ (.pointer (some ⟨b2, 1, none⟩)) (zK zO) rfl (ZL 10 [⟨b3, #[.slice none 0 0, .slice none 0 0], 24⟩] _ 0 ⟨b2, #[.slice A' b.rel.length c', .slice B' b.pre.length d'], 24⟩ (off := 1) (.slice B' b.pre.length d') (zK zO) rfl rfl (y6 5 (by kernel_rfl) (vK _ (k := 183) (args := #[.slice A a.rel.length c, .slice A' b.rel.length c']) (fun v' L' => ∃ ob', L' = ob' ++ ([⟨b3, #[.slice none 0 0, .slice none 0 0], 24⟩] ++ ([⟨b2, #[.slice A' b.rel.length c', .slice B' b.pre.length d'], 24⟩, ⟨b1, #[.slice A a.rel.length c, .slice B a.pre.length d], 24⟩])) ∧ SlS v' (vD a.rel) ob') rfl (by kernel_rfl) (fun _ => by kernel_rfl) (fun w hO => (not1_any A A' c c' a.rel b.rel w (hs.rel.on hO.below hO.size) (ht.rel.on hO.below hO.size) (SF.of h1 hs.lr hs.lp).rel (SF.of h2 ht.lr ht.lp).rel ca.1 cb.1).mono fun e w' ⟨v', ob', k1, k2, k3⟩ => ⟨v', _, k1, ⟨ob', rfl, k2⟩, Own.joinN hO k3⟩) (fun v' L' ⟨ob', e, _⟩ w hO => by subst e; exact Own.sub [⟨b3, #[.slice none 0 0, .slice none 0 0], 24⟩] (Own.sub ob' hO)) (fun v1 L2 hv2 => ?_)))))))))
      obtain ⟨o1, rfl, hr1⟩ := hv2
      obtain ⟨V1, c1, rfl⟩ := hr1.form
      refine dL (L' := (o1 ++ ([⟨b3, #[.slice none 0 0, .slice none 0 0], 24⟩] : List Blk)) ++ ([⟨b2, #[.slice A' b.rel.length c', .slice B' b.pre.length d'], 24⟩, ⟨b1, #[.slice A a.rel.length c, .slice B a.pre.length d], 24⟩])) (List.append_assoc _ _ _).symm (y6 11 (by kernel_rfl) (vK _ (k := 183) (args := #[.slice B a.pre.length d, .slice B' b.pre.length d']) (fun v' L' => ∃ ob', L' = ob' ++ ((o1 ++ ([⟨b3, #[.slice none 0 0, .slice none 0 0], 24⟩] : List Blk)) ++ ([⟨b2, #[.slice A' b.rel.length c', .slice B' b.pre.length d'], 24⟩, ⟨b1, #[.slice A a.rel.length c, .slice B a.pre.length d], 24⟩])) ∧ SlS v' (vD a.pre) ob') rfl (by kernel_rfl) (fun _ => by kernel_rfl) (fun w hO => (not1_any B B' d d' a.pre b.pre w (hs.pre.on hO.below hO.size) (ht.pre.on hO.below hO.size) (SF.of h1 hs.lr hs.lp).pre (SF.of h2 ht.lr ht.lp).pre ca.2 cb.2).mono fun e w' ⟨v', ob', k1, k2, k3⟩ => ⟨v', _, k1, ⟨ob', rfl, k2⟩, Own.joinN hO k3⟩) (fun v' L' ⟨ob', e, _⟩ w hO => by subst e; exact Own.sub (o1 ++ ([⟨b3, #[.slice none 0 0, .slice none 0 0], 24⟩] : List Blk)) (Own.sub ob' hO)) (fun v2 L2 hv2 => ?_)))
      obtain ⟨o2, rfl, hr2⟩ := hv2
      obtain ⟨V2, c2, rfl⟩ := hr2.form
      exact dL (L' := (o2 ++ (o1 ++ ([⟨b3, #[.slice none 0 0, .slice none 0 0], 24⟩] : List Blk))) ++ ([⟨b2, #[.slice A' b.rel.length c', .slice B' b.pre.length d'], 24⟩, ⟨b1, #[.slice A a.rel.length c, .slice B a.pre.length d], 24⟩])) (List.append_assoc _ _ _).symm (ZT 12 (o2 ++ (o1 ++ ([⟨b3, #[.slice none 0 0, .slice none 0 0], 24⟩] : List Blk))) _ (.agg #[.slice V1 ((vD a.rel).length) c1, .slice V2 ((vD a.pre).length) c2]) (zK zO) rfl (y6 13 (by kernel_rfl) (hs_front (E' := (⟨b3, #[.slice none 0 0, .slice none 0 0], 24⟩ :: (o2 ++ (o1 ++ ([] : List Blk))))) (by simpa [List.append_assoc] using (List.perm_middle (a := ⟨b3, #[.slice none 0 0, .slice none 0 0], 24⟩) (l₁ := (o2 ++ (o1 ++ ([] : List Blk)))) (l₂ := []))) (ZS (⟨b3, #[.slice none 0 0, .slice none 0 0], 24⟩ :: (o2 ++ (o1 ++ ([] : List Blk)))) _ 0 ⟨b3, #[.slice none 0 0, .slice none 0 0], 24⟩ (off := 0) (.agg #[.slice V1 ((vD a.rel).length) c1, .slice V2 ((vD a.pre).length) c2]) rfl rfl (x7 (by kernel_rfl) (zB (zF (ZC 0 ⟨b3, #[.slice V1 ((vD a.rel).length) c1, .slice V2 ((vD a.pre).length) c2], 24⟩ (off := 0) (.agg #[.slice V1 ((vD a.rel).length) c1, .slice V2 ((vD a.pre).length) c2]) Tryz.results158 (fun w hO => ⟨_, _, rfl, by rw [if_pos (by simp [h1, h2])]; exact ⟨_, _, o1, o2, rfl, rfl, hr1, hr2⟩, own_mid hO⟩)))))))))
    | false =>
      refine Zv (.bool true) (Zv (.bool true) (ZY (ZO (Zc (k := 29) (args := #[]) (.agg #[.slice none 0 0, .slice none 0 0]) (fun w _ => gC w) (Zs 0 ⟨b3, #[.slice none 0 0, .slice none 0 0], 24⟩ (off := 0) (.agg #[.slice none 0 0, .slice none 0 0]) (ZN (zF ?_)))))))
      exact zA (ZC 0 ⟨b3, #[.slice none 0 0, .slice none 0 0], 24⟩ (off := 0) (.agg #[.slice none 0 0, .slice none 0 0]) Tryz.results158 (fun w hO => ⟨_, [], rfl, by rw [if_neg (by simp [h1, h2])]; exact SetO.none, gH hO⟩))
  | false =>
    refine Zv (.bool true) (Zv (.bool true) (Zk (Zk (Zk (Zv (.bool true) (ZY (ZO (Zc (k := 29) (args := #[]) (.agg #[.slice none 0 0, .slice none 0 0]) (fun w _ => gC w) ?_))))))))
    exact Zs 0 ⟨b3, #[.slice none 0 0, .slice none 0 0], 24⟩ (off := 0) (.agg #[.slice none 0 0, .slice none 0 0]) (ZN (zF (zA (ZC 0 ⟨b3, #[.slice none 0 0, .slice none 0 0], 24⟩ (off := 0) (.agg #[.slice none 0 0, .slice none 0 0]) Tryz.results158 (fun w hO => ⟨_, [], rfl, by rw [if_neg (by simp [h1])]; exact SetO.none, gH hO⟩)))))
end
end Go.Proofs.YtiekhkapgjdblaaGreatDoor
