/-
 What the statement's proof leans on: the ways of walking, plain mathematics, and what the program's functions return; each theorem says on what conditions.
-/
import Derived.RangeFuncIn
import Derived.RangeFuncLeaves
import Derived.RangeFuncCalls
import Derived.RangeFuncNested
import Derived.Lib.Bytealg
import Derived.ChangeArms
import Derived.Deep.Fields
import Derived.OpenShut
import Derived.DataReads
import Derived.ChangeOld
import Derived.Below
import Derived.ChangeSame
import Derived.ProofKit
import Derived.LaidSub
import Derived.Carry
import Derived.SliceStrings
import Derived.Lib.LaidTab
import Derived.Deep.DeepHandedRow
import Derived.Test.YtjimgokkpcfgpaaGreatDoorRS5
set_option maxRecDepth 1000000
set_option maxHeartbeats 8000000
set_option linter.unusedVariables false
set_option linter.unusedSimpArgs false
set_option linter.unnecessarySimpa false
namespace Go.Proofs.YtjimgokkpcfgpaaGreatDoor
open Go.RowKit

section
set_option linter.unnecessarySimpa false
theorem add_wish (rb : Nat) (x : Rv) (ps : List (List UInt8)) (A : Option Addr) (cap : Nat) (ob : List Blk) (W : World) (hR : RdR rb 3 x ob) (hO : Own (ob.map Blk.b) W W ob) (hv : ReadsA (ob.map Blk.b) yE W A ps) (hp : 5 ≤ ps.length) (hs : ∀ s ∈ ps, s.length ≤ 1000000) (hF : Few x) (hne : x.needs ≠ []) (hK : ∀ w, Own (ob.map Blk.b) W w [] → HasLib w) : YC 96 #[.pointer (some ⟨rb, 0, none⟩), .slice A ps.length cap] W (AddB rb 3 x ps ob W) := by
 obtain ⟨o1, oa, og, oi, o4, o7, o8, rfl, hN, hB, hT⟩ := hR
 obtain ⟨pb, po, hA, hld⟩ := bW hv Om
 rcases hN.split with ⟨e, _⟩ | ⟨ini, n, hx, hi, hw, hf⟩
 ·exact absurd e hne
 have hlen : x.needs.length = ini.length + 1 := by rw [hx]; simp
 obtain ⟨g, cur, hg, rfl⟩ := sl_addr hN.top Om
 have hS : Sl 57 3 (.slice (some ⟨g, 0, none⟩) (ini.length + 1) x.nc) (ini.length + 1) ((ini ++ [n]).flatMap nvC) [⟨g, cur, 57⟩] := by have := hN.top; rw [hlen, hx, hg] at this; exact this
 have hFn := hF.n
 have hFa : n.any.length ≤ 5000 := hF.a n (by rw [hx]; simp)
 have hlast := lastN_at g ini.length x.nc x.needs.length hlen Om
 rw [← hg] at hlast
 obtain ⟨p1, hp1⟩ : ∃ p, ps.getD 1 [] = p := ⟨_, rfl⟩
 obtain ⟨p2, hp2⟩ : ∃ p, ps.getD 2 [] = p := ⟨_, rfl⟩
 obtain ⟨p3, hp3⟩ : ∃ p, ps.getD 3 [] = p := ⟨_, rfl⟩
 obtain ⟨p4, hp4⟩ : ∃ p, ps.getD 4 [] = p := ⟨_, rfl⟩
 have hs2 : p2.length ≤ 1000000 := by
  rw [← hp2, List.getD_eq_getElem?_getD, List.getElem?_eq_getElem (by omega)]; exact hs _ (List.getElem_mem _)
 obtain ⟨M, hM⟩ : ∃ M, (rdB x 3 rb :: ([⟨g, cur, 57⟩] ++ zU oa og oi o4 o7 o8)).map Blk.b = M := ⟨_, rfl⟩
 rw [hM] at hO hld hK
 have hl1 : ∀ w, Own M W w [] → (loadVar 9 ⟨pb, po + 1 * 1 + 0, none⟩).run Tryz.prog w = .ok (.string (mkS p1)) w := fun w hO => by have := hld w hO 1 Om; rw [hp1] at this; exact this
 have hl2 : ∀ w, Own M W w [] → (loadVar 9 ⟨pb, po + 2 * 1 + 0, none⟩).run Tryz.prog w = .ok (.string (mkS p2)) w := fun w hO => by have := hld w hO 2 Om; rw [hp2] at this; exact this
 have hl3 : ∀ w, Own M W w [] → (loadVar 9 ⟨pb, po + 3 * 1 + 0, none⟩).run Tryz.prog w = .ok (.string (mkS p3)) w := fun w hO => by have := hld w hO 3 Om; rw [hp3] at this; exact this
 have hl4 : ∀ w, Own M W w [] → (loadVar 9 ⟨pb, po + 4 * 1 + 0, none⟩).run Tryz.prog w = .ok (.string (mkS p4)) w := fun w hO => by have := hld w hO 4 Om; rw [hp4] at this; exact this
 obtain ⟨fs, hfs⟩ : ∃ fs, (if p2 = [45] then [] else zD 44 [] p2) = fs := ⟨_, rfl⟩
 have hc : ∀ w, Own M W w [] → YC 145 #[.string (mkS p2)] w fun e w' => ∃ v ob', e = .returned v ∧ SlT v fs ob' ∧ Own [] w w' ob' := fun w hO => hfs ▸ qFeats_any p2 w hs2 (hK w hO)
 have hrd : cur[ini.length * 3 + 0]? = some (.slice n.A n.any.length n.cap) := hS.lastAt qU 0 (.slice n.A n.any.length n.cap) rfl
 refine yB hO Tryz.func96 (zE (v := Zp g (ini.length * 3)) [0] (fun w hO => hlast w) ?_)
 refine g6 22 [] [⟨g, cur, 57⟩] (fun w hO => Own.nth 1 ⟨g, cur, 57⟩ hO) (xh_ldk 50060 [] 4 0 cur (ini.length * 3 + 0) 55 (.slice n.A n.any.length n.cap) hrd (jK 50062 [] 6 hA ps.length cap 1 1 Om (vX 50063 [] 7 9 pb (po + 1 * 1 + 0) (.string (mkS p1)) (fun w hO => hl1 w hO.no) ?_)))
 refine jK 50065 [] 9 hA ps.length cap 2 1 Om (vX 50066 [] 10 9 pb (po + 2 * 1 + 0) (.string (mkS p2)) (fun w hO => hl2 w hO.no) ?_)
 refine jK 50069 [] 13 hA ps.length cap 3 1 Om (vX 50070 [] 14 9 pb (po + 3 * 1 + 0) (.string (mkS p3)) (fun w hO => hl3 w hO.no) ?_)
 refine xh_seqv 50071 [] 15 p3 qZ (jK 50073 [] 17 hA ps.length cap 4 1 Om (vX 50074 [] 18 9 pb (po + 4 * 1 + 0) (.string (mkS p4)) (fun w hO => hl4 w hO.no) ?_))
 refine gR [] 11 (nB (R := fun v ob => SlT v fs ob) (fun w hO => hc w hO.no) fun v obF hF => ?_)
 obtain ⟨fA, fc, rfl⟩ := hF.form
 refine gR [] 20 (m6 1 60 #[.string (mkS p1), .string (mkS p4), .slice fA fs.length fc, .bool (decide (p3 = qZ))] fun b => gR [] 21 ?_)
 refine nD (m := 1) (cp := 1) [⟨b, #[.string (mkS p1), .string (mkS p4), .slice fA fs.length fc, .bool (decide (p3 = qZ))], 60⟩] oa (rdB x 3 rb :: ⟨g, cur, 57⟩ :: zU [] (og ++ obF) oi o4 o7 o8) 0 (⟨b, #[.string (mkS p1), .string (mkS p4), .slice fA fs.length fc, .bool (decide (p3 = qZ))], 60⟩ :: ((rdB x 3 rb :: ([⟨g, cur, 57⟩] ++ zU oa og oi o4 o7 o8)) ++ obF)) [⟨g, cur, 57⟩] (fun w hO => qB [] hO fun p => by
  simp only [zU, List.countP_append, List.countP_cons, List.countP_nil, List.cons_append, List.nil_append]; omega) (fun o w hO => hO.take (fun y hy => by rw [List.mem_singleton.1 hy]; simp) (by simp)) hw Om fun v' ob' h => ?_
 obtain ⟨A', c', rfl⟩ := h.form
 obtain ⟨u, hu⟩ : ∃ u : Wv, u = ⟨p1, p4, fA, fc, fs, decide (p3 = qZ)⟩ := ⟨_, rfl⟩
 have hl : (n.any ++ [u]).length = n.any.length + 1 := by simp
 have hput := Sl.putLast qU hS { n with A := A', cap := c', any := n.any ++ [u] } 0 #[.slice A' (n.any.length + 1) c'] (by simp) (by unfold nvC; simp only [hl]; rfl)
 refine fD 79 [] (Zp g (ini.length * 3 + 0)) (Zp g (ini.length * 3 + 0)) rfl (x_hold ([⟨b, #[.string (mkS p1), .string (mkS p4), .slice fA fs.length fc, .bool (decide (p3 = qZ))], 60⟩] ++ ob' ++ (rdB x 3 rb :: ⟨g, cur, 57⟩ :: zU [] (og ++ obF) oi o4 o7 o8)) (rdB x 3 rb :: ⟨g, cur, 57⟩ :: zU ob' (og ++ obF) oi o4 o7 o8) (fun w hO => qB [⟨b, #[.string (mkS p1), .string (mkS p4), .slice fA fs.length fc, .bool (decide (p3 = qZ))], 60⟩] hO fun p => by
  simp only [zU, List.countP_append, List.countP_cons, List.countP_nil, List.cons_append, List.nil_append]; omega) ?_)
 refine x_sto 1 ⟨g, cur, 57⟩ (ini.length * 3 + 0) 1 (.slice A' (n.any.length + 1) c') (rdB x 3 rb :: ⟨g, cur, 57⟩ :: zU ob' (og ++ obF) oi o4 o7 o8) hput.2 ?_
 have hfin : ∀ w, Own M W w (rdB x 3 rb :: ⟨g, zS cur (ini.length * 3 + 0) #[.slice A' (n.any.length + 1) c'], 57⟩ :: zU ob' (og ++ obF) oi o4 o7 o8) → AddB rb 3 x ps (rdB x 3 rb :: ([⟨g, cur, 57⟩] ++ zU oa og oi o4 o7 o8)) W (.returned (.bool (d7 x.rt 3 ps).2)) w := fun w hO => by
  refine ⟨{ x with needs := ini ++ [{ n with A := A', cap := c', any := n.any ++ [u] }] }, rdB { x with needs := ini ++ [{ n with A := A', cap := c', any := n.any ++ [u] }] } 3 rb :: ([⟨g, zS cur (ini.length * 3 + 0) #[.slice A' (n.any.length + 1) c'], 57⟩] ++ zU ob' (og ++ obF) oi o4 o7 o8), rfl, ?_, ⟨_, ob', og ++ obF, oi, o4, o7, o8, rfl, ⟨⟨?_, .inr ⟨ini, _, rfl, hi, ?_, fun y hy => ?_⟩⟩, hB, hT⟩⟩, ?_⟩
  ·refine rt_lastN hx (f := fun n => { n with any := n.any ++ [anyW ps (ps.getD 4 [])] }) ?_
   unfold Nv.nt anyW
   rw [hp1, hp2, hp3, hp4, hfs, hu]; simp [Wv.wt]
  ·exact hg ▸ sl_len hput.1
  ·show Sl _ 4 (.slice A' (n.any ++ [u]).length c') _ _ _
   rw [hl, List.flatMap_append, List.flatMap_singleton, hu]; exact h
  ·rcases List.mem_append.1 hy with hy | hy
   ·obtain ⟨o, q1, q2⟩ := hf y hy
    exact ⟨o, q1, fun b hb => List.mem_append_left _ (q2 b hb)⟩
   ·rw [List.mem_singleton.1 hy, hu]
    exact ⟨obF, hF, fun b hb => List.mem_append_right _ hb⟩
  ·rw [rd_lastN hx, hM]; exact hO
 have hb : (d7 x.rt 3 ps).2 = (decide (p3 = qZ) || decide (p3 = m9)) := by rw [← hp3]; rfl
 refine y7 81 [] hA ps.length cap 3 1 (by omega) (zX 82 [] 9 pb (po + 3 * 1 + 0) (.string (mkS p3)) (fun w hO => hl3 w hO.no) (kD 83 [] p3 qZ (fun q => ?_) (fun q => ?_)))
 ·refine zB [] Z4 fun w hO => ?_
  have := hfin w (hO.past 0 (rdB x 3 rb :: ⟨g, zS cur (ini.length * 3 + 0) #[.slice A' (n.any.length + 1) c'], 57⟩ :: zU ob' (og ++ obF) oi o4 o7 o8))
  rw [hb, decide_eq_true q, Bool.true_or] at this; exact this
 ·refine y7 86 [] hA ps.length cap 3 1 (by omega) (zX 87 [] 9 pb (po + 3 * 1 + 0) (.string (mkS p3)) (fun w hO => hl3 w hO.no) (kD 88 [] p3 m9 (fun q2 => ?_) (fun q2 => ?_)))
  ·refine zB [] Z4 fun w hO => ?_
   have := hfin w (hO.past 0 (rdB x 3 rb :: ⟨g, zS cur (ini.length * 3 + 0) #[.slice A' (n.any.length + 1) c'], 57⟩ :: zU ob' (og ++ obF) oi o4 o7 o8))
   rw [hb, decide_eq_true q2, Bool.or_true] at this; exact this
  ·refine zB [] Z5 fun w hO => ?_
   have := hfin w (hO.past 0 (rdB x 3 rb :: ⟨g, zS cur (ini.length * 3 + 0) #[.slice A' (n.any.length + 1) c'], 57⟩ :: zU ob' (og ++ obF) oi o4 o7 o8))
   rw [hb, decide_eq_false q, decide_eq_false q2, Bool.or_false] at this; exact this
end
section
set_option linter.unnecessarySimpa false
theorem pcsB_le (b : UInt8) : ∀ (k : Nat) (s : List UInt8), ∀ x ∈ jA b k s, x.length ≤ s.length
 | 0, s => fun x hx => by rw [jA, List.mem_singleton] at hx; rw [hx]; exact Nat.le_refl _
 | k + 1, s => fun x hx => by
  have hb := d5 b s
  unfold jA at hx
  split at hx
  ·rename_i h
   rw [if_pos h] at hb
   have hl := congrArg List.length hb
   simp only [List.length_append, List.length_cons] at hl
   rcases List.mem_cons.1 hx with rfl | hx
   ·omega
   ·have := pcsB_le b k _ x hx; omega
  ·rw [List.mem_singleton.1 hx]; exact Nat.le_refl _
theorem laPs_le (l : La) (s : List UInt8) : ∀ p ∈ yW l s, p.length ≤ s.length := fun p hp => by
 unfold yW at hp
 split at hp
 ·exact pcsB_le _ _ _ p hp
 ·have := nH 32 s [] p hp; simpa using this
theorem laOk_len {l : La} {s : List UInt8} (h : wP l s = true) : l.parts ≤ (yW l s).length := by
 unfold wP at h
 simp only [Bool.and_eq_true, Bool.or_eq_true, decide_eq_true_eq] at h
 omega
theorem qAdd_any (l : La) (hl : l ∈ lays) (s : List UInt8) (hls : wP l s = true) (hs : s.length ≤ 90000) (rb : Nat) (x : Rv) (A : Option Addr) (cap : Nat) (ob : List Blk) (W : World) (hR : RdR rb l.kind x ob) (hO : Own (ob.map Blk.b) W W ob) (hv : ReadsA (ob.map Blk.b) yE W A (yW l s)) (hcap : (yW l s).length ≤ cap) (hF : Few x) (hn : 3 ≤ l.kind → l.kind ≤ 5 → x.needs ≠ []) (hb : l.kind = 7 → x.bars ≠ []) (hK : ∀ w, Own (ob.map Blk.b) W w [] → HasLib w) : YC 96 #[.pointer (some ⟨rb, 0, none⟩), .slice A (yW l s).length cap] W (AddB rb l.kind x (yW l s) ob W) := by
 have hle := laOk_len hls
 have hps : ∀ p ∈ yW l s, p.length ≤ 1000000 := fun p hp => by have := laPs_le l s p hp; omega
 have hfew : l.parts ≤ 1000 → (yW l s).length ≤ s.length + 1001 := laPs_few l s
 clear hls
 generalize yW l s = ps at *
 simp only [lays, List.mem_cons, List.not_mem_nil, or_false] at hl
 rcases hl with rfl | rfl | rfl | rfl | rfl | rfl | rfl | rfl
 ·exact add_head rb x ps A cap ob W hR hO hv hle hps fun w hw => (hK w hw).tab
 ·exact add_need rb x ps A cap ob W hR hO hF
 ·exact add_wish rb x ps A cap ob W hR hO hv hle hps hF (hn (by decide) (by decide)) hK
 ·exact add_when rb x ps A cap ob W hR hO hv hle hF (hn (by decide) (by decide))
 ·exact add_opt rb x ps A cap ob W hR hO hv hle hF (hn (by decide) (by decide))
 ·exact add_bar rb x ps A cap ob W hR hO hv hle hF
 ·exact add_bwhen rb x ps A cap ob W hR hO hv hle hF (hb rfl)
 ·exact add_feat rb x ps A cap ob W hR hO hv ⟨hle, by have := hfew (by decide); omega⟩ hcap hF
def layC : Array Value := (lays.flatMap fun l => (laV l).cells.toList).toArray
structure LyAt (W : World) : Prop where
 lt : 0 < W.heap.size
 held : ∃ T, W.heap[(0 : Nat)]? = some (.cells layC T)
theorem LyAt.on {W w : World} (h : LyAt W) (hb : Below W.heap.size W w) : LyAt w :=
 ⟨Nat.lt_of_lt_of_le h.lt hb.size, by obtain ⟨T, q⟩ := h.held; exact ⟨T, by rw [hb.block _ h.lt]; exact q⟩⟩
theorem LyAt.all {W : World} (h : LyAt W) : (loadVar 132 ⟨0, 0, none⟩).run Tryz.prog W = .ok (.agg layC) W := by
 obtain ⟨T, q⟩ := h.held
 exact yR Kr q
theorem lay_part : ∀ (k : Nat) (l : La), lays[k]? = some l → ∀ w, (part 131 layC (k * 7)).run Tryz.prog w = .ok (laV l) w
 | 0, _, h, w => by cases h; kernel_rfl
 | 1, _, h, w => by cases h; kernel_rfl
 | 2, _, h, w => by cases h; kernel_rfl
 | 3, _, h, w => by cases h; kernel_rfl
 | 4, _, h, w => by cases h; kernel_rfl
 | 5, _, h, w => by cases h; kernel_rfl
 | 6, _, h, w => by cases h; kernel_rfl
 | 7, _, h, w => by cases h; kernel_rfl
 | k + 8, _, h, w => by cases h
theorem run_idxS {P : Program} {ρ : Operand → Value} {o : Oper} {t e : TypeId} {x y : Operand} {n k sz : Nat} {vals : Array Value} {v : Value} (hk : k < n) (ho : o.op = .index t x y) (hx : ρ x = .agg vals) (hy : ρ y = YI (k : Int))
  (hu : P.underlying t = some (.array n e)) (hp : ∀ w, (part e vals (k * sz)).run P w = .ok v w) (hs : (P.info? e).map (·.size) = some sz) (w : World) : (execOp ρ o).run P w = .ok (.value v) w := by
 cases he : P.info? e with
 | none => rw [he] at hs; cases hs
 | some i =>
  rw [he] at hs
  have hs1 : i.size = sz := Option.some.inj hs
  unfold execOp
  have hkn : ¬ n ≤ k := by omega
  simp [ho, hx, hy, Instr.index, Sem.run_bind, asIntOf, run_underlying hu, sizeOf, typeInfo, he, hs1, hp, hk, hkn]
theorem slT_out {M : List Nat} {W w : World} {R ob op : List Blk} {A : Option Addr} {n cap : Nat} {l : List (List UInt8)} (hO : Own M W w (R ++ ob)) (h : SlT (.slice A n cap) l op) (hn : l.length = n) (hs : ∀ b ∈ op, b ∈ R) : ReadsA (ob.map Blk.b) yE w A l := fun h0 => by
 subst hn
 obtain ⟨g, cur, e1, e2, _⟩ := Sl.block h h0
 obtain ⟨b, off, e3, hlt, hc⟩ := SlT.reads h rfl hO (fun x hx => List.mem_append_left _ (hs x hx)) h0
 refine ⟨b, off, e3, hlt, fun hb => ?_, hc⟩
 rw [e1] at e3
 injection e3 with e3
 injection e3 with e4 _
 have ha := hO.apart
 rw [List.map_append, List.nodup_append] at ha
 refine ha.2.2 b ?_ b hb rfl
 rw [← e4]
 exact List.mem_map.2 ⟨⟨g, cur, 9⟩, hs _ (by rw [e2]; exact List.mem_singleton.2 rfl), rfl⟩
end
section
set_option linter.unnecessarySimpa false
section
variable {M : List Nat} {P : Program} {n : Nat} {W : World} {Q : Exit → Act → World → Prop} {c : Xc}
theorem x_idxS (d : Nat) (h : List Nat) (k N sz : Nat) (v : Value) (vals : Array Value) (e : TypeId) (hN : k < N) (hp : ∀ w, (part e vals (k * sz)).run P w = .ok v w) (hg : zI M P n W Q ((xgo P n (d + 50000) h c).put v))
  (hkt : (xgl P n (d + 50000) h c, xW n (xgo P n (d + 50000) h c), (xO (xgo P n (d + 50000) h c)).op, ev n (xgo P n (d + 50000) h c).f (oX (xO (xgo P n (d + 50000) h c))), ev n (xgo P n (d + 50000) h c).f (oY (xO (xgo P n (d + 50000) h c))), P.underlying (oT (xO (xgo P n (d + 50000) h c))), (P.info? e).map (·.size))
   = (xgr P n (d + 50000) h c, true, .index (oT (xO (xgo P n (d + 50000) h c))) (oX (xO (xgo P n (d + 50000) h c))) (oY (xO (xgo P n (d + 50000) h c))), .agg vals, YI (k : Int), some (.array N e), some sz) := by kernel_rfl) : zI M P n W Q c := by
 simp only [Prod.mk.injEq] at hkt
 obtain ⟨hk, e1, e2, e3, e4, e5, e6⟩ := hkt
 exact zQ h c hk (qR e1 (run_idxS hN e2 e3 e4 e5 hp e6) hg)
end
structure TakeB (rb k : Nat) (x : Rv) (s : List UInt8) (ob : List Blk) (W : World) (e : Ending) (w' : World) : Prop where
 ex : ∃ b x' k' ob', e = .returned (.bool b) ∧ RdR rb k' x' ob' ∧ Own (ob.map Blk.b) W w' ob' ∧ (match x3 x.rt k s lays with | some (y, kk) => b = true ∧ x'.rt = y ∧ k' = kk | none => b = false)
theorem lays_at {i : Nat} (h : i < 8) : ∃ l, lays[i]? = some l ∧ lays.drop i = l :: lays.drop (i + 1) ∧ l ∈ lays := by
 have h' : i < lays.length := h
 exact ⟨lays[i], List.getElem?_eq_getElem h', List.drop_eq_getElem_cons h', List.getElem_mem h'⟩
theorem lays_fits : ∀ l ∈ lays, (3 ≤ l.kind → l.kind ≤ 5 → 2 ≤ l.lo ∧ l.hi ≤ 5) ∧ (l.kind = 7 → 6 ≤ l.lo ∧ l.hi ≤ 7) ∧ 1 ≤ l.parts ∧ l.parts ≤ 1000 := by decide
theorem qTake_any (rb k : Nat) (x : Rv) (s : List UInt8) (ob : List Blk) (W : World) (hR : RdR rb k x ob) (hO : Own (ob.map Blk.b) W W ob) (hs : s.length ≤ 90000) (hF : Few x) (hI : InvA x.rt k) (hK : ∀ w, Own (ob.map Blk.b) W w [] → HasLib w ∧ LyAt w) : YC 43 #[.pointer (some ⟨rb, 0, none⟩), .string (mkS s)] W (TakeB rb k x s ob W) := by
 obtain ⟨o1, oa, og, oi, o4, o7, o8, hob, hQ⟩ := hR
 obtain ⟨T, hT⟩ : ∃ T, o1 ++ zU oa og oi o4 o7 o8 = T := ⟨_, rfl⟩
 rw [hT] at hob
 subst hob
 have hRd : ∀ j, RdR rb j x (rdB x j rb :: T) := fun j => ⟨o1, oa, og, oi, o4, o7, o8, by rw [hT], hQ⟩
 obtain ⟨M, hM⟩ : ∃ M, (rdB x k rb :: T).map Blk.b = M := ⟨_, rfl⟩
 have hMj : ∀ j, (rdB x j rb :: T).map Blk.b = M := fun j => hM
 rw [hM] at hO hK
 refine yB hO Tryz.func43 (zX 9 [] 132 0 0 (.agg layC) (fun w hO => (hK w hO.no).2.all) ?_)
 refine yY (α := Nat) (fun i => [(0, Zp rb 0), (1, .string (mkS s)), (9, .agg layC), (10, YI (i : Int))]) (fun _ => rdB x k rb :: T) (fun i m => (i ≤ 8 ∧ x3 x.rt k s lays = x3 x.rt k s (lays.drop i)) ∧ m = 8 - i) 0 8 [] ⟨⟨Nat.zero_le _, rfl⟩, rfl⟩ ?_
 rintro i mm g kk ⟨⟨hi, hE⟩, hmm⟩ nx hkk
 subst hkk
 refine y9 11 [] ((i : Int) < 8) (fun h11 => ?_) (fun h11 => ?_)
 rotate_left
 ·refine zB [] Z5 fun w hO => ⟨false, x, k, rdB x k rb :: T, rfl, hRd k, by rw [hM]; exact hO.past 0 _, ?_⟩
  rw [hE, List.drop_eq_nil_of_le (by show 8 ≤ i; omega)]; rfl
 obtain ⟨l, hl, hd, hlm⟩ := lays_at (show i < 8 by omega)
 obtain ⟨hf1, hf2, hp⟩ := lays_fits l hlm
 rw [hd] at hE
 refine x_idxS 12 [] i 8 7 (laV l) layC 131 (by omega) (lay_part i l hl) (zY [] fun b6 => y9 19 [0, 1, 0] ((k : Int) < (l.lo : Int)) (fun h19 => ?_) (fun h19 => y9 27 [1, 0] ((k : Int) > (l.hi : Int)) (fun h27 => ?_) (fun h27 => ?_)))
 ·refine x_i 10 [] ((i + 1 : Nat) : Int) (kP [] (rdB x k rb :: T) (fun w hO => hO.past 1 _) (nx (i + 1) (8 - (i + 1)) [] Om ⟨⟨by omega, ?_⟩, rfl⟩ Kr Kr))
  rw [hE, x3, if_neg (fun q => by have := q.1; omega)]
 ·refine x_i 10 [] ((i + 1 : Nat) : Int) (kP [] (rdB x k rb :: T) (fun w hO => hO.past 1 _) (nx (i + 1) (8 - (i + 1)) [] Om ⟨⟨by omega, ?_⟩, rfl⟩ Kr Kr))
  rw [hE, x3, if_neg (fun q => by have := q.2.1; omega)]
 have hcut : ∀ w, YC 95 #[laV l, .string (mkS s)] w fun e w' => ∃ v ob', e = .returned v ∧ (∃ A cap, v = .tuple #[.slice A (yW l s).length cap, .bool (wP l s)] ∧ SlT (.slice A (yW l s).length cap) (yW l s) ob' ∧ (yW l s).length ≤ cap) ∧ Own [] w w' ob' := fun w => by
  refine (qCut_any l s w Om hp).mono fun e w' ⟨v', ob', k1, k2, k3⟩ => ?_
  obtain ⟨A, cap, rfl⟩ := k2.form
  refine ⟨_, ob', k1, ⟨A, cap, rfl, k2, ?_⟩, k3⟩
  rcases k2.2 with ⟨_, q, _⟩ | ⟨g, cap', cur, e1, e2, e3, _⟩
  ·omega
  ·cases e1; exact e3
 refine jX (R := fun v ob => ∃ A cap, v = .tuple #[.slice A (yW l s).length cap, .bool (wP l s)] ∧ SlT (.slice A (yW l s).length cap) (yW l s) ob ∧ (yW l s).length ≤ cap) [0] (fun w hO => hcut w) ?_
 rintro v obp ⟨A, cap, rfl, hSl, hcap⟩
 refine tQ 35 [] (wP l s) (fun h35 => ?_) (fun h35 => ?_)
 rotate_left
 ·refine x_i 10 [] ((i + 1 : Nat) : Int) (kP [] (rdB x k rb :: T) (fun w hO => qB (laB l b6 :: obp) (hO.past 0 (laB l b6 :: rdB x k rb :: (T ++ obp))) fun p => by
   simp only [List.countP_append, List.countP_cons, List.countP_nil, List.cons_append, List.nil_append]; omega) (nx (i + 1) (8 - (i + 1)) [] Om ⟨⟨by omega, ?_⟩, rfl⟩ Kr Kr))
  rw [hE, x3, if_neg (fun q => by rw [h35] at q; exact Bool.false_ne_true q.2.2)]
 have hfit : l.lo ≤ k ∧ k ≤ l.hi ∧ wP l s = true := ⟨by omega, by omega, h35⟩
 refine x5 (k := 96) (args := #[Zp rb 0, .slice A (yW l s).length cap]) (Rr := fun v ob' => ∃ x', v = .bool (d7 x.rt l.kind (yW l s)).2 ∧ x'.rt = (d7 x.rt l.kind (yW l s)).1 ∧ RdR rb l.kind x' ob') [0, 1] (laB l b6 :: rdB x l.kind rb :: (T ++ obp)) (laB l b6 :: obp) (rdB x l.kind rb :: T) (fun w hO => qB [] hO fun p => by
   simp only [List.countP_append, List.countP_cons, List.countP_nil, List.cons_append, List.nil_append]; omega) (fun w hO => ?_) fun v ob' ⟨x', k1, k2, k3⟩ => ?_
 ·refine (qAdd_any l hlm s h35 hs rb x A cap (rdB x l.kind rb :: T) w (hRd l.kind) (Own.lentR hO) (slT_out hO hSl rfl fun b hb => List.mem_cons_of_mem _ hb) hcap hF (fun q1 q2 => ?_) (fun q => ?_) (fun w' hw' => (hK w' (hO.no.and ((hMj l.kind) ▸ hw'))).1)).mono fun e w' ⟨x', ob', q1, q2, q3, q4⟩ => ⟨_, ob', q1, ⟨x', rfl, q2, q3⟩, q4⟩
  ·have := hf1 q1 q2
   exact fun e => hI.n Om Om (by show x.needs.map Nv.nt = []; rw [e]; rfl)
  ·have := hf2 q
   exact fun e => hI.b Om Om (by show x.bars.map Bv.bt = []; rw [e]; rfl)
 subst k1
 refine zB [] (.bool (d7 x.rt l.kind (yW l s)).2) fun w hO => ⟨_, x', l.kind, ob', rfl, k3, ?_, ?_⟩
 ·rw [hM]; exact (hO.past 0 ((laB l b6 :: obp) ++ ob')).sublist (List.sublist_append_right _ _)
 ·rw [hE, x3, if_pos hfit]
  cases h : (d7 x.rt l.kind (yW l s)).2 with
  | true => rw [if_pos rfl]; exact ⟨rfl, k2, rfl⟩
  | false => rw [if_neg Bool.false_ne_true]
end
section
def noDef (o : Oper) : Bool := match o.op with
 | .defer _ => false
 | _ => true
theorem noDef_is {o : Oper} (h : noDef o = true) : ∀ c, o.op ≠ .defer c := fun c e => by
 unfold noDef at h; rw [e] at h; cases h
section
variable {M : List Nat} {P : Program} {n : Nat} {W : World} {Q : Exit → Act → World → Prop} {c : Xc}
theorem list_round {l m : Nat} {ops : Array Oper} (hout : ¬ LetsOut Q) : ∀ (rest : List Oper), (rest.all noDef = true) → ∀ a w, wpList P ops Q rest a w → wpListIn (Fence.wide.inRound l) m P ops Q rest a w
 | [], _, a, w, h => h
 | o :: rest, hn, a, w, h => by
  rw [List.all_cons, Bool.and_eq_true] at hn
  have ih := list_round (l := l) (m := m) (ops := ops) hout rest hn.2
  unfold wpList at h
  unfold wpListIn
  split at h
  ·rename_i hw
   rw [if_pos hw]
   rcases h with h | ⟨_, h⟩
   ·refine ⟨fun _ _ => trivial, ?_⟩
    rw [Oper.semAt_eq _ _ _ (noDef_is hn.1)]
    unfold Oper.wp at h
    generalize (execOp a.eval o).run P w = r at h ⊢
    unfold Oper.upon at h
    split at h
    ·exact ih _ _ h
    ·exact ih _ _ h
    ·exact ih _ _ h
    ·refine ⟨fun q => (by cases q), CallsIn.inRound l (callsIn_wide.2 (h.mono fun e w' k => ?_))⟩
     cases e with
     | returned v => exact ih _ _ k
     | panicked ch => exact k
     | outgrown => exact k
    ·refine ⟨fun q => (by cases q), fun cc cs _ => ?_⟩
     obtain ⟨v, w', r1, r2⟩ := h cc cs
     exact ⟨v, w', ih _ _ r1, stepsIn_wide.2 r2⟩
    ·exact h
    ·exact h.elim
   ·exact absurd h hout
  ·rename_i hw
   rw [if_neg hw]
   exact ⟨fun _ _ => trivial, ih _ _ h⟩
theorem bF {l m id : Nat} {ops : Array Oper} {L : List Blk} {f : Nat → Value} (hq : PQ Q) (hout : ¬ LetsOut Q) (hn : ops.toList.all noDef = true) (hg : zI M P n W Q ⟨.ops ops ops.toList, [], L, f⟩) : ∀ w, Own M W w L → (Code.region id ops false).wpIn (Fence.wide.inRound l) m P Q (Fr n f) w := fun w hO =>
 wpIn_region_list (list_round hout _ hn _ _ ((hg.go hq).go w hO))
theorem x_fin (h : List Nat) (lv : List (Nat × Value)) (hR : ∀ w g, Own M W w (xgo P n nS h c).L → Q .normal (Fr n (j6 g lv)) w)
  (hkt : (xgl P n nS h c, (xgo P n nS h c).top, (xgo P n nS h c).k, xV (xgo P n nS h c).f lv) = (xgr P n nS h c, .fin .normal, [], lv.map Prod.snd) := by kernel_rfl) : zI M P n W Q c := by
 simp only [Prod.mk.injEq] at hkt
 obtain ⟨hk, e1, e2, e3⟩ := hkt
 refine zQ h c hk ?_
 generalize xgo P n nS h c = d at *
 obtain ⟨top, kk, L, f⟩ := d
 dsimp only at e1 e2 e3 hR
 subst e1; subst e2
 exact ⟨fun _ => ⟨fun w hO => by have := hR w f hO; rw [← qN _ (gQ e3)] at this; exact this⟩⟩
def xRg (c : Xc) : Nat := match c.top with
 | .code (.region id _ _) => id
 | _ => 0
def yo (c : Xc) (i : Nat) : Oper := match c.top with
 | .code (.region _ a _) => a.getD i default
 | _ => default
def yF (d : Xc) (v0 v1 : Value) : Nat → Value := upd (upd d.f (yo d 0).dst v0) (yo d 1).dst v1
def yF3 (d : Xc) (v0 v1 : Value) (b : Bool) : Nat → Value := upd (upd (yF d v0 v1) (yo d 2).dst (.bool b)) (yo d 3).dst (.bool (!b))
def yA (d : Xc) : Array Oper := #[yo d 0, yo d 1, yo d 2, yo d 3]
theorem ok_yield {id l : Nat} {o0 o1 o2 o3 : Oper} {L : List Blk} {f : Nat → Value} {s v0 v1 : Value}
  (w0 : zP #[o0, o1, o2, o3] n f o0 = true) (w1 : zP #[o0, o1, o2, o3] n (upd f o0.dst v0) o1 = true) (w2 : zP #[o0, o1, o2, o3] n (upd (upd f o0.dst v0) o1.dst v1) o2 = true) (w3 : ∀ b, zP #[o0, o1, o2, o3] n (upd (upd (upd f o0.dst v0) o1.dst v1) o2.dst (.bool b)) o3 = true)
  (q0 : ∀ w, (execOp (ev n f) o0).run P w = .ok (.value v0) w) (q1 : ∀ w, (execOp (ev n (upd f o0.dst v0)) o1).run P w = .ok (.value v1) w) (q2 : ∀ w, (execOp (ev n (upd (upd f o0.dst v0) o1.dst v1)) o2).run P w = (Instr.yield l #[s]).run P w)
  (q3 : ∀ b w, (execOp (ev n (upd (upd (upd f o0.dst v0) o1.dst v1) o2.dst (.bool b))) o3).run P w = .ok (.value (.bool (!b))) w)
  (hs : ∀ w, Own M W w L → YieldAt Fence.wide 1 P l #[s] w fun e w' => ∃ b, e = .returned (.bool b) ∧ Q .normal (Fr n (upd (upd (upd (upd f o0.dst v0) o1.dst v1) o2.dst (.bool b)) o3.dst (.bool (!b)))) w') : Ok M P n W Q (.region id #[o0, o1, o2, o3] false) L f := by
 refine ⟨fun w hO => (wpIn_wide (n := 2)).1 (wpIn_region_list ?_)⟩
 obtain ⟨fn, tmps, assign, body, hy, hR⟩ := hs w hO
 show wpListIn Fence.wide 2 P #[o0, o1, o2, o3] Q [o0, o1, o2, o3] (Fr n f) w
 unfold wpListIn
 rw [gE, if_pos w0]
 refine ⟨fun _ _ => trivial, ?_⟩
 rw [show Fence.wide.round = none from rfl, Oper.semAt_none, xY, q0, Oper.uponIn_value, gW]
 unfold wpListIn
 rw [gE, if_pos w1]
 refine ⟨fun _ _ => trivial, ?_⟩
 rw [show Fence.wide.round = none from rfl, Oper.semAt_none, xY, q1, Oper.uponIn_value, gW]
 unfold wpListIn
 rw [gE, if_pos w2]
 refine ⟨fun _ _ => trivial, ?_⟩
 rw [show Fence.wide.round = none from rfl, Oper.semAt_none, xY, q2, hy, Oper.uponIn_round]
 refine ⟨fun q => (by cases q), hR.mono fun e w' ⟨b, k1, k3⟩ => ?_⟩
 subst k1
 dsimp only
 rw [gW]
 unfold wpListIn
 rw [gE, if_pos (w3 b)]
 refine ⟨fun _ _ => trivial, ?_⟩
 rw [show Fence.wide.round = none from rfl, Oper.semAt_none, xY, q3, Oper.uponIn_value, gW]
 exact k3
theorem yield_good {d : Xc} (l : Nat) (s v0 v1 : Value)
  (hs : ∀ w, Own M W w d.L → YieldAt Fence.wide 1 P l #[s] w fun e w' => ∃ b M' L', e = .returned (.bool b) ∧ Own M' w' w' L' ∧ zI M' P n w' Q ⟨.fin .normal, d.k, L', yF3 d v0 v1 b⟩)
  (e1 : d.top = .code (.region (xRg d) (yA d) false)) (e2 : xNl d.k = true)
  (hw : (zP (yA d) n d.f (yo d 0), zP (yA d) n (upd d.f (yo d 0).dst v0) (yo d 1), zP (yA d) n (yF d v0 v1) (yo d 2), fun b => zP (yA d) n (upd (yF d v0 v1) (yo d 2).dst (.bool b)) (yo d 3)) = (true, true, true, fun _ => true))
  (h0 : (fun w => (execOp (ev n d.f) (yo d 0)).run P w) = fun w => .ok (.value v0) w)
  (h1 : (fun w => (execOp (ev n (upd d.f (yo d 0).dst v0)) (yo d 1)).run P w) = fun w => .ok (.value v1) w)
  (h2 : (fun w => (execOp (ev n (yF d v0 v1)) (yo d 2)).run P w) = fun w => (Instr.yield l #[s]).run P w)
  (h3 : (fun b w => (execOp (ev n (upd (yF d v0 v1) (yo d 2).dst (.bool b))) (yo d 3)).run P w) = fun b w => .ok (.value (.bool (!b))) w) : zI M P n W Q d := by
 have : d = ⟨.code (.region (xRg d) (yA d) false), d.k, d.L, d.f⟩ := by rw [← e1]
 obtain ⟨w0, hw2⟩ := Prod.mk.inj hw
 obtain ⟨w1, hw3⟩ := Prod.mk.inj hw2
 obtain ⟨w2, w3⟩ := Prod.mk.inj hw3
 have key : PQ Q → Ok M P n W (KQ M P n W Q d.k) (.region (xRg d) (yA d) false) d.L d.f := fun hq => ok_yield (l := l) (s := s) (v0 := v0) (v1 := v1) w0 w1 w2 (fun b => congrFun w3 b) (fun w => congrFun h0 w) (fun w => congrFun h1 w) (fun w => congrFun h2 w) (fun b w => congrFun (congrFun h3 b) w) fun w hO => by
  obtain ⟨fn, tmps, assign, body, hy, hR⟩ := hs w hO
  refine ⟨fn, tmps, assign, body, hy, hR.mono fun e w' ⟨b, M', L', k1, k2, k3⟩ => ⟨b, k1, ?_⟩⟩
  have := (k3.go hq).go w' k2
  rw [KQ_any (M := M) (W := W) (M' := M') (W' := w') e2]; exact this
 generalize xRg d = i at *
 generalize yA d = a at *
 rw [this]
 exact ⟨key⟩
theorem x_yield (fu : Fuel1) (h : List Nat) (l : Nat) (s v0 v1 : Value)
  (hs : ∀ w, Own M W w (x2 P n nS fu h c).L → YieldAt Fence.wide 1 P l #[s] w fun e w' => ∃ b M' L', e = .returned (.bool b) ∧ Own M' w' w' L' ∧ zI M' P n w' Q ⟨.fin .normal, (x2 P n nS fu h c).k, L', yF3 (x2 P n nS fu h c) v0 v1 b⟩)
  (hkt : (xl P n nS fu h c, (x2 P n nS fu h c).top, xNl (x2 P n nS fu h c).k) = (xr P n nS (tI fu) h c, .code (.region (xRg (x2 P n nS fu h c)) (yA (x2 P n nS fu h c)) false), true) := by kernel_rfl)
  (hw : (zP (yA (x2 P n nS fu h c)) n (x2 P n nS fu h c).f (yo (x2 P n nS fu h c) 0), zP (yA (x2 P n nS fu h c)) n (upd (x2 P n nS fu h c).f (yo (x2 P n nS fu h c) 0).dst v0) (yo (x2 P n nS fu h c) 1), zP (yA (x2 P n nS fu h c)) n (yF (x2 P n nS fu h c) v0 v1) (yo (x2 P n nS fu h c) 2), fun b => zP (yA (x2 P n nS fu h c)) n (upd (yF (x2 P n nS fu h c) v0 v1) (yo (x2 P n nS fu h c) 2).dst (.bool b)) (yo (x2 P n nS fu h c) 3)) = (true, true, true, fun _ => true) := by kernel_rfl)
  (h0 : (fun w => (execOp (ev n (x2 P n nS fu h c).f) (yo (x2 P n nS fu h c) 0)).run P w) = fun w => .ok (.value v0) w := by kernel_rfl)
  (h1 : (fun w => (execOp (ev n (upd (x2 P n nS fu h c).f (yo (x2 P n nS fu h c) 0).dst v0)) (yo (x2 P n nS fu h c) 1)).run P w) = fun w => .ok (.value v1) w := by kernel_rfl)
  (h2 : (fun w => (execOp (ev n (yF (x2 P n nS fu h c) v0 v1)) (yo (x2 P n nS fu h c) 2)).run P w) = fun w => (Instr.yield l #[s]).run P w := by kernel_rfl)
  (h3 : (fun b w => (execOp (ev n (upd (yF (x2 P n nS fu h c) v0 v1) (yo (x2 P n nS fu h c) 2).dst (.bool b))) (yo (x2 P n nS fu h c) 3)).run P w) = fun b w => .ok (.value (.bool (!b))) w := by kernel_rfl) : zI M P n W Q c := by
 obtain ⟨hk, hkt2⟩ := Prod.mk.inj hkt
 obtain ⟨e1, e2⟩ := Prod.mk.inj hkt2
 refine tO fu h c hk ?_
 clear hk hkt hkt2
 generalize x2 P n nS fu h c = d at *
 exact yield_good l s v0 v1 hs e1 e2 hw h0 h1 h2 h3
end
end
section
def lnH (r : List UInt8) : List UInt8 := if (z8 10 r).2.2 then (z8 10 r).1 ++ [10] else r
def lnR (r : List UInt8) : List UInt8 := if (z8 10 r).2.2 then (z8 10 r).2.1 else []
theorem ix_cut (c : UInt8) : ∀ r : List UInt8, ((z8 c r).2.2 = true ∧ Lib.indexByte r c = ((z8 c r).1.length : Int) ∧ r.take ((z8 c r).1.length + 1) = (z8 c r).1 ++ [c] ∧ r.drop ((z8 c r).1.length + 1) = (z8 c r).2.1 ∧ (z8 c r).1.length < r.length) ∨ ((z8 c r).2.2 = false ∧ Lib.indexByte r c = -1)
 | [] => .inr ⟨rfl, rfl⟩
 | b :: r => by
  unfold z8 Lib.indexByte
  by_cases h : b = c
  ·subst h
   left
   simp
  ·have hb : (b == c) = false := by simpa using h
   rw [if_neg h, hb, if_neg Bool.false_ne_true]
   rcases ix_cut c r with ⟨h1, h2, h3, h4, h5⟩ | ⟨h1, h2⟩
   ·left
    rw [h2]
    have hn : (((z8 c r).1.length : Int) == -1) = false := by simp
    rw [hn, if_neg Bool.false_ne_true]
    refine ⟨h1, by simp, ?_, ?_, by simpa using h5⟩
    ·simp only [List.length_cons, List.take_succ_cons, h3, List.cons_append]
    ·simp only [List.length_cons, List.drop_succ_cons, h4]
   ·right
    rw [h2]
    exact ⟨h1, by simp⟩
theorem lnR_len {r : List UInt8} (h : r ≠ []) : (lnR r).length < r.length := by
 unfold lnR
 rcases ix_cut 10 r with ⟨h1, _, _, h4, h5⟩ | ⟨h1, _⟩
 ·rw [if_pos h1, ← h4, List.length_drop]; omega
 ·rw [h1, if_neg Bool.false_ne_true]; exact List.length_pos_iff.2 h
def shQ (o : Oper) : TypeId × Operand × Operand × Bool := match o.op with
 | .slice t x none (some y) none => (t, x, y, true)
 | _ => (0, .tmp 0, .tmp 0, false)
theorem shQ_op {o : Oper} (h : (shQ o).2.2.2 = true) : o.op = .slice (shQ o).1 (shQ o).2.1 none (some (shQ o).2.2.1) none := by
 unfold shQ at h ⊢
 split at h
 ·rename_i q; simp only [q]
 ·cases h
section
variable {M : List Nat} {P : Program} {n : Nat} {W : World} {Q : Exit → Act → World → Prop} {c : Xc}
theorem xh_shi (t : Nat) (h : List Nat) (i : Nat) (s : List UInt8) (j : Int) (h0 : 0 ≤ j) (h1 : j ≤ s.length) (v : Value) (hv : .string (mkS (s.take j.toNat)) = v) (hg : zI M P n W Q (xHn (xgo P n t h c) i v))
  (hkt : (xgl P n t h c, pS n i (xgo P n t h c), (shQ (xOi i (xgo P n t h c))).2.2.2, ev n (xgo P n t h c).f (shQ (xOi i (xgo P n t h c))).2.1, ev n (xgo P n t h c).f (shQ (xOi i (xgo P n t h c))).2.2.1, P.underlying (shQ (xOi i (xgo P n t h c))).1)
   = (xgr P n t h c, dU i (xgo P n t h c), true, .string (mkS s), YI j, some .string) := by kernel_rfl) : zI M P n W Q c := by
 simp only [Prod.mk.injEq] at hkt
 obtain ⟨hk, e1, e2, e3, e4, e5⟩ := hkt
 exact zQ h c hk (xtake (fun w _ => by rw [run_strhi (shQ_op e2) e3 e4 e5 h0 h1 w, hv]) hg e1)
theorem xh_slo (t : Nat) (h : List Nat) (i : Nat) (s : List UInt8) (j : Int) (h0 : 0 ≤ j) (h1 : j ≤ s.length) (v : Value) (hv : .string (mkS (s.drop j.toNat)) = v) (hg : zI M P n W Q (xHn (xgo P n t h c) i v))
  (hkt : (xgl P n t h c, pS n i (xgo P n t h c), (slQ (xOi i (xgo P n t h c))).2.2.2, ev n (xgo P n t h c).f (slQ (xOi i (xgo P n t h c))).2.1, ev n (xgo P n t h c).f (slQ (xOi i (xgo P n t h c))).2.2.1, P.underlying (slQ (xOi i (xgo P n t h c))).1)
   = (xgr P n t h c, dU i (xgo P n t h c), true, .string (mkS s), YI j, some .string) := by kernel_rfl) : zI M P n W Q c := by
 simp only [Prod.mk.injEq] at hkt
 obtain ⟨hk, e1, e2, e3, e4, e5⟩ := hkt
 exact zQ h c hk (xtake (fun w _ => by rw [run_strlo (slQ_op e2) e3 e4 e5 h0 h1 w, hv]) hg e1)
end
def xD (B : Nat) (r : List UInt8) : Blk := ⟨B, #[.string (mkS r)], 9⟩
theorem ixb_any (r : List UInt8) (w : World) : YC 139 #[.string (mkS r), .int .u8 10] w (YR (YI (Lib.indexByte r 10)) w) :=
 (Tryz.strings_IndexByte _ _ w).mono fun e w' ⟨h1, h2⟩ => ⟨by rw [h1]; rfl, h2 ▸ Below.refl _ _⟩
theorem lines_any (l B : Nat) (J : List UInt8 → World → Prop) (K : List UInt8 → List UInt8 → World → Prop) (Jx : World → Prop)
  (hJ : ∀ r w, J r w → Own [B] w w [xD B r])
  (hS : ∀ r w w', J r w → Own [B] w w' [xD B r] → J r w')
  (hT : ∀ r w w', J r w → r ≠ [] → Own [B] w w' [xD B (lnR r)] → K (lnH r) (lnR r) w')
  (hX : ∀ w w', Jx w → Below w.heap.size w w' → Jx w')
  (hY : ∀ p r w, K p r w → YieldAt Fence.wide 1 Tryz.prog l #[.string (mkS p)] w fun e w' => (e = .returned (.bool true) ∧ J r w') ∨ (e = .returned (.bool false) ∧ Jx w'))
  (s : List UInt8) (W : World) (h0 : J s W) (hs : s.length ≤ 1000000) : YC 138 #[.func (.yield l) #[] #[], .pointer (some ⟨B, 0, none⟩)] W fun e w' => e = .returned (.tuple #[]) ∧ (J [] w' ∨ Jx w') := by
 refine yB (hJ s W h0) Tryz.func138 (x_loopW (α := List UInt8) (fun _ => [(0, .func (.yield l) #[] #[]), (1, Zp B 0)]) (fun _ => [B]) (fun r => [xD B r]) (fun r w m => J r w ∧ r.length ≤ 1000000 ∧ m = r.length) s s.length [] (fun w hO => ⟨⟨hS s W w h0 hO, hs, rfl⟩, (hJ s w (hS s W w h0 hO))⟩) ?_)
 rintro r w mm g ⟨hj, hr, rfl⟩ hO
 refine y9 7 [0] ((r.length : Int) > 0) (fun h7 => ?_) (fun h7 => ?_)
 rotate_left
 ·have hnil : r = [] := List.eq_nil_of_length_eq_zero Om
  subst hnil
  refine x_outW (.exit 0) [] (gS [] fun w3 hO3 => ⟨rfl, .inl (hS [] w w3 hj (hO3.past 0 [xD B []]))⟩) rfl
 have hne : r ≠ [] := fun e => by rw [e] at h7; exact absurd h7 (by decide)
 have hround : ∀ w' , Own [B] w w' [xD B (lnR r)] → YieldAt Fence.wide 1 Tryz.prog l #[.string (mkS (lnH r))] w' fun e w2 => (e = .returned (.bool true) ∧ J (lnR r) w2) ∨ (e = .returned (.bool false) ∧ Jx w2) := fun w' hO' => hY _ _ _ (hT r w w' hj hne hO')
 obtain ⟨z, hz⟩ : ∃ z, Lib.indexByte r 10 = z := ⟨_, rfl⟩
 have hix : ∀ w, YC 139 #[.string (mkS r), .int .u8 10] w (YR (YI z) w) := fun w => hz ▸ ixb_any r w
 have hcut : (0 ≤ z ∧ z < r.length ∧ r.take (z + 1).toNat = lnH r ∧ r.drop (z + 1).toNat = lnR r) ∨ (z = -1 ∧ lnH r = r ∧ lnR r = []) := by
  unfold lnH lnR
  rcases ix_cut 10 r with ⟨c1, c2, c3, c4, c5⟩ | ⟨c1, c2⟩
  ·left
   rw [hz] at c2
   subst c2
   rw [c1, if_pos rfl, if_pos rfl]
   exact ⟨by omega, by omega, c3, c4⟩
  ·right
   rw [c1]
   exact ⟨hz.symm.trans c2, rfl, rfl⟩
 have hlen := lnR_len hne
 refine zE (v := YI z) [0] (fun w hO => hix w) (y9 11 [] (z ≥ 0) (fun h11 => ?_) (fun h11 => ?_))
 ·rcases hcut with ⟨q1, q2, q3, q4⟩ | ⟨q1, _⟩
  rotate_left
  ·exact absurd h11 Om
  refine g6 9 [] [xD B r] (fun w hO => Own.nth 0 (xD B r) hO) (x_i 14 [0] (z + 1) (xh_shi 50015 [] 3 r (z + 1) Om Om (.string (mkS (lnH r))) (by rw [q3]) (x_i 18 [0] (z + 1) (xh_slo 50019 [] 7 r (z + 1) Om Om (.string (mkS (lnR r))) (by rw [q4]) ?_))))
  refine x_yield (.s (.s (.s (.s (.s (.s (.s .z))))))) [0] l (.string (mkS (lnH r))) (.func (.yield l) #[] #[]) (.string (mkS (lnH r))) fun w' hO' => ?_
  obtain ⟨fn, tmps, assign, body, hy, hR⟩ := hround w' (hO'.past 0 [xD B (lnR r)])
  refine ⟨fn, tmps, assign, body, hy, hR.mono fun e w2 h => ?_⟩
  rcases h with ⟨rfl, hJ2⟩ | ⟨rfl, hx2⟩
  ·exact ⟨true, [B], [xD B (lnR r)], rfl, hJ _ _ hJ2, x_nxW (lnR r) (lnR r).length [] hlen fun w3 hO3 => ⟨⟨hS _ w2 w3 hJ2 (hO3.past 0 [xD B (lnR r)]), by omega, rfl⟩, hJ _ _ (hS _ w2 w3 hJ2 (hO3.past 0 [xD B (lnR r)]))⟩⟩
  ·exact ⟨false, [], [], rfl, Own.start [] w2, x_outW .ret [] (x_ret0 [] fun w3 hO3 => ⟨rfl, .inr (hX w2 w3 hx2 (hO3.past 0 []).below)⟩) rfl⟩
 ·rcases hcut with ⟨q1, _⟩ | ⟨q1, q2, q3⟩
  ·exact absurd h11 Om
  rw [q2, q3] at hround
  rw [q3] at hlen
  refine x_yield (.s (.s (.s (.s (.s (.s (.s (.s (.s (.s .z)))))))))) [0, 0] l (.string (mkS r)) (.func (.yield l) #[] #[]) (.string (mkS r)) fun w' hO' => ?_
  obtain ⟨fn, tmps, assign, body, hy, hR⟩ := hround w' (hO'.past 0 [xD B []])
  refine ⟨fn, tmps, assign, body, hy, hR.mono fun e w2 h => ?_⟩
  rcases h with ⟨rfl, hJ2⟩ | ⟨rfl, hx2⟩
  ·exact ⟨true, [B], [xD B []], rfl, hJ _ _ hJ2, x_nxW [] 0 [] hlen fun w3 hO3 => ⟨⟨hS _ w2 w3 hJ2 (hO3.past 0 [xD B []]), by simp, rfl⟩, hJ _ _ (hS _ w2 w3 hJ2 (hO3.past 0 [xD B []]))⟩⟩
  ·exact ⟨false, [], [], rfl, Own.start [] w2, x_outW .ret [] (x_ret0 [] fun w3 hO3 => ⟨rfl, .inr (hX w2 w3 hx2 (hO3.past 0 []).below)⟩) rfl⟩
end
section
theorem Own.turn {M : List Nat} {W w : World} {L : List Blk} (h : Own M W w L) {l : Nat} {o : Obj} (hl : W.heap.size ≤ l) (ho : w.heap[l]? = some o) (hc : o.isCells = false) (o' : Obj) : Own M W (w.putObj l o') L := by
 refine ⟨h.os, h.tape, h.output, by rw [World.putObj_size]; exact h.size, h.drawn, fun k hk hm => (World.putObj_heap_other Om).trans (h.kept k hk hm), fun x hx => ?_, h.base, h.apart⟩
 have hx' := h.held x hx
 refine (World.putObj_heap_other fun e => ?_).trans hx'
 rw [e, ho] at hx'
 cases hx'; cases hc
theorem Own.lay {M : List Nat} {W w : World} {L : List Blk} (h : Own M W w L) (o : Obj) : Own M W (w.alloc o) L := h.on ((Below.refl _ w).alloc (Nat.le_refl _) o)
def mkQ (P : Program) (fn : Func) (R : Ending → World → Prop) : Exit → Act → World → Prop
 | .normal, a, w | .ret, a, w => LeavesInM Fence.wide 0 P fn a.tmps R a.defers .returning w
 | _, _, _ => False
theorem pq_mk {P : Program} {fn : Func} {R : Ending → World → Prop} : PQ (mkQ P fn R) := fun c a d v w h => h
theorem calls_mk {M : List Nat} {P : Program} {n : Nat} {W : World} {L : List Blk} {k : FuncId} {fn : Func} {c : Code} {args : Array Value} {R : Ending → World → Prop} (hO : Own M W W L) (hf : P.funcs[k]? = some fn) (hb : fn.body = some c) (hn : fn.ntmps = n) (hle : Nat.ble args.size n = true)
  (h : Ok M P n W (mkQ P fn R) c L (fun t => args.getD t undef)) : Calls P k args W R := by
 have hle' : args.size ≤ n := Nat.le_of_ble_eq_true hle
 have e : ({ tmps := args ++ Array.replicate (fn.ntmps - args.size) undef, defers := [] } : Act) = Fr n (fun t => args.getD t undef) := by
  unfold Fr
  congr 1
  rw [hn]
  apply Array.ext_getElem?
  intro i
  rw [Array.getElem?_ofFn, Array.getElem?_append, Array.getElem?_replicate]
  by_cases hi : i < args.size
  ·rw [if_pos hi, dif_pos Om]; simp [Array.getD, hi]
  ·rw [if_neg hi]
   by_cases h2 : i < n
   ·rw [dif_pos h2, if_pos Om]; simp [Array.getD, hi]
   ·rw [dif_neg h2, if_neg Om]
 refine (callsIn_wide (n := 0)).1 (callsIn_of_wp_marks hf hb trivial (wpIn_wide.2 ?_) rfl)
 rw [e]
 refine wp_mono (h.go W hO) fun ex a w hq => ?_
 cases ex with
 | normal => exact hq
 | ret => exact hq
 | _ => exact hq.elim
theorem x_enterM {M : List Nat} {P : Program} {W : World} {L : List Blk} {k : FuncId} {fn : Func} {args : Array Value} {R : Ending → World → Prop} (hO : Own M W W L) (hf : P.funcs[k]? = some fn) (hg : zI M P fn.ntmps W (mkQ P fn R) ⟨.code (fn.body.getD .skip), [], L, fun t => args.getD t undef⟩)
  (hb : fn.body.isSome = true := by kernel_rfl) (hle : Nat.ble args.size fn.ntmps = true := by kernel_rfl) : Calls P k args W R := by
 cases hb' : fn.body with
 | none => rw [hb'] at hb; cases hb
 | some b => rw [hb'] at hg; exact calls_mk hO hf hb' rfl hle (hg.go pq_mk)
def rndQ (M1 : List Nat) (B : Nat) (r : List UInt8) (rel : List UInt8 → List Blk → Prop) (relx : List Blk → Prop) (Wr : World) : Exit → Act → World → Prop
 | .normal, _, w => ∃ L', rel r L' ∧ Own M1 Wr w (xD B r :: L')
 | .ret, _, w => ∃ L', relx L' ∧ Own M1 Wr w L'
 | _, _, _ => False
theorem pq_rnd {M1 : List Nat} {B : Nat} {r : List UInt8} {rel : List UInt8 → List Blk → Prop} {relx : List Blk → Prop} {Wr : World} : PQ (rndQ M1 B r rel relx Wr) := fun c a d v w h => h
theorem out_rnd {M1 : List Nat} {B : Nat} {r : List UInt8} {rel : List UInt8 → List Blk → Prop} {relx : List Blk → Prop} {Wr : World} {id : Nat} {K : Act → World → Prop} : ¬ LetsOut (Exit.then K (Exit.inBlock id (rndQ M1 B r rel relx Wr))) := fun ⟨_, _, h⟩ => h
theorem out_lend {M : List Nat} {W w w' : World} {L L' : List Blk} (h : Own M W w L) (h' : Own (L.map Blk.b) w w' L') : Own M W w' L' := by
 have := Own.back (R := []) (by rw [List.append_nil]; exact h) h'
 rwa [List.append_nil] at this
theorem vW {w w' : World} {L L' : List Blk} {l : Nat} {o : Obj} (hh : ∀ x ∈ L, w.heap[x.b]? = some (.cells x.cs x.ty)) (h : Own (L.map Blk.b) w w' L') (ho : w.heap[l]? = some o) (hc : o.isCells = false) : w'.heap[l]? = some o := by
 refine (h.kept l (Array.getElem?_eq_some_iff.1 ho).1 fun hm => ?_).trans ho
 obtain ⟨x, hx, rfl⟩ := List.mem_map.1 hm
 rw [hh x hx] at ho
 cases ho; cases hc
theorem wp_lines {M : List Nat} {n : Nat} {Q : Exit → Act → World → Prop} {W0 w : World} {L0 : List Blk} {f : Nat → Value} {g : Operand} {t B : Nat} {assign body : Code} {s : List UInt8}
  (hg : ev n f g = .func (.func 138) #[] #[.pointer (some ⟨B, 0, none⟩)])
  (rel : List UInt8 → List Blk → Prop) (relx : List Blk → Prop) (f1 : List UInt8 → Nat → Value)
  (hA : ∀ (p : List UInt8) (l : Nat) (w : World) (K : Act → World → Prop), K (Fr n (f1 p)) w → assign.wpIn (Fence.wide.inRound l) 1 Tryz.prog (Exit.then K (fun _ _ _ => False)) { tmps := (Fr n f).tmps.setIfInBounds t (.string (mkS p)), defers := [] } w)
  (hB : ∀ (r : List UInt8) (L : List Blk) (l : Nat) (Wr : World), r ≠ [] → rel r L → Own M W0 Wr (xD B (lnR r) :: L) → body.wpIn (Fence.wide.inRound l) 1 Tryz.prog (rndQ ((xD B (lnR r) :: L).map Blk.b) B (lnR r) rel relx Wr) (Fr n (f1 (lnH r))) Wr)
  (h0 : rel s L0) (hO : Own M W0 w (xD B s :: L0)) (hs : s.length ≤ 1000000)
  (hdone : ∀ D L w', W0.heap.size ≤ D → rel [] L → Own M W0 w' (xD B [] :: L) → w'.heap[D]? = some (.deferred (some [])) → Q .normal { Fr n f with defers := [{ target := .collected D, args := #[] }] } w')
  (hret : ∀ D L w', W0.heap.size ≤ D → relx L → Own M W0 w' L → w'.heap[D]? = some (.deferred (some [])) → Q .ret { Fr n f with defers := [{ target := .collected D, args := #[] }] } w') :
  (Code.rangeFunc g #[t] assign body).wp Tryz.prog Q (Fr n f) w := by
 refine (wpIn_wide (n := 1)).1 (wpIn_rangeFunc ?_)
 intro fn hfn
 obtain ⟨rc, hrc⟩ : ∃ rc : LoopState → Option Code → Loop, rc = fun st pe => { state := st, pending := pe, fn, tmps := (Fr n f).tmps, params := #[t], assign, body, defers := w.heap.size } := ⟨_, rfl⟩
 obtain ⟨W1, hW1⟩ : ∃ W1, (w.alloc (.deferred (some []))).alloc (.loop (rc .ready none)) = W1 := ⟨_, rfl⟩
 obtain ⟨l, hl⟩ : ∃ l, w.heap.size + 1 = l := ⟨_, rfl⟩
 have hWl : W0.heap.size ≤ l := by have := hO.size; omega
 have hL1 : W1.heap[l]? = some (.loop (rc .ready none)) := by
  rw [← hW1, ← hl]; have := World.alloc_heap_new (w.alloc (.deferred (some []))) (.loop (rc .ready none)); rwa [World.size_alloc] at this
 have hK1 : W1.heap[w.heap.size]? = some (.deferred (some [])) := by
  rw [← hW1]; exact (Below.heap_alloc _ _ _ (by simp)).trans (World.alloc_heap_new w _)
 have hO1 : Own M W0 W1 (xD B s :: L0) := by rw [← hW1]; exact (hO.lay _).lay _
 have hD := hO.size
 refine ⟨l, [{ target := .collected w.heap.size, args := #[] }], W1, { target := .fn (.func 138) #[Zp B 0], args := #[.func (.yield l) #[] #[]] }, W1, 138, #[.func (.yield l) #[] #[], Zp B 0], W1, ?_, ?_, fun _ _ => trivial, ?_, fun q => (by cases q), ?_⟩
 ·rw [← hW1, ← hl, hrc]; exact run_enterLoop_outer _ _ _ _ _
 ·simp only [resolve, xY, hg]
  simp [go_sem]
  rfl
 ·simp [invoke, go_sem, enters_of Tryz.func138 Kr rfl]
 have hlt : ∀ {w : World} {k : Nat} {o : Obj}, w.heap[k]? = some o → k < w.heap.size := fun h => (Array.getElem?_eq_some_iff.1 h).1
 refine (callsIn_wide.2 (lines_any l B (fun r w' => (∃ L, rel r L ∧ Own M W0 w' (xD B r :: L)) ∧ w'.heap[l]? = some (.loop (rc .ready none)) ∧ w'.heap[w.heap.size]? = some (.deferred (some [])))
  (fun p r' w' => (∃ r L, r ≠ [] ∧ p = lnH r ∧ r' = lnR r ∧ rel r L ∧ Own M W0 w' (xD B (lnR r) :: L)) ∧ w'.heap[l]? = some (.loop (rc .ready none)) ∧ w'.heap[w.heap.size]? = some (.deferred (some [])))
  (fun w' => (∃ L, relx L ∧ Own M W0 w' L) ∧ w'.heap[l]? = some (.loop (rc .done (some .ret))) ∧ w'.heap[w.heap.size]? = some (.deferred (some [])))
  (fun r w1 ⟨⟨L, _, h⟩, _⟩ => (h.sublist (L' := [xD B r]) (List.cons_sublist_cons.2 (List.nil_sublist _))).lend)
  (fun r w1 w2 ⟨⟨L, q, h⟩, h2, h3⟩ h' => ⟨⟨L, q, Own.back (ob := [xD B r]) (ob' := [xD B r]) (R := L) h h'⟩, vW (L := [xD B r]) (fun x hx => h.held x (by rw [List.mem_singleton.1 hx]; exact List.mem_cons_self ..)) h' h2 rfl, vW (L := [xD B r]) (fun x hx => h.held x (by rw [List.mem_singleton.1 hx]; exact List.mem_cons_self ..)) h' h3 rfl⟩)
  (fun r w1 w2 ⟨⟨L, q, h⟩, h2, h3⟩ hne h' => ⟨⟨r, L, hne, rfl, rfl, q, Own.back (ob := [xD B r]) (ob' := [xD B (lnR r)]) (R := L) h h'⟩, vW (L := [xD B r]) (fun x hx => h.held x (by rw [List.mem_singleton.1 hx]; exact List.mem_cons_self ..)) h' h2 rfl, vW (L := [xD B r]) (fun x hx => h.held x (by rw [List.mem_singleton.1 hx]; exact List.mem_cons_self ..)) h' h3 rfl⟩)
  (fun w1 w2 ⟨⟨L, q, h⟩, h2, h3⟩ hb => ⟨⟨L, q, h.on hb⟩, (hb.block _ (hlt h2)).trans h2, (hb.block _ (hlt h3)).trans h3⟩)
  ?_ s W1 ⟨⟨L0, h0, hO1⟩, hL1, hK1⟩ hs)).mono ?_
 ·rintro p r' w1 ⟨⟨r, L, hne, rfl, rfl, hrel, h⟩, h2, h3⟩
  have hy := run_yield (P := Tryz.prog) (args := #[.string (mkS (lnH r))]) h2 (by rw [hrc]; rfl)
  rw [hrc] at hy
  refine ⟨fn, (Fr n f).tmps.setIfInBounds t (.string (mkS (lnH r))), assign, body, by rw [hy]; simp, roundIn_of_wpIn trivial (hA (lnH r) l w1 _ ?_)⟩
  refine ⟨_, run_beginRound h2 (by rw [hrc]), ?_⟩
  have h4 := h.turn hWl h2 rfl (.loop { rc .ready none with state := .busy })
  have hl2 : (w1.putObj l (.loop { rc .ready none with state := .busy })).heap[l]? = some (.loop { rc .ready none with state := .busy }) := World.putObj_heap_same (hlt h2)
  have hk2 : (w1.putObj l (.loop { rc .ready none with state := .busy })).heap[w.heap.size]? = some (.deferred (some [])) := (World.putObj_heap_other Om).trans h3
  refine wpIn_mono (hB r L l _ hne hrel h4) fun e a w3 hp => ?_
  cases e with
  | normal =>
   obtain ⟨L', q1, q2⟩ := hp
   have hl3 := vW h4.held q2 hl2 rfl
   have hk3 := vW h4.held q2 hk2 rfl
   exact ⟨_, _, run_endRound none hl3, .inl ⟨rfl, ⟨L', q1, (out_lend h4 q2).turn hWl hl3 rfl _⟩, (World.putObj_heap_same (hlt hl3)).trans (by rw [hrc]; rfl), (World.putObj_heap_other Om).trans hk3⟩⟩
  | ret =>
   obtain ⟨L', q1, q2⟩ := hp
   have hl3 := vW h4.held q2 hl2 rfl
   have hk3 := vW h4.held q2 hk2 rfl
   exact ⟨_, _, run_endRound (some .ret) hl3, .inr ⟨rfl, ⟨L', q1, (out_lend h4 q2).turn hWl hl3 rfl _⟩, (World.putObj_heap_same (hlt hl3)).trans (by rw [hrc]; rfl), (World.putObj_heap_other Om).trans hk3⟩⟩
  | _ => exact hp.elim
 ·rintro e w2 ⟨rfl, (⟨⟨L, q, h⟩, h2, h3⟩ | ⟨⟨L, q, h⟩, h2, h3⟩)⟩
  ·exact ⟨none, _, by have := run_endLoop (P := Tryz.prog) h2 (by rw [hrc]; simp); rw [hrc] at this; exact this, hdone w.heap.size L _ hD q (h.turn hWl h2 rfl _) ((World.putObj_heap_other Om).trans h3)⟩
  ·exact ⟨some .ret, _, by have := run_endLoop (P := Tryz.prog) h2 (by rw [hrc]; simp); rw [hrc] at this; exact this, wpIn_ret (hret w.heap.size L _ hD q (h.turn hWl h2 rfl _) ((World.putObj_heap_other Om).trans h3))⟩
end
section
def vB : Nat → Rt → Nat → Nat → List UInt8 → Int × Rt × Nat
 | 0, x, k, i, _ => (0, x, k)
 | f + 1, x, k, i, r =>
  if r = [] then (0, x, k)
  else if (z8 10 r).2.2 then
   match x3 x k (z8 10 r).1 lays with
   | some (y, kk) => vB f y kk (i + 1) (z8 10 r).2.1
   | none => (((i + 1 : Nat) : Int), x, k)
  else (((i + 1 : Nat) : Int), x, k)
structure FewR (x : Rt) (m : Nat) : Prop where
 n : x.needs.length ≤ m
 b : x.bars.length ≤ m
 f : x.fts.length ≤ m
 a : ∀ n ∈ x.needs, n.any.length ≤ m
theorem FewR.up {x : Rt} {m m' : Nat} (h : FewR x m) (hm : m ≤ m') : FewR x m' := ⟨Nat.le_trans h.n hm, Nat.le_trans h.b hm, Nat.le_trans h.f hm, fun n hn => Nat.le_trans (h.a n hn) hm⟩
theorem wH {α : Type} (f : α → α) : ∀ l : List α, (yP f l).length = l.length
 | [] => rfl
 | [a] => rfl
 | a :: b :: r => by rw [yP, List.length_cons, wH f (b :: r)]; simp
theorem dH {α : Type} {f : α → α} {p : α → Prop} (hf : ∀ y, p y → p (f y)) : ∀ {l : List α}, (∀ y ∈ l, p y) → ∀ y ∈ yP f l, p y
 | [], h => h
 | [a], h => fun y hy => by
  rw [yP, List.mem_singleton] at hy; rw [hy]; exact hf a (h a (List.mem_singleton.2 rfl))
 | a :: b :: r, h => fun y hy => by
  rw [yP] at hy
  rcases List.mem_cons.1 hy with rfl | hy
  ·exact h _ (List.mem_cons_self ..)
  ·exact dH hf (fun z hz => h z (List.mem_cons_of_mem _ hz)) y hy
theorem add_few {x : Rt} {m : Nat} (h : FewR x m) (kd : Nat) (ps : List (List UInt8)) : FewR (d7 x kd ps).1 (m + 1) := by
 have h1 := h.up (Nat.le_succ m)
 unfold d7
 split
 ·exact ⟨h1.n, h1.b, h1.f, h1.a⟩
 ·refine ⟨by rw [List.length_append]; exact Nat.succ_le_succ h.n, h1.b, h1.f, fun n hn => ?_⟩
  rcases List.mem_append.1 hn with hn | hn
  ·exact h1.a n hn
  ·rw [List.mem_singleton.1 hn]; exact Nat.zero_le _
 ·refine ⟨by rw [wH]; exact h1.n, h1.b, h1.f, fun n hn => ?_⟩
  have key : ∀ {l : List Nt}, (∀ y ∈ l, y.any.length ≤ m) → ∀ y ∈ yP (fun n => { n with any := n.any ++ [anyW ps (ps.getD 4 [])] }) l, y.any.length ≤ m + 1 := by
   intro l
   induction l with
   | nil => intro _ y hy; cases hy
   | cons a r ih =>
    intro hl y hy
    cases r with
    | nil =>
     rw [yP, List.mem_singleton] at hy
     rw [hy]; show (a.any ++ _).length ≤ _
     rw [List.length_append]; exact Nat.succ_le_succ (hl a (List.mem_singleton.2 rfl))
    | cons b r =>
     rw [yP] at hy
     rcases List.mem_cons.1 hy with rfl | hy
     ·exact Nat.le_succ_of_le (hl _ (List.mem_cons_self ..))
     ·exact ih (fun z hz => hl z (List.mem_cons_of_mem _ hz)) y hy
  exact key h.a n hn
 ·exact ⟨by rw [wH]; exact h1.n, h1.b, h1.f, dH (f := fun n : Nt => { n with wh := ps.getD 1 [] }) (p := fun n : Nt => n.any.length ≤ m + 1) (fun y hy => hy) h1.a⟩
 ·exact ⟨by rw [wH]; exact h1.n, h1.b, h1.f, dH (f := fun n : Nt => { n with opt := ps.getD 1 [] }) (p := fun n : Nt => n.any.length ≤ m + 1) (fun y hy => hy) h1.a⟩
 ·exact ⟨h1.n, by rw [List.length_append]; exact Nat.succ_le_succ h.b, h1.f, h1.a⟩
 ·exact ⟨h1.n, by rw [wH]; exact h1.b, h1.f, h1.a⟩
 ·exact ⟨h1.n, h1.b, by rw [List.length_append]; exact Nat.succ_le_succ h.f, h1.a⟩
 ·exact h1
theorem take_few {x y : Rt} {m k kk : Nat} {s : List UInt8} (h : FewR x m) : ∀ {L : List La}, x3 x k s L = some (y, kk) → FewR y (m + 1)
 | [], e => by cases e
 | l :: r, e => by
  rw [x3] at e
  split at e
  ·split at e
   ·simp only [Option.some.injEq, Prod.mk.injEq] at e
    rw [← e.1]; exact add_few h _ _
   ·cases e
  ·exact take_few h e
theorem take_inv {x y : Rt} {k kk : Nat} {s : List UInt8} (hI : InvA x k) (h : x3 x k s lays = some (y, kk)) : InvA y kk ∧ nR ⟨x, stg k⟩ s = some ⟨y, stg kk⟩ := by
 have := take_line hI s
 rw [h] at this
 cases hl : nR ⟨x, stg k⟩ s with
 | none => rw [hl] at this; exact this.elim
 | some z => rw [hl] at this; exact ⟨this.2, by rw [this.1]⟩
theorem take_not {x : Rt} {k : Nat} {s : List UInt8} (hI : InvA x k) (h : x3 x k s lays = none) : nR ⟨x, stg k⟩ s = none := by
 have := take_line hI s
 rw [h] at this
 cases hl : nR ⟨x, stg k⟩ s with
 | none => rfl
 | some z => rw [hl] at this; exact this.elim
theorem resA_read : ∀ (f : Nat) (x : Rt) (k i : Nat) (r : List UInt8), InvA x k → r.length ≤ f →
  let ls := zD 10 [] r
  ((vB f x k i r).1 = 0 → InvA (vB f x k i r).2.1 (vB f x k i r).2.2 ∧ runS ⟨x, stg k⟩ ls.dropLast = some ⟨(vB f x k i r).2.1, stg (vB f x k i r).2.2⟩ ∧ ls.getLast? = some [])
  ∧ ((vB f x k i r).1 ≠ 0 → (runS ⟨x, stg k⟩ ls.dropLast = none ∧ (vB f x k i r).1 = badS ⟨x, stg k⟩ i ls.dropLast) ∨ ((∃ y, runS ⟨x, stg k⟩ ls.dropLast = some y) ∧ ls.getLast? ≠ some [] ∧ (vB f x k i r).1 = ((i + ls.length : Nat) : Int)))
 | f, x, k, i, [], hI, _ => by
  have e : vB f x k i [] = (0, x, k) := by cases f with
   | zero => rfl
   | succ f => rw [vB, if_pos rfl]
  rw [e]
  exact ⟨fun _ => ⟨hI, rfl, rfl⟩, fun h => absurd rfl h⟩
 | 0, x, k, i, c :: r, hI, h => by simp at h
 | f + 1, x, k, i, c :: t, hI, hf => by
  obtain ⟨r, hr⟩ : ∃ r, c :: t = r := ⟨_, rfl⟩
  have hne : r ≠ [] := by rw [← hr]; simp
  rw [hr] at hf ⊢
  have hsp := yU 10 r []
  rw [List.nil_append] at hsp
  rw [vB, if_neg hne]
  cases hq : (z8 10 r).2.2 with
  | false =>
   rw [hq, if_neg Bool.false_ne_true] at hsp
   have hb := d5 10 r
   rw [hq, if_neg Bool.false_ne_true, List.append_nil] at hb
   rw [if_neg Bool.false_ne_true, hsp]
   refine ⟨fun h => absurd h (by show ((i + 1 : Nat) : Int) ≠ 0; omega), fun _ => .inr ⟨⟨_, rfl⟩, ?_, rfl⟩⟩
   show some (z8 10 r).1 ≠ some []
   rw [← hb]; simpa using hne
  | true =>
   have hl := jV 10 r
   rw [hq, if_pos rfl] at hl hsp
   rw [if_pos rfl, hsp]
   have hsne : zD 10 [] (z8 10 r).2.1 ≠ [] := qQ 10 _ _
   obtain ⟨L, hL⟩ : ∃ L, zD 10 [] (z8 10 r).2.1 = L := ⟨_, rfl⟩
   have hd : ((z8 10 r).1 :: L).dropLast = (z8 10 r).1 :: L.dropLast := List.dropLast_cons_of_ne_nil (hL ▸ hsne)
   have hg : ((z8 10 r).1 :: L).getLast? = L.getLast? := by
    rw [hL] at hsne
    cases L with
    | nil => exact absurd rfl hsne
    | cons a b => simp [List.getLast?_cons_cons]
   rw [hL]
   dsimp only
   rw [hd, hg]
   cases ht : x3 x k (z8 10 r).1 lays with
   | none =>
    have hn := take_not hI ht
    refine ⟨fun h => absurd h (by show ((i + 1 : Nat) : Int) ≠ 0; omega), fun _ => .inl ⟨?_, ?_⟩⟩
    ·rw [runS, hn]
    ·rw [badS, hn]
   | some yk =>
    obtain ⟨y, kk⟩ := yk
    obtain ⟨hI', hs⟩ := take_inv hI ht
    have ih := resA_read f y kk (i + 1) (z8 10 r).2.1 hI' Om
    rw [hL] at ih
    dsimp only at ih ⊢
    rw [runS, badS, hs]
    refine ⟨ih.1, fun h => ?_⟩
    rcases ih.2 h with ⟨q1, q2⟩ | ⟨q1, q2, q3⟩
    ·exact .inl ⟨q1, q2⟩
    ·refine .inr ⟨q1, q2, ?_⟩
     rw [q3, List.length_cons]; congr 1; omega
theorem inv_nil : InvA wW 0 := ⟨by decide, fun _ => rfl, fun h => absurd h (by decide), fun h => absurd h (by decide)⟩
def wY (s : List UInt8) : Int := if s = [] then 1 else (vB s.length wW 0 0 s).1
def recA (s : List UInt8) : Rt := (vB s.length wW 0 0 s).2.1
theorem stg_zero {k : Nat} (h : k ≤ 8) : stg k = 0 ↔ k = 0 := by
 have : ∀ j, j ≤ 8 → (stg j = 0 ↔ j = 0) := by decide
 exact this k h
end
section
set_option linter.unnecessarySimpa false
def findRF : Code → Code × Code
 | .rangeFunc _ _ a b => (a, b)
 | .seq x y => match findRF x with
  | (.skip, .skip) => findRF y
  | r => r
 | .block _ x => findRF x
 | _ => (.skip, .skip)
def d4 (i : Nat) : Code → Array Oper
 | .region j a _ => if j = i then a else #[]
 | .seq x y => if (d4 i x).size = 0 then d4 i y else d4 i x
 | .cond _ x y => if (d4 i x).size = 0 then d4 i y else d4 i x
 | .block _ x => d4 i x
 | .rangeFunc _ _ x y => if (d4 i x).size = 0 then d4 i y else d4 i x
 | _ => #[]
section
variable {M : List Nat} {P : Program} {n : Nat} {W : World} {Q : Exit → Act → World → Prop} {c : Xc}
theorem x_range (h : List Nat) {g : Operand} {t : Nat} (assign body rest : Code) (lv : List (Nat × Value)) (L1 : List Blk) (hs : ∀ w f, Own M W w L1 → (Code.rangeFunc g #[t] assign body).wp P (Exit.inBlock 0 (Exit.then (rest.wp P Q) Q)) (Fr n (j6 f lv)) w)
  (hkt : (xgl P n nS h c, (xgo P n nS h c).top, (xgo P n nS h c).k, (xgo P n nS h c).L, xV (xgo P n nS h c).f lv) = (xgr P n nS h c, .code (.rangeFunc g #[t] assign body), [.blk 0, .code rest], L1, lv.map Prod.snd) := by kernel_rfl) : zI M P n W Q c := by
 simp only [Prod.mk.injEq] at hkt
 obtain ⟨hk, e1, e2, e3, e4⟩ := hkt
 refine zQ h c hk ?_
 generalize xgo P n nS h c = d at *
 obtain ⟨top, kk, L, f⟩ := d
 dsimp only at e1 e2 e3 e4
 subst e1; subst e2; subst e3
 exact ⟨fun _ => ⟨fun w hO => by have := hs w f hO; rw [← qN _ (gQ e4)] at this; exact this⟩⟩
theorem x_retM {fn : Func} {R : Ending → World → Prop} (h : List Nat) (i : Nat) (v : Value) (hR : ∀ w, Own M W w (xgo P n nS h c).L → R (.returned v) w) (hkt : (xgl P n nS h c, ((xgo P n nS h c).top, (xgo P n nS h c).k, fn.results, (xgo P n nS h c).L[i]?, ev n (xgo P n nS h c).f (.tmp (xRt fn 0)), yN P (xRy fn 0) (vL (xgo P n nS h c).L i).cs 0)) = (xgr P n nS h c, (.fin .ret, [], #[.cell (xRt fn 0) (xRy fn 0)], some (vL (xgo P n nS h c).L i), .pointer (some ⟨(vL (xgo P n nS h c).L i).b, 0, none⟩), some v)) := by kernel_rfl) : zI M P n W (mkQ P fn R) c := by
 obtain ⟨hk, ht⟩ := Prod.mk.inj hkt
 refine zQ h c hk ?_
 generalize xgo P n nS h c = d at hR ht ⊢
 obtain ⟨top, kk, L, f⟩ := d
 simp only [Prod.mk.injEq] at ht
 obtain ⟨rfl, rfl, e3, e4, e5, e6⟩ := ht
 exact ⟨fun _ => ⟨fun w hO => (((fin_cell (M := M) (P := P) (n := n) (W := W) (R := R) i _ v e3 e4 e5 e6 hR).go w hO).2)⟩⟩
end
theorem pV {P : Program} {n : Nat} {f : Nat → Value} {fn : Func} {p : Tmp} {ty : TypeId} {x : Blk} {v : Value} {w : World} (hres : fn.results = #[.cell p ty]) (hp : ev n f (.tmp p) = .pointer (some ⟨x.b, 0, none⟩)) (hx : w.heap[x.b]? = some (.cells x.cs x.ty)) (hv : yN P ty x.cs 0 = some v) : (results fn (Fr n f).tmps).run P w = .ok v w := by
 have e : (Fr n f).tmps.getD p undef = .pointer (some ⟨x.b, 0, none⟩) := (xR n f p).trans hp
 have hr := yR hv hx
 have e' : (Fr n f).tmps[p]?.getD undef = .pointer (some ⟨x.b, 0, none⟩) := by simpa using e
 simp [results, hres, e', asAddr, hr]
theorem leave_mark {P : Program} {fn : Func} {R : Ending → World → Prop} {tmps : Array Value} {w : World} {D : Nat} {v : Value} (hK : w.heap[D]? = some (.deferred (some []))) (hres : (results fn tmps).run P (w.putObj D (.deferred none)) = .ok v (w.putObj D (.deferred none))) (hR : R (.returned v) (w.putObj D (.deferred none))) : LeavesInM Fence.wide 0 P fn tmps R [{ target := .collected D, args := #[] }] .returning w :=
 ⟨by simp, .inl ⟨_, _, rfl, run_takeDeferred hK, v, hres, hR⟩⟩
theorem store_marks {P : Program} {n id i off : Nat} {f : Nat → Value} {o : Oper} {ds : List Deferred} {Q : Exit → Act → World → Prop} {M : List Nat} {W w : World} {L : List Blk} (x : Blk) {T : TypeId} {t : TypeInfo} {p q : Operand} (v : Value) (hw : zP #[o] n f o = true) (ho : o.op = .store T p q) (hd : o.dst = none) (hL : L[i]? = some x)
  (hp : ev n f p = .pointer (some ⟨x.b, off, none⟩)) (hq : ev n f q = v) (hi : P.info? T = some t) (hs : v.cells.size = t.size) (hle : off + t.size ≤ x.cs.size) (h1 : ∀ u ∈ v.cells.toList, u.oneCell' = true) (hO : Own M W w L)
  (h : ∀ w', Own M W w' (L.set i ⟨x.b, zS x.cs off v.cells, x.ty⟩) → (∀ k, k ≠ x.b → w'.heap[k]? = w.heap[k]?) → Q .normal { Fr n f with defers := ds } w') : (Code.region id #[o] false).wp P Q { Fr n f with defers := ds } w := by
 have hst := run_storeCells_at (P := P) x.b off x.ty v.cells.toList 0 x.cs w (hO.get hL) (by simp; omega) h1
 have hr : (execOp (ev n f) o).run P w = .ok .skip (w.setRow x.b (zS x.cs off v.cells)) := by
  unfold execOp
  simp only [ho, hp, hq, Instr.storeAt, Instr.sureAddr, Sem.run_bind, Sem.run_pure, Result.andThen_ok, storeVar, sizeOf, typeInfo, hi, hs, run_program]
  simp only [ne_eq, not_true_eq_false, if_false]
  have : (storeCells ⟨x.b, off, none⟩ v.cells.toList).run P w = .ok () (w.setRow x.b (zS x.cs off v.cells)) := by
   rw [hst]; unfold zS; simp
  simp [this]
 refine wp_region_list ?_
 show wpList P #[o] Q [o] { Fr n f with defers := ds } w
 unfold wpList
 have hwt : Region.wanted o (yielded #[o] ({ Fr n f with defers := ds } : Act).tmps) = true := (gE #[o] n f o).trans hw
 rw [if_pos hwt]
 refine .inl ?_
 unfold Oper.wp
 have he : ({ Fr n f with defers := ds } : Act).eval = ev n f := xY n f
 rw [he, hr, Oper.upon_skip, show ({ Fr n f with defers := ds } : Act).put o.dst undef = { Fr n f with defers := ds } by rw [hd]; rfl]
 unfold wpList
 exact h _ (hO.put hL _) fun k hk => by
  unfold World.setRow
  simp [World.setRow, hk, Array.getElem?_modify, Ne.symm hk]
end
section
set_option linter.unnecessarySimpa false
theorem qLines_any (s : List UInt8) (W : World) : YC 92 #[.string (mkS s)] W fun e w' => ∃ v ob, e = .returned v ∧ (∃ B, v = .func (.func 138) #[] #[.pointer (some ⟨B, 0, none⟩)] ∧ ob = [xD B s]) ∧ Own [] W w' ob :=
 zL Tryz.func92 (xN [] fun b1 => x_val 3 [] (.func (.func 138) #[] #[.pointer (some ⟨b1, 0, none⟩)]) (fun w => Kr) (zB [] (.func (.func 138) #[] #[.pointer (some ⟨b1, 0, none⟩)]) fun w hO => ⟨_, _, rfl, ⟨b1, rfl, rfl⟩, hO.past 0 [xD b1 s]⟩))
theorem suf_cut (r : List UInt8) : Lib.hasSuffix (lnH r) [10] = (z8 10 r).2.2 ∧ ((z8 10 r).2.2 = true → Lib.trimSuffix (lnH r) [10] = (z8 10 r).1) := by
 unfold lnH
 cases hq : (z8 10 r).2.2 with
 | true =>
  rw [if_pos rfl]
  have h1 : Lib.hasSuffix ((z8 10 r).1 ++ [10]) [10] = true := List.isSuffixOf_iff_suffix.2 (List.suffix_append _ _)
  exact ⟨h1, fun _ => by unfold Lib.trimSuffix; rw [if_pos h1]; simp⟩
 | false =>
  rw [if_neg Bool.false_ne_true]
  refine ⟨?_, fun h => absurd h Bool.false_ne_true⟩
  have h1 := split_free 10 r [] (by simp) r (by rw [split_one 10 hq]; exact List.mem_singleton.2 rfl)
  cases h2 : Lib.hasSuffix r [10] with
  | false => rfl
  | true => exact absurd ((List.isSuffixOf_iff_suffix.1 h2).subset (List.mem_singleton.2 rfl)) h1
theorem qSuf_any (p : List UInt8) (w : World) (hp : p.length ≤ 1000000) : YC 93 #[.string (mkS p), .string ⟨#[10]⟩] w (YR (.tuple #[.string (mkS (Lib.trimSuffix p [10])), .bool (Lib.hasSuffix p [10])]) w) :=
 (Tryz.strings_CutSuffix _ _ w (by rw [yC]; omega)).mono fun e w' ⟨h1, h2⟩ => ⟨by rw [h1]; rfl, h2 ▸ Below.refl _ _⟩
def kL (b : Nat) (z : Int) : Blk := ⟨b, #[YI z], 3⟩
def tkV (rb : Nat) : Value := .func (.func 43) #[.pointer (some ⟨rb, 0, none⟩)] #[]
def fnB (b rb : Nat) : Blk := ⟨b, #[tkV rb], 42⟩
structure RefB (rb : Nat) (s : List UInt8) (ob : List Blk) (W : World) (e : Ending) (w' : World) : Prop where
 ex : ∃ x' k' ob', e = .returned (YI (wY s)) ∧ RdR rb k' x' ob' ∧ Own (ob.map Blk.b) W w' ob' ∧ (s ≠ [] → wY s = 0 → x'.rt = recA s ∧ FewR x'.rt 4096)
noncomputable abbrev qRF : Code × Code := findRF (Tryz.f41.body.getD .skip)
noncomputable abbrev qRg (i : Nat) : Array Oper := d4 i (Tryz.f41.body.getD .skip)
theorem qBody_is : qRF.2 = .block 1 (.seq (.region 6 (qRg 6) false) (.seq (.region 7 (qRg 7) false) (.seq (.region 8 (qRg 8) false) (.cond (.tmp 28) (.seq (.region 9 (qRg 9) false) .ret) .skip)))) := by kernel_rfl
structure RefI (rb b3 b4 b5 : Nat) (s r : List UInt8) (L : List Blk) : Prop where
 ex : ∃ x k i ob fu, L = kL b5 ((i : Nat) : Int) :: kL b4 0 :: fnB b3 rb :: ob ∧ RdR rb k x ob ∧ InvA x.rt k ∧ FewR x.rt i ∧ i + r.length ≤ s.length ∧ r.length ≤ fu ∧ vB fu x.rt k i r = vB s.length wW 0 0 s
structure RefX (rb b3 b4 b5 : Nat) (s : List UInt8) (L : List Blk) : Prop where
 ex : ∃ x k i ob, L = kL b5 i :: kL b4 (wY s) :: fnB b3 rb :: ob ∧ RdR rb k x ob ∧ wY s ≠ 0
theorem FewR.few {x : Rv} {m : Nat} (h : FewR x.rt m) (hm : m ≤ 5000) : Few x := by
 have h' := h.up hm
 refine ⟨?_, ?_, ?_, fun n hn => ?_⟩
 ·have := h'.n; unfold Rv.rt at this; simpa using this
 ·have := h'.b; unfold Rv.rt at this; simpa using this
 ·have := h'.f; simp only [Rv.rt, kC] at this; simpa using this
 ·have := h'.a n.nt (by unfold Rv.rt; exact List.mem_map.2 ⟨n, hn, rfl⟩)
  unfold Nv.nt at this; simpa using this
def bLv (b3 b4 b5 : Nat) : List (Nat × Value) := [(3, .pointer (some ⟨b3, 0, none⟩)), (4, .pointer (some ⟨b4, 0, none⟩)), (5, .pointer (some ⟨b5, 0, none⟩))]
theorem ref_body {M : List Nat} {W0 : World} {rb b3 b4 b5 B : Nat} {s : List UInt8} (hs : s.length ≤ 4096) (hne0 : s ≠ []) (hK : ∀ w, Own M W0 w [] → HasLib w ∧ LyAt w) (f : Nat → Value) (r : List UInt8) (L : List Blk) (l : Nat) (Wr : World) (hne : r ≠ []) (hrel : RefI rb b3 b4 b5 s r L) (hOw : Own M W0 Wr (xD B (lnR r) :: L)) :
  qRF.2.wpIn (Fence.wide.inRound l) 1 Tryz.prog (rndQ ((xD B (lnR r) :: L).map Blk.b) B (lnR r) (RefI rb b3 b4 b5 s) (RefX rb b3 b4 b5 s) Wr) (Fr Tryz.f41.ntmps (upd (j6 f (bLv b3 b4 b5)) (some 6) (.string (mkS (lnH r))))) Wr := by
 obtain ⟨x, k, i, ob, fu, rfl, hR, hI, hF, hi, hfu, hres⟩ := hrel
 have hlen := lnR_len hne
 obtain ⟨p, hp⟩ : ∃ p, lnH r = p := ⟨_, rfl⟩
 obtain ⟨rr, hrr⟩ : ∃ rr, lnR r = rr := ⟨_, rfl⟩
 obtain ⟨hsuf, htrim⟩ := suf_cut r
 have hpl : p.length ≤ 4096 := by
  rw [← hp]; unfold lnH
  rcases ix_cut 10 r with ⟨c1, _, c3, _⟩ | ⟨c1, _⟩
  ·rw [if_pos c1, ← c3, List.length_take]; omega
  ·rw [c1, if_neg Bool.false_ne_true]; omega
 rw [hp] at hsuf htrim ⊢
 rw [hrr] at hOw hlen ⊢
 obtain ⟨M1, hM1⟩ : ∃ M1, (xD B rr :: kL b5 ((i : Nat) : Int) :: kL b4 0 :: fnB b3 rb :: ob).map Blk.b = M1 := ⟨_, rfl⟩
 have hOl := hOw.lend
 obtain ⟨ln, hln⟩ : ∃ ln, Lib.trimSuffix p [10] = ln := ⟨_, rfl⟩
 obtain ⟨en, hen⟩ : ∃ en, Lib.hasSuffix p [10] = en := ⟨_, rfl⟩
 have hcs : ∀ w, YC 93 #[.string (mkS p), .string ⟨#[10]⟩] w (YR (.tuple #[.string (mkS ln), .bool en]) w) := fun w => by
  have := qSuf_any p w Om
  rw [hln, hen] at this; exact this
 have hlnl : ln.length ≤ 4096 := by
  rw [← hln]; unfold Lib.trimSuffix
  split
  ·rw [List.length_take]; omega
  ·exact hpl
 rw [hM1] at hOl ⊢
 rw [qBody_is]
 refine wpIn_block (wpIn_seq (bF (M := M1) (W := Wr) (L := xD B rr :: kL b5 ((i : Nat) : Int) :: kL b4 0 :: fnB b3 rb :: ob) (xE (nN pq_rnd)) out_rnd Kr ?_ Wr hOl))
 refine x_i 15 [1] ((i + 1 : Nat) : Int) (x_fin [1] (bLv b3 b4 b5 ++ [(6, .string (mkS p))]) fun w6 f6 hO6 => ?_)
 have hO6' := hO6.past 0 (xD B rr :: kL b5 ((i + 1 : Nat) : Int) :: kL b4 0 :: fnB b3 rb :: ob)
 clear hO6
 refine wpIn_seq (bF (M := M1) (W := Wr) (L := xD B rr :: kL b5 ((i + 1 : Nat) : Int) :: kL b4 0 :: fnB b3 rb :: ob) (xE (nN pq_rnd)) out_rnd Kr ?_ w6 hO6')
 refine zE (v := .tuple #[.string (mkS ln), .bool en]) [] (fun w hO => hcs w) (x_fin [] (bLv b3 b4 b5 ++ [(7, .string (mkS ln)), (8, .bool en)]) fun w7 f7 hO7 => ?_)
 have hO7' := hO7.past 0 (xD B rr :: kL b5 ((i + 1 : Nat) : Int) :: kL b4 0 :: fnB b3 rb :: ob)
 clear hO7
 refine wpIn_seq (bF (M := M1) (W := Wr) (L := xD B rr :: kL b5 ((i + 1 : Nat) : Int) :: kL b4 0 :: fnB b3 rb :: ob) (xE (nN pq_rnd)) out_rnd Kr ?_ w7 hO7')
 have hM0 : ∀ {w : World} {L' : List Blk}, Own M1 Wr w L' → Own M W0 w L' := fun h => out_lend hOw (by rw [hM1]; exact h)
 have hrefuse : ∀ (w8 : World) (f8 : Nat → Value) (x' : Rv) (k' : Nat) (ob' : List Blk), Own M1 Wr w8 (xD B rr :: kL b5 ((i + 1 : Nat) : Int) :: kL b4 0 :: fnB b3 rb :: ob') → RdR rb k' x' ob' → (vB fu x.rt k i r).1 = ((i + 1 : Nat) : Int) → (Code.cond (.tmp 28) (.seq (.region 9 (qRg 9) false) .ret) .skip).wpIn (Fence.wide.inRound l) 1 Tryz.prog (Exit.inBlock 1 (rndQ M1 B rr (RefI rb b3 b4 b5 s) (RefX rb b3 b4 b5 s) Wr)) (Fr Tryz.f41.ntmps (j6 f8 (bLv b3 b4 b5 ++ [(28, .bool true)]))) w8 := fun w8 f8 x' k' ob' hO8 hR' hz => by
  have hbz : wY s = ((i + 1 : Nat) : Int) := by unfold wY; rw [if_neg hne0, ← hres]; exact hz
  refine wpIn_cond_true (by rw [xY]; kernel_rfl) (wpIn_seq (bF (M := M1) (W := Wr) (L := xD B rr :: kL b5 ((i + 1 : Nat) : Int) :: kL b4 0 :: fnB b3 rb :: ob') (xE (nN pq_rnd)) out_rnd Kr ?_ w8 hO8))
  refine x_fin [1, 2] [] fun w9 f9 hO9 => wpIn_ret ⟨kL b5 ((i + 1 : Nat) : Int) :: kL b4 (wY s) :: fnB b3 rb :: ob', ⟨x', k', _, ob', rfl, hR', by rw [hbz]; omega⟩, ?_⟩
  rw [hbz]
  exact hO9.past 1 (kL b5 ((i + 1 : Nat) : Int) :: kL b4 ((i + 1 : Nat) : Int) :: fnB b3 rb :: ob')
 refine tQ 21 [] en (fun h21 => ?_) (fun h21 => ?_)
 rotate_left
 ·have hc : (z8 10 r).2.2 = false := by rw [← hsuf, hen]; exact h21
  refine x_fin [] (bLv b3 b4 b5 ++ [(28, .bool true)]) fun w8 f8 hO8 => ?_
  have hO8' := hO8.past 0 (xD B rr :: kL b5 ((i + 1 : Nat) : Int) :: kL b4 0 :: fnB b3 rb :: ob)
  clear hO8
  refine hrefuse w8 f8 x k ob hO8' hR ?_
  cases fu with
  | zero => exact absurd (List.eq_nil_of_length_eq_zero (Nat.le_zero.1 hfu)) hne
  | succ fu => rw [vB, if_neg hne, hc, if_neg Bool.false_ne_true]
 have hc : (z8 10 r).2.2 = true := by rw [← hsuf, hen]; exact h21
 have hln1 : (z8 10 r).1 = ln := by rw [← htrim hc, hln]
 have hrr1 : (z8 10 r).2.1 = rr := by rw [← hrr]; unfold lnR; rw [if_pos hc]
 obtain ⟨fu, rfl⟩ : ∃ f', fu = f' + 1 := ⟨fu - 1, by have := List.length_pos_iff.2 hne; omega⟩
 have hstep : vB (fu + 1) x.rt k i r = match x3 x.rt k ln lays with
   | some (y, kk) => vB fu y kk (i + 1) rr
   | none => (((i + 1 : Nat) : Int), x.rt, k) := by
  rw [vB, if_neg hne, hc, if_pos rfl, hln1, hrr1]
  all_goals (cases x3 x.rt k ln lays <;> rfl)
 refine x5 (k := 43) (args := #[Zp rb 0, .string (mkS ln)]) (Rr := fun v ob' => ∃ b x' k', v = .bool b ∧ RdR rb k' x' ob' ∧ (match x3 x.rt k ln lays with | some (y, kk) => b = true ∧ x'.rt = y ∧ k' = kk | none => b = false)) [3] (xD B rr :: kL b5 ((i + 1 : Nat) : Int) :: kL b4 0 :: fnB b3 rb :: ob) [xD B rr, kL b5 ((i + 1 : Nat) : Int), kL b4 0, fnB b3 rb] ob (fun w hO => hO) (fun w hO => (qTake_any rb k x ln ob w hR (Own.lentR hO) (by omega) (hF.few (by omega)) hI fun w' hw' => hK w' ?_).mono fun e w' ⟨b, x', k', ob', q1, q2, q3, q4⟩ => ⟨_, ob', q1, ⟨b, x', k', rfl, q2, q4⟩, q3⟩) fun v ob' ⟨b, x', k', q1, hR', hm⟩ => ?_
 ·exact (out_lend ((hM0 hO).sublist (List.sublist_append_right _ _)) hw')
 subst q1
 refine x_fin [] (bLv b3 b4 b5 ++ [(28, .bool (!b))]) fun w8 f8 hO8 => ?_
 have hO8' := hO8.past 0 (xD B rr :: kL b5 ((i + 1 : Nat) : Int) :: kL b4 0 :: fnB b3 rb :: ob')
 clear hO8
 cases ht : x3 x.rt k ln lays with
 | none =>
  rw [ht] at hm hstep
  dsimp only at hm
  subst hm
  exact hrefuse w8 f8 x' k' ob' hO8' hR' (by rw [hstep])
 | some yk =>
  obtain ⟨y, kk⟩ := yk
  rw [ht] at hm hstep
  dsimp only at hm hstep
  obtain ⟨rfl, rfl, rfl⟩ := hm
  refine wpIn_cond_false (by rw [xY]; kernel_rfl) (wpIn_skip ⟨kL b5 ((i + 1 : Nat) : Int) :: kL b4 0 :: fnB b3 rb :: ob', ⟨x', k', i + 1, ob', fu, rfl, hR', (take_inv hI ht).1, take_few hF ht, by omega, by omega, ?_⟩, hO8'⟩)
  rw [← hstep]; exact hres
theorem one_round {P : Program} {n l m id : Nat} {f : Nat → Value} {o : Oper} {v : Value} {K : Act → World → Prop} {Q0 : Exit → Act → World → Prop} {w : World} (hw : zP #[o] n f o = true) (hn : noDef o = true) (hr : ∀ w, (execOp (ev n f) o).run P w = .ok (.value v) w) (h : K (Fr n (upd f o.dst v)) w) : (Code.region id #[o] false).wpIn (Fence.wide.inRound l) m P (Exit.then K Q0) (Fr n f) w := by
 refine wpIn_region_list ?_
 show wpListIn (Fence.wide.inRound l) m P #[o] (Exit.then K Q0) [o] (Fr n f) w
 unfold wpListIn
 rw [gE, if_pos hw]
 refine ⟨fun _ _ => trivial, ?_⟩
 rw [Oper.semAt_eq _ _ _ (noDef_is hn), xY, hr, Oper.uponIn_value, gW]
 unfold wpListIn
 exact h
noncomputable abbrev qAs : Oper := (qRg 5).getD 0 default
noncomputable abbrev qSt : Oper := (qRg 10).getD 0 default
theorem qAssign_is : qRF.1 = .region 5 #[qAs] false := by kernel_rfl
theorem qStore_is : qRg 10 = #[qSt] := by kernel_rfl
theorem resA_nil (fu : Nat) (x : Rt) (k i : Nat) : vB fu x k i [] = (0, x, k) := by
 cases fu with
 | zero => rfl
 | succ f => rw [vB, if_pos rfl]
def aLv (b3 b4 b5 B : Nat) : List (Nat × Value) := [(3, .pointer (some ⟨b3, 0, none⟩)), (4, .pointer (some ⟨b4, 0, none⟩)), (5, .pointer (some ⟨b5, 0, none⟩)), (12, .func (.func 138) #[] #[.pointer (some ⟨B, 0, none⟩)])]
theorem qRefused_any (rb : Nat) (x : Rv) (s : List UInt8) (ob : List Blk) (W : World) (hR : RdR rb 0 x ob) (hO : Own (ob.map Blk.b) W W ob) (hx : x.rt = wW) (hs : s.length ≤ 4096) (hK : ∀ w, Own (ob.map Blk.b) W w [] → HasLib w ∧ LyAt w) : YC 41 #[.string (mkS s), tkV rb] W (RefB rb s ob W) := by
 obtain ⟨M, hM⟩ : ∃ M, ob.map Blk.b = M := ⟨_, rfl⟩
 rw [hM] at hO hK
 refine x_enterM hO Tryz.func41 (xN [] fun b3 => zY [] fun b4 => kD 10 [] s [] (fun h => ?_) (fun h => ?_))
 ·refine x_retM [0] 0 (YI 1) fun w hO => ⟨x, 0, ob, by rw [wY, if_pos h], hR, by rw [hM]; exact hO.past 2 ob, fun q => absurd h q⟩
 refine zY [] fun b5 => jX (R := fun v ob => ∃ B, v = .func (.func 138) #[] #[Zp B 0] ∧ ob = [xD B s]) [0] (fun w hO => qLines_any s w) ?_
 rintro v ob2 ⟨B, rfl, rfl⟩
 refine x_range [] (g := .tmp 12) (t := 13) qRF.1 qRF.2 (.seq (.region 10 (qRg 10) false) .ret) (aLv b3 b4 b5 B) (kL b5 0 :: kL b4 0 :: fnB b3 rb :: (ob ++ [xD B s])) fun w f hOw => ?_
 have hO0 : Own M W w (xD B s :: kL b5 0 :: kL b4 0 :: fnB b3 rb :: ob) := qB [] hOw fun p => by
  simp only [List.countP_append, List.countP_cons, List.countP_nil, List.cons_append, List.nil_append]; omega
 clear hOw
 have hb4 : ∀ {D : Nat} {z : Int} {w' : World} {L : List Blk}, Own M W w' L → kL b4 z ∈ L → w'.heap[D]? = some (.deferred (some [])) → D ≠ b4 := fun hO hm hd e => by
  have := hO.held _ hm
  rw [show (kL b4 _).b = b4 from rfl, ← e, hd] at this; cases this
 have hres4 : ev Tryz.f41.ntmps (j6 f (aLv b3 b4 b5 B)) (.tmp 4) = .pointer (some ⟨b4, 0, none⟩) := by kernel_rfl
 refine wp_lines (B := B) (s := s) Kr (RefI rb b3 b4 b5 s) (RefX rb b3 b4 b5 s) (fun p => upd (upd (j6 f (aLv b3 b4 b5 B)) (some 13) (.string (mkS p))) (some 6) (.string (mkS p))) (fun p l w K hk => ?_) (fun r L l Wr hne hrel hOw => ?_) ⟨x, 0, 0, ob, s.length, rfl, hR, by rw [hx]; exact inv_nil, by rw [hx]; exact ⟨Nat.le_refl _, Nat.le_refl _, Nat.le_refl _, fun n hn => by cases hn⟩, by omega, Nat.le_refl _, by rw [hx]⟩ hO0 (by omega) ?_ ?_
 ·have e : ({ tmps := (Fr Tryz.f41.ntmps (j6 f (aLv b3 b4 b5 B))).tmps.setIfInBounds 13 (.string (mkS p)), defers := [] } : Act) = Fr Tryz.f41.ntmps (upd (j6 f (aLv b3 b4 b5 B)) (some 13) (.string (mkS p))) := gW _ _ (some 13) _
  rw [e, qAssign_is]
  refine one_round (v := .string (mkS p)) Kr Kr (fun w => Kr) ?_
  rw [show qAs.dst = some 6 from by kernel_rfl]
  exact hk
 ·have := ref_body hs h hK (upd (j6 f (aLv b3 b4 b5 B)) (some 13) (.string (mkS (lnH r)))) r L l Wr hne hrel hOw
  rw [← qN (bLv b3 b4 b5) (gQ Kr)] at this
  exact this
 ·rintro D L w' hD ⟨x', k', i, ob', fu, rfl, hR', hI', hF', hi, hfu, hres⟩ hO' hdf
  rw [resA_nil] at hres
  have hb0 : wY s = 0 := by unfold wY; rw [if_neg h, ← hres]
  have hr0 : recA s = x'.rt := by unfold recA; rw [← hres]
  show (Code.seq (.region 10 (qRg 10) false) .ret).wp Tryz.prog (mkQ Tryz.prog Tryz.f41 (RefB rb s ob W)) _ w'
  refine wp_seq ?_
  rw [qStore_is]
  obtain ⟨ti, hti, _, hsz, _⟩ := int_made
  refine store_marks (i := 2) (off := 0) (kL b4 0) (YI 0) (T := 3) (t := ti) (p := .tmp 4) (q := .const (YI 0)) Kr Kr Kr rfl hres4 Kr hti (by rw [hsz]; rfl) (by rw [hsz]; exact Nat.le_refl _) (fun u hu => by rw [List.mem_singleton.1 hu]; rfl) hO' fun w2 hO2 hk2 => ?_
  have hO2' := hO2.past 0 (xD B [] :: kL b5 ((i : Nat) : Int) :: kL b4 0 :: fnB b3 rb :: ob')
  clear hO2
  have hd2 : w2.heap[D]? = some (.deferred (some [])) := (hk2 D (hb4 (z := 0) hO' (List.mem_cons_of_mem _ (List.mem_cons_of_mem _ (List.mem_cons_self ..))) hdf)).trans hdf
  have hO3 := hO2'.turn hD hd2 rfl (.deferred none)
  refine wp_ret (leave_mark (v := YI 0) hd2 (pV (ty := 3) (x := kL b4 0) Kr hres4 (hO3.held (kL b4 0) (List.mem_cons_of_mem _ (List.mem_cons_of_mem _ (List.mem_cons_self ..)))) Kr) ?_)
  exact ⟨x', k', ob', by rw [hb0], hR', by rw [hM]; exact hO3.past 4 ob', fun _ _ => ⟨hr0.symm, hF'.up Om⟩⟩
 ·rintro D L w' hD ⟨x', k', i, ob', rfl, hR', hbad⟩ hO' hdf
  have hO3 := hO'.turn hD hdf rfl (.deferred none)
  exact leave_mark (v := YI (wY s)) hdf (pV (ty := 3) (x := kL b4 (wY s)) Kr hres4 (hO3.held (kL b4 (wY s)) (List.mem_cons_of_mem _ (List.mem_cons_self ..))) Kr) (⟨x', k', ob', rfl, hR', by rw [hM]; exact hO3.past 3 ob', fun _ q => absurd q hbad⟩)
end
section
structure BndN (n : Nt) : Prop where
 wh : n.wh.length ≤ 5000
 opt : n.opt.length ≤ 5000
 any : ∀ u ∈ n.any, u.name.length ≤ 5000 ∧ u.rng.length ≤ 5000 ∧ u.fs.length ≤ 5000 ∧ ∀ t ∈ u.fs, t.length ≤ 5000
structure tM (x : Rt) : Prop where
 name : x.name.length ≤ 5000
 pre : x.ver.pre.length ≤ 1000000
 bld : x.ver.build.length ≤ 1000000
 needs : ∀ n ∈ x.needs, BndN n
 bars : ∀ b ∈ x.bars, b.name.length ≤ 5000 ∧ b.rng.length ≤ 5000 ∧ b.wh.length ≤ 5000
 fts : ∀ f ∈ x.fts, f.name.length ≤ 5000 ∧ f.of.length ≤ 5000 ∧ ∀ t ∈ f.of, t.length ≤ 5000
theorem mE {α : Type} {f : α → α} {p : α → Prop} (hf : ∀ y, p y → p (f y)) {l : List α} (h : ∀ y ∈ l, p y) : ∀ y ∈ yP f l, p y := dH hf h
theorem add_bnd {x : Rt} (h : tM x) (kd : Nat) {ps : List (List UInt8)} (hp : ∀ p ∈ ps, p.length ≤ 4096) (hn : ps.length ≤ 5000) (hv : ∀ p : List UInt8, p.length ≤ 4096 → (wM p).pre.length ≤ 1000000 ∧ (wM p).build.length ≤ 1000000) : tM (d7 x kd ps).1 := by
 have hg : ∀ i, (ps.getD i []).length ≤ 4096 := fun i => by
  rw [List.getD_eq_getElem?_getD]
  cases hi : ps[i]? with
  | none => exact Nat.zero_le _
  | some p => exact hp p (List.mem_of_getElem? hi)
 have hg' : ∀ i, (ps.getD i []).length ≤ 5000 := fun i => Nat.le_trans (hg i) (by decide)
 unfold d7
 split
 ·exact ⟨hg' 1, (hv _ (hg 2)).1, (hv _ (hg 2)).2, h.needs, h.bars, h.fts⟩
 ·refine ⟨h.name, h.pre, h.bld, fun n hn => ?_, h.bars, h.fts⟩
  rcases List.mem_append.1 hn with hn | hn
  ·exact h.needs n hn
  ·rw [List.mem_singleton.1 hn]; exact ⟨Nat.zero_le _, Nat.zero_le _, fun u hu => by cases hu⟩
 ·refine ⟨h.name, h.pre, h.bld, mE (f := fun n : Nt => { n with any := n.any ++ [anyW ps (ps.getD 4 [])] }) (fun n hn => ⟨hn.wh, hn.opt, fun u hu => ?_⟩) h.needs, h.bars, h.fts⟩
  rcases List.mem_append.1 hu with hu | hu
  ·exact hn.any u hu
  ·rw [List.mem_singleton.1 hu]
   unfold anyW
   refine ⟨hg' 1, hg' 4, ?_, ?_⟩
   ·show (if ps.getD 2 [] = [45] then ([] : List (List UInt8)) else zD 44 [] (ps.getD 2 [])).length ≤ 5000
    split
    ·exact Nat.zero_le _
    ·have := nG 44 (ps.getD 2 []); have := hg 2; omega
   ·show ∀ t ∈ (if ps.getD 2 [] = [45] then ([] : List (List UInt8)) else zD 44 [] (ps.getD 2 [])), t.length ≤ 5000
    split
    ·exact fun t ht => by cases ht
    ·exact fun t ht => by have := nH 44 (ps.getD 2 []) [] t ht; have := hg 2; simp only [List.length_nil, Nat.zero_add] at *; omega
 ·exact ⟨h.name, h.pre, h.bld, mE (f := fun n : Nt => { n with wh := ps.getD 1 [] }) (fun n hn => ⟨hg' 1, hn.opt, hn.any⟩) h.needs, h.bars, h.fts⟩
 ·exact ⟨h.name, h.pre, h.bld, mE (f := fun n : Nt => { n with opt := ps.getD 1 [] }) (fun n hn => ⟨hn.wh, hg' 1, hn.any⟩) h.needs, h.bars, h.fts⟩
 ·refine ⟨h.name, h.pre, h.bld, h.needs, fun b hb => ?_, h.fts⟩
  rcases List.mem_append.1 hb with hb | hb
  ·exact h.bars b hb
  ·rw [List.mem_singleton.1 hb]; exact ⟨hg' 1, hg' 2, Nat.zero_le _⟩
 ·exact ⟨h.name, h.pre, h.bld, h.needs, mE (f := fun b : Bt => { b with wh := ps.getD 1 [] }) (p := fun b : Bt => b.name.length ≤ 5000 ∧ b.rng.length ≤ 5000 ∧ b.wh.length ≤ 5000) (fun b hb => ⟨hb.1, hb.2.1, hg' 1⟩) h.bars, h.fts⟩
 ·refine ⟨h.name, h.pre, h.bld, h.needs, h.bars, fun f hf => ?_⟩
  rcases List.mem_append.1 hf with hf | hf
  ·exact h.fts f hf
  ·rw [List.mem_singleton.1 hf]
   exact ⟨hg' 1, by show (ps.drop 2).length ≤ 5000; rw [List.length_drop]; omega, fun t ht => Nat.le_trans (hp t (List.mem_of_mem_drop ht)) (by decide)⟩
 ·exact h
theorem bnd_nil : tM wW := ⟨Nat.zero_le _, (by decide), (by decide), (fun n h => by cases h), (fun n h => by cases h), (fun n h => by cases h)⟩
theorem dR (c : UInt8) (s : List UInt8) : (z8 c s).1.length ≤ s.length ∧ (z8 c s).2.1.length ≤ s.length := by
 have h := jV c s
 constructor
 ·omega
 ·cases hq : (z8 c s).2.2 with
  | true => rw [hq, if_pos rfl] at h; omega
  | false =>
   have : ∀ s : List UInt8, (z8 c s).2.2 = false → (z8 c s).2.1 = [] := fun s => by
    induction s with
    | nil => intro _; rfl
    | cons b r ih =>
     unfold z8
     split
     ·intro h; cases h
     ·exact ih
   rw [this s hq]; exact Nat.zero_le _
theorem parV_len (s : List UInt8) : (wM s).pre.length ≤ s.length ∧ (wM s).build.length ≤ s.length := by
 have h1 := dR 43 s
 have h2 := dR 45 (z8 43 s).1
 unfold wM mJ
 dsimp only
 split
 ·exact ⟨Nat.zero_le _, Nat.zero_le _⟩
 ·split
  ·exact ⟨Nat.zero_le _, Nat.zero_le _⟩
  ·split
   ·exact ⟨Nat.le_trans h2.2 h1.1, h1.2⟩
   ·exact ⟨Nat.zero_le _, Nat.zero_le _⟩
theorem pcs_le (b : UInt8) : ∀ (k : Nat) (s : List UInt8), ∀ x ∈ jA b k s, x.length ≤ s.length
 | 0, s => fun x hx => by rw [jA, List.mem_singleton] at hx; rw [hx]; exact Nat.le_refl _
 | k + 1, s => fun x hx => by
  have hc := dR b s
  unfold jA at hx
  split at hx
  ·rcases List.mem_cons.1 hx with rfl | hx
   ·exact hc.1
   ·exact Nat.le_trans (pcs_le b k _ x hx) hc.2
  ·rw [List.mem_singleton.1 hx]; exact Nat.le_refl _
theorem take_kind {x y : Rt} {k kk : Nat} {s : List UInt8} : ∀ {L : List La}, (∀ l ∈ L, 1 ≤ l.kind) → x3 x k s L = some (y, kk) → 1 ≤ kk
 | [], _, e => by cases e
 | l :: r, hL, e => by
  rw [x3] at e
  split at e
  ·split at e
   ·simp only [Option.some.injEq, Prod.mk.injEq] at e
    rw [← e.2]; exact hL l (List.mem_cons_self ..)
   ·cases e
  ·exact take_kind (fun l hl => hL l (List.mem_cons_of_mem _ hl)) e
theorem lays_kind : ∀ l ∈ lays, 1 ≤ l.kind := by decide
theorem resA_kind : ∀ (f : Nat) (x : Rt) (k i : Nat) (r : List UInt8), (vB f x k i r).1 = 0 → r.length ≤ f → (1 ≤ k ∨ r ≠ []) → 1 ≤ (vB f x k i r).2.2
 | 0, x, k, i, r, _, hr, h => by
  rcases h with h | h
  ·exact h
  ·exact absurd (List.eq_nil_of_length_eq_zero (Nat.le_zero.1 hr)) h
 | f + 1, x, k, i, r, h0, hr, h => by
  rw [vB] at h0 ⊢
  by_cases hn : r = []
  ·rw [if_pos hn]
   rcases h with h | h
   ·exact h
   ·exact absurd hn h
  ·rw [if_neg hn] at h0 ⊢
   have hl := jV 10 r
   cases hq : (z8 10 r).2.2 with
   | false => rw [hq, if_neg Bool.false_ne_true] at h0; exact absurd h0 (by show ((i + 1 : Nat) : Int) ≠ 0; omega)
   | true =>
    rw [hq, if_pos rfl] at h0 hl
    rw [if_pos rfl]
    cases ht : x3 x k (z8 10 r).1 lays with
    | none => rw [ht] at h0; exact absurd h0 (by show ((i + 1 : Nat) : Int) ≠ 0; omega)
    | some yk =>
     obtain ⟨y, kk⟩ := yk
     rw [ht] at h0
     exact resA_kind f y kk (i + 1) _ h0 Om (.inl (take_kind lays_kind ht))
theorem lays_few : ∀ l ∈ lays, l.opn = true → l.parts ≤ 5 := by decide
theorem take_bnd {x y : Rt} {k kk : Nat} {s : List UInt8} (h : tM x) (hs : s.length ≤ 4096) : ∀ {L : List La}, (∀ l ∈ L, l.opn = true → l.parts ≤ 5) → x3 x k s L = some (y, kk) → tM y
 | [], _, e => by cases e
 | l :: r, hL, e => by
  rw [x3] at e
  split at e
  ·split at e
   ·simp only [Option.some.injEq, Prod.mk.injEq] at e
    rw [← e.1]
    refine add_bnd h _ (fun p hp => ?_) ?_ fun p hp => ?_
    ·unfold yW at hp
     split at hp
     ·exact Nat.le_trans (pcs_le _ _ _ p hp) hs
     ·have := nH 32 s [] p hp; simp only [List.length_nil, Nat.zero_add] at this; omega
    ·unfold yW
     split
     ·rename_i ho
      have := (wL 32 (l.parts - 1) s).2; have := hL l (List.mem_cons_self ..) ho; omega
     ·have := nG 32 s; omega
    ·have := parV_len p; omega
   ·cases e
  ·exact take_bnd h hs (fun l hl => hL l (List.mem_cons_of_mem _ hl)) e
theorem resA_bnd : ∀ (f : Nat) (x : Rt) (k i : Nat) (r : List UInt8), tM x → r.length ≤ 4096 → tM (vB f x k i r).2.1
 | 0, x, k, i, r, h, _ => h
 | f + 1, x, k, i, r, h, hr => by
  have hc := dR 10 r
  rw [vB]
  split
  ·exact h
  ·split
   ·split
    ·rename_i y kk ht
     exact resA_bnd f y kk (i + 1) _ (take_bnd h Om lays_few ht) Om
    ·exact h
   ·exact h
theorem resA_ge : ∀ (f : Nat) (x : Rt) (k i : Nat) (r : List UInt8), 0 ≤ (vB f x k i r).1
 | 0, x, k, i, r => Int.le_refl _
 | f + 1, x, k, i, r => by
  rw [vB]
  split
  ·exact Int.le_refl _
  ·split
   ·split
    ·exact resA_ge f _ _ _ _
    ·exact Int.natCast_nonneg _
   ·exact Int.natCast_nonneg _
theorem recA_bnd {s : List UInt8} (hs : s.length ≤ 4096) : tM (recA s) := resA_bnd _ _ _ _ _ bnd_nil hs
theorem parse_is {s : List UInt8} (hs : s.length ≤ 4096) : jI s = if wY s ≠ 0 then (wW, 2, wY s) else if (kR (recA s)).1 ≠ 0 then (wW, (kR (recA s)).1, 0) else (recA s, 0, 0) := by
 unfold jI
 rw [if_neg Om]
 by_cases h : s = []
 ·subst h; rfl
 have hr := resA_read s.length wW 0 0 s inv_nil (Nat.le_refl _)
 dsimp only at hr
 have hb : wY s = (vB s.length wW 0 0 s).1 := by unfold wY; rw [if_neg h]
 have e0 : stg 0 = 0 := rfl
 rw [e0] at hr
 by_cases hz : wY s = 0
 ·obtain ⟨q1, q2, q3⟩ := hr.1 (hb ▸ hz)
  rw [if_neg (fun q => q hz)]
  rw [q2]
  dsimp only
  rw [if_pos q3]
  unfold doneS
  dsimp only
  have hk : (vB s.length wW 0 0 s).2.2 ≠ 0 := by
   have := resA_kind s.length wW 0 0 s (hb ▸ hz) (Nat.le_refl _) (.inr h); omega
  rw [if_neg (fun q => hk ((stg_zero q1.le).1 q))]
  rfl
 ·rw [if_pos hz]
  rcases hr.2 (hb ▸ hz) with ⟨q1, q2⟩ | ⟨⟨y, q1⟩, q2, q3⟩
  ·rw [q1]; dsimp only; rw [← q2, hb]
  ·rw [q1]; dsimp only; rw [if_neg q2, hb, q3]; simp
end
section
set_option linter.unnecessarySimpa false
theorem RdQ.nso {x : Rv} {o1 oa og oi o4 o7 o8 : List Blk} (h : RdQ x o1 oa og oi o4 o7 o8) : NsO x.nA x.nc x.needs o1 (oi ++ (oa ++ og)) := by
 refine ⟨h.needs.top, fun y hy => ?_⟩
 rcases h.needs.split with ⟨e, _⟩ | ⟨ini, n, e, hi, hw, hf⟩
 ·rw [e] at hy; cases hy
 ·rw [e] at hy
  rcases List.mem_append.1 hy with hy | hy
  ·obtain ⟨o, q1, q2⟩ := hi y hy
   exact ⟨o, q1, fun b hb => List.mem_append_left _ (q2 b hb)⟩
  ·rw [List.mem_singleton.1 hy]
   exact ⟨oa ++ og, ⟨oa, og, rfl, hw, hf⟩, fun b hb => List.mem_append_right _ hb⟩
theorem rec_inn {x : Rv} {o1 o2 o4 o7 o8 L : List Blk} {M : List Nat} {W w : World} (h1 : NsO x.nA x.nc x.needs o1 o2) (h4 : Sl 54 3 (.slice x.bA x.bars.length x.bc) x.bars.length (x.bars.flatMap bvC) o4) (h7 : FtO x.fA x.fc x.fts o7 o8) (hO : Own M W w L) (s1 : ∀ b ∈ o1, b ∈ L) (s2 : ∀ b ∈ o2, b ∈ L) (s4 : ∀ b ∈ o4, b ∈ L) (s7 : ∀ b ∈ o7, b ∈ L) (s8 : ∀ b ∈ o8, b ∈ L) (hB : tM x.rt) (hF : FewR x.rt 4096) : RcIn w w.heap.size x := by
 obtain ⟨r1, r2⟩ := h1.reads hO s1 s2
 have hN : ∀ n ∈ x.needs, BndN n.nt := fun n hn => hB.needs n.nt (List.mem_map.2 ⟨n, hn, rfl⟩)
 have hA : ∀ n ∈ x.needs, ∀ u ∈ n.any, u.name.length ≤ 5000 ∧ u.rng.length ≤ 5000 ∧ u.fs.length ≤ 5000 ∧ ∀ t ∈ u.fs, t.length ≤ 5000 := fun n hn u hu => (hN n hn).any u.wt (List.mem_map.2 ⟨u, hu, rfl⟩)
 have hBr : ∀ b ∈ x.bars, b.name.length ≤ 5000 ∧ b.rng.length ≤ 5000 ∧ b.wh.length ≤ 5000 := fun b hb => hB.bars b.bt (List.mem_map.2 ⟨b, hb, rfl⟩)
 have hFt : ∀ f ∈ x.fts, f.name.length ≤ 5000 ∧ f.of.length ≤ 5000 ∧ ∀ t ∈ f.of, t.length ≤ 5000 := fun f hf => hB.fts f.ft (List.mem_map.2 ⟨f, hf, rfl⟩)
 have l1 : x.needs.length ≤ 4096 := by have := hF.n; unfold Rv.rt at this; simpa using this
 have l2 : x.bars.length ≤ 4096 := by have := hF.b; unfold Rv.rt at this; simpa using this
 have l3 : x.fts.length ≤ 4096 := by have := hF.f; simp only [Rv.rt, kC] at this; simpa using this
 refine ⟨r1, r2, fun n hn u hu => ?_, Sl.reads h4 rfl hO s4, ⟨Sl.reads h7.top rfl hO s7, fun f hf => ?_, by omega, fun f hf => (hFt f hf).2.1, fun f hf => by have := (hFt f hf).1; omega, fun f hf t ht => by have := (hFt f hf).2.2 t ht; omega⟩, by omega, fun n hn => ?_, fun n hn u hu => (hA n hn u hu).2.2.1, by omega, ⟨by have := hB.name; show x.name.length ≤ _; exact Nat.le_trans this (by decide), hB.pre, hB.bld⟩, fun n hn => ⟨Nat.le_trans (hN n hn).wh (by decide), Nat.le_trans (hN n hn).opt (by decide)⟩, fun n hn u hu => ⟨by have := (hA n hn u hu).1; omega, by have := (hA n hn u hu).2.1; omega, fun t ht => by have := (hA n hn u hu).2.2.2 t ht; omega⟩, fun b hb => by have := hBr b hb; exact ⟨by omega, by omega, by omega⟩⟩
 ·obtain ⟨o, ⟨⟨p1, p2, rfl, hp, he⟩⟩, ho⟩ := h1.each n hn
  obtain ⟨o', q1, q2⟩ := he u hu
  exact SlT.reads q1 rfl hO fun b hb => s2 b (ho b (List.mem_append_right _ (q2 b hb)))
 ·obtain ⟨o, ho, hs⟩ := h7.each f hf
  exact SlT.reads ho rfl hO fun b hb => s8 b (hs b hb)
 ·have := hF.a n.nt (List.mem_map.2 ⟨n, hn, rfl⟩)
  unfold Nv.nt at this
  simp only [List.length_map] at this
  omega
theorem fin_cell3 {M : List Nat} {P : Program} {n : Nat} {W : World} {L : List Blk} {f : Nat → Value} {fn : Func} {R : Ending → World → Prop} {p u t : Tmp} {ty : TypeId} (i : Nat) (x : Blk) (v v' v2 : Value) (hres : fn.results = #[.cell p ty, .tmp u, .tmp t]) (hL : L[i]? = some x) (hp : ev n f (.tmp p) = .pointer (some ⟨x.b, 0, none⟩)) (hv : yN P ty x.cs 0 = some v) (hv' : ev n f (.tmp u) = v') (hv2 : ev n f (.tmp t) = v2)
  (hR : ∀ w, Own M W w L → R (.returned (.tuple #[v, v', v2])) w) : Fin M n W (bodyPost P fn R) .ret L f := ⟨fun w hO => by
 refine bodyPost_ret (v := .tuple #[v, v', v2]) ?_ rfl (hR w hO)
 have e : (Fr n f).tmps.getD p undef = .pointer (some ⟨x.b, 0, none⟩) := (xR n f p).trans hp
 have hr := yR hv (hO.get hL)
 have e' : (Fr n f).tmps[p]?.getD undef = .pointer (some ⟨x.b, 0, none⟩) := by simpa using e
 have e2 : (Fr n f).tmps.getD u undef = v' := (xR n f u).trans hv'
 have e2' : (Fr n f).tmps[u]?.getD undef = v' := by simpa using e2
 have e3 : (Fr n f).tmps.getD t undef = v2 := (xR n f t).trans hv2
 have e3' : (Fr n f).tmps[t]?.getD undef = v2 := by simpa using e3
 simp [results, hres, e', e2', e3', asAddr, hr]⟩
section
variable {M : List Nat} {P : Program} {n : Nat} {W : World} {Q : Exit → Act → World → Prop} {c : Xc}
theorem x_retc3 {fn : Func} {R : Ending → World → Prop} (h : List Nat) (i : Nat) (v v' v2 : Value) (hR : ∀ w, Own M W w (xgo P n nS h c).L → R (.returned (.tuple #[v, v', v2])) w) (hkt : (xgl P n nS h c, ((xgo P n nS h c).top, (xgo P n nS h c).k, fn.results, (xgo P n nS h c).L[i]?, ev n (xgo P n nS h c).f (.tmp (xRt fn 0)), yN P (xRy fn 0) (vL (xgo P n nS h c).L i).cs 0, ev n (xgo P n nS h c).f (.tmp (xRt fn 1)), ev n (xgo P n nS h c).f (.tmp (xRt fn 2)))) = (xgr P n nS h c, (.fin .ret, [], #[.cell (xRt fn 0) (xRy fn 0), .tmp (xRt fn 1), .tmp (xRt fn 2)], some (vL (xgo P n nS h c).L i), .pointer (some ⟨(vL (xgo P n nS h c).L i).b, 0, none⟩), some v, v', v2)) := by kernel_rfl) : zI M P n W (bodyPost P fn R) c := by
 obtain ⟨hk, ht⟩ := Prod.mk.inj hkt
 refine zQ h c hk ?_
 generalize xgo P n nS h c = d at hR ht ⊢
 obtain ⟨top, kk, L, f⟩ := d
 simp only [Prod.mk.injEq] at ht
 obtain ⟨rfl, rfl, e3, e4, e5, e6, e7, e8⟩ := ht
 exact ⟨fun _ => fin_cell3 i _ v v' v2 e3 e4 e5 e6 e7 e8 hR⟩
end
structure ParB (s : List UInt8) (W : World) (e : Ending) (w' : World) : Prop where
 ex : ∃ x ob', e = .returned (.tuple #[rvV x, YI (jI s).2.1, YI (jI s).2.2]) ∧ x.rt = (jI s).1 ∧ RecO x ob' ∧ tM x.rt ∧ FewR x.rt 4096 ∧ Own [] W w' ob'
def rv0 : Rv := ⟨[], 0, 0, 0, [], [], none, 0, [], none, 0, [], none, 0, []⟩
theorem rv0_rt : rv0.rt = wW := rfl
theorem rec0 : RecO rv0 [] := ⟨⟨[], [], [], [], [], rfl, NsO.nil, Sl.nil _ _, FtO.nil⟩⟩
theorem few0 : FewR wW 4096 := ⟨Nat.zero_le _, Nat.zero_le _, Nat.zero_le _, (fun n h => by cases h)⟩
theorem par0 {s : List UInt8} {W w : World} {z k : Int} (h : jI s = (wW, z, k)) (hO : Own [] W w []) : ParB s W (.returned (.tuple #[rvV rv0, YI z, YI k])) w :=
 ⟨rv0, [], by rw [h], by rw [h, rv0_rt], rec0, by rw [rv0_rt]; exact bnd_nil, by rw [rv0_rt]; exact few0, hO⟩
theorem rdq0 : RdQ rv0 [] [] [] [] [] [] [] := ⟨⟨Sl.nil _ _, .inl ⟨rfl, rfl, rfl⟩⟩, Sl.nil _ _, FtO.nil⟩
theorem qParse_any (s : List UInt8) (W : World) (hs : s.length ≤ 1000000) (hK : RecLib W) (hL : LyAt W) : YC 20 #[.string (mkS s)] W (ParB s W) := by
 refine zL Tryz.func20 (zY [] fun b2 => y9 11 [] ((s.length : Int) > 4096) (fun h11 => ?_) (fun h11 => ?_))
 ·refine x_retc3 [0] 0 (rvV rv0) (YI 3) (YI 0) fun w hO => par0 ?_ hO.no
  unfold jI; rw [if_pos Om]
 have hs4 : s.length ≤ 4096 := by omega
 have hread := parse_is hs4
 have hcl : ∀ w, YC 42 #[.string (mkS s)] w (YR (.string (mkS s)) w) := fun w => vR s w Om
 refine zY [] fun b5 => zE (v := .string (mkS s)) [] (fun w hO => hcl w) (x_val 15 [] (tkV b5) (fun w => Kr) ?_)
 refine x5 (k := 41) (args := #[.string (mkS s), tkV b5]) (Rr := fun v ob' => ∃ x' k', v = YI (wY s) ∧ RdR b5 k' x' ob' ∧ (s ≠ [] → wY s = 0 → x'.rt = recA s ∧ FewR x'.rt 4096)) [] (rdB rv0 0 b5 :: [rcB rv0 b2]) [rcB rv0 b2] [rdB rv0 0 b5] (fun w hO => hO.swap) (fun w hO => ?_) fun v ob' ⟨x', k', q1, hR', hx⟩ => ?_
 ·have hb5 : ∀ k ∈ [rdB rv0 0 b5].map Blk.b, W.heap.size ≤ k := fun k hk => by
   have h5 := hO.base (rdB rv0 0 b5) (by simp)
   rcases h5 with h5 | h5
   ·rw [List.map_singleton, List.mem_singleton] at hk; rw [hk]; exact h5
   ·cases h5
  refine (qRefused_any b5 rv0 s [rdB rv0 0 b5] w ⟨[], [], [], [], [], [], [], rfl, rdq0⟩ (Own.lentR hO) rv0_rt hs4 fun w' hw' => ?_).mono fun e w' ⟨x', k', ob', q1, q2, q3, q4⟩ => ⟨_, ob', q1, ⟨x', k', rfl, q2, q4⟩, q3⟩
  have hb : Below W.heap.size W w' := hO.below.trans (hw'.belowB hb5 hO.below.size)
  exact ⟨hK.lib.on hb, hL.on hb⟩
 subst q1
 refine y9 18 [] (wY s > 0) (fun h18 => ?_) (fun h18 => ?_)
 ·refine x_retc3 [0] 0 (rvV rv0) (YI 2) (YI (wY s)) fun w hO => par0 ?_ hO.no
  rw [hread, if_pos Om]
 have hge : 0 ≤ wY s := by
  unfold wY
  split
  ·omega
  ·exact resA_ge _ _ _ _ _
 have hz : wY s = 0 := by omega
 have hne : s ≠ [] := fun e => by rw [e] at hz; exact absurd hz (by decide)
 obtain ⟨hrt, hF⟩ := hx hne hz
 have hB : tM x'.rt := hrt ▸ recA_bnd hs4
 rw [if_neg (fun q => q hz), ← hrt] at hread
 obtain ⟨o1, oa, og, oi, o4, o7, o8, rfl, hQ⟩ := hR'
 obtain ⟨T, hT⟩ : ∃ T, o1 ++ zU oa og oi o4 o7 o8 = T := ⟨_, rfl⟩
 have sub : ∀ b, (b ∈ o1 ∨ b ∈ oi ++ (oa ++ og) ∨ b ∈ o4 ∨ b ∈ o7 ∨ b ∈ o8) → b ∈ T := fun b hb => by
  rw [← hT]; unfold zU; simp only [List.mem_append] at hb ⊢; grind
 rw [hT]
 obtain ⟨c, hc⟩ : ∃ c, kR x'.rt = c := ⟨_, rfl⟩
 have hck : ∀ w, Own [] W w T → YC 14 #[rvV x'] w (YR (.tuple #[YI c.1, YI c.2]) w) := fun w hO => hc ▸ qCheck_any x' w (rec_inn hQ.nso hQ.bars hQ.fts hO (fun b hb => sub b (.inl hb)) (fun b hb => sub b (.inr (.inl hb))) (fun b hb => sub b (.inr (.inr (.inl hb)))) (fun b hb => sub b (.inr (.inr (.inr (.inl hb))))) (fun b hb => sub b (.inr (.inr (.inr (.inr hb))))) hB hF) (hK.on hO.below)
 rw [hc] at hread
 refine zE (v := .tuple #[YI c.1, YI c.2]) [1] (fun w hO => hck w (hO.past 2 T)) (d9 28 [] (c.1 = 0) (fun h28 => ?_) (fun h28 => ?_))
 ·refine x_retc3 [1, 0] 0 (rvV x') (YI 0) (YI 0) fun w hO => ?_
  rw [if_neg (fun q => q h28)] at hread
  refine ⟨x', o4 ++ (o1 ++ (oi ++ (oa ++ og))) ++ (o7 ++ o8), by rw [hread], by rw [hread], ⟨⟨o1, _, o4, o7, o8, rfl, hQ.nso, hQ.bars, hQ.fts⟩⟩, hB, hF, qB [] (hO.past 2 T) fun p => ?_⟩
  rw [← hT]
  simp only [zU, List.countP_append, List.countP_cons, List.countP_nil, List.cons_append, List.nil_append]; omega
 ·refine x_retc3 [0] 0 (rvV rv0) (YI c.1) (YI 0) fun w hO => par0 ?_ hO.no
  rw [hread, if_pos h28]
end
section
set_option linter.unnecessarySimpa false
theorem gI {α β : Type} {f : α → β} {l m : List α} {i : Nat} (hi : i < l.length) (hj : i < m.length) (h : f l[i] ≠ f m[i]) : l.map f ≠ m.map f := fun e => h (by
 have h1 : (l.map f)[i]'(by rw [List.length_map]; exact hi) = f l[i] := List.getElem_map ..
 have h2 : (m.map f)[i]'(by rw [List.length_map]; exact hj) = f m[i] := List.getElem_map ..
 rw [← h1, ← h2]; exact List.getElem_of_eq e _)
theorem jB {α β : Type} {f : α → β} {l m : List α} {i : Nat} (hi : i < l.length) (hj : i < m.length) (h : (l.map f).take i = (m.map f).take i) (e : f l[i] = f m[i]) : (l.map f).take (i + 1) = (m.map f).take (i + 1) := by
 rw [List.take_succ_eq_append_getElem (by rw [List.length_map]; exact hi), List.take_succ_eq_append_getElem (by rw [List.length_map]; exact hj), h, List.getElem_map, List.getElem_map, e]
theorem bI {α β : Type} {f : α → β} {l m : List α} {i : Nat} (hl : l.length = m.length) (hi : l.length ≤ i) (h : (l.map f).take i = (m.map f).take i) : l.map f = m.map f := by
 rwa [List.take_of_length_le (by rw [List.length_map]; exact hi), List.take_of_length_le (by rw [List.length_map]; omega)] at h
theorem r12sameWish_any (x y : Wv) (W : World) (hx : Reads yE W W.heap.size x.A x.fs) (hy : Reads yE W W.heap.size y.A y.fs) (hn : x.fs.length ≤ 1000000) (hm : y.fs.length ≤ 1000000) : YC 104 #[wvV x, wvV y] W (YR (.bool (decide (x.wt = y.wt))) W) := by
 have hno : ∀ w, Below W.heap.size W w → x.wt ≠ y.wt → (Ending.returned (.bool false) = .returned (.bool (decide (x.wt = y.wt)))) ∧ Below W.heap.size W w := fun w hb h => ⟨by rw [decide_eq_false h], hb⟩
 have hT : ∀ w, Below W.heap.size W w → YC 47 #[.slice x.A x.fs.length x.cap, .slice y.A y.fs.length y.cap] w (YR (.bool (decide (x.fs = y.fs))) w) := fun w hb => r1Texts_any x.A y.A x.cap y.cap x.fs y.fs w (hx.on hb hb.size) (hy.on hb hb.size) hn hm
 refine zL Tryz.func104 (xN [] fun b2 => xN [] fun b3 => kD 9 [1, 0] x.name y.name (fun h1 => ?_) (fun h1 => ?_))
 rotate_left
 ·exact zB [] Z5 fun w hO => hno w hO.below fun e => h1 (congrArg Wt.name e)
 refine kD 15 [1, 0] x.rng y.rng (fun h2 => ?_) (fun h2 => ?_)
 rotate_left
 ·exact zB [] Z5 fun w hO => hno w hO.below fun e => h2 (congrArg Wt.rng e)
 refine tQ 22 [1, 0] (x.bare == y.bare) (fun h3 => ?_) (fun h3 => ?_)
 rotate_left
 ·exact zB [] Z5 fun w hO => hno w hO.below fun e => by
   have : x.bare = y.bare := congrArg Wt.bare e
   rw [this] at h3; simp at h3
 refine zE (v := .bool (decide (x.fs = y.fs))) [1, 0] (fun w hO => hT w hO.below) (zB [] (.bool (decide (x.fs = y.fs))) fun w hO => ⟨?_, hO.below⟩)
 congr 2
 refine decide_eq_decide.2 ⟨fun h4 => ?_, fun e => congrArg Wt.fs e⟩
 unfold Wv.wt
 rw [h1, h2, h4, beq_iff_eq.1 h3]
theorem r12sameNeed_any (x y : Nv) (W : World) (hx : Reads wvC W W.heap.size x.A x.any) (hy : Reads wvC W W.heap.size y.A y.any) (hxf : ∀ u ∈ x.any, Reads yE W W.heap.size u.A u.fs) (hyf : ∀ u ∈ y.any, Reads yE W W.heap.size u.A u.fs) (hn : x.any.length ≤ 5000) (hm : y.any.length ≤ 5000) (hxn : ∀ u ∈ x.any, u.fs.length ≤ 5000) (hyn : ∀ u ∈ y.any, u.fs.length ≤ 5000) : YC 46 #[nvV x, nvV y] W (YR (.bool (decide (x.nt = y.nt))) W) := by
 have hno : ∀ w, Below W.heap.size W w → x.nt ≠ y.nt → (Ending.returned (.bool false) = .returned (.bool (decide (x.nt = y.nt)))) ∧ Below W.heap.size W w := fun w hb h => ⟨by rw [decide_eq_false h], hb⟩
 refine zL Tryz.func46 (xN [] fun b2 => xN [] fun b3 => vY 10 [1, 0] x.wh y.wh (fun h1 => ?_) (fun h1 => ?_))
 rotate_left
 ·exact zB [] Z5 fun w hO => hno w hO.below fun e => h1 (congrArg Nt.wh e)
 refine vY 16 [1, 0] x.opt y.opt (fun h2 => ?_) (fun h2 => ?_)
 rotate_left
 ·exact zB [] Z5 fun w hO => hno w hO.below fun e => h2 (congrArg Nt.opt e)
 refine d9 25 [1, 0] ((x.any.length : Int) = (y.any.length : Int)) (fun h3 => ?_) (fun h3 => ?_)
 rotate_left
 ·exact zB [] Z5 fun w hO => hno w hO.below fun e => h3 (by
   have := congrArg (fun n : Nt => n.any.length) e
   simp only [Nv.nt, List.length_map] at this; omega)
 have hl : x.any.length = y.any.length := by omega
 refine yY (α := Nat) (fun i => [(2, Zp b2 0), (3, Zp b3 0), (5, YI (i : Int))]) (fun _ => [⟨b3, #[.slice y.A y.any.length y.cap, .string (mkS y.wh), .string (mkS y.opt)], 57⟩, ⟨b2, #[.slice x.A x.any.length x.cap, .string (mkS x.wh), .string (mkS x.opt)], 57⟩]) (fun i m => (i ≤ x.any.length ∧ (x.any.map Wv.wt).take i = (y.any.map Wv.wt).take i) ∧ m = x.any.length - i) 0 x.any.length [] ⟨⟨Nat.zero_le _, rfl⟩, rfl⟩ ?_
 rintro i mm g kk ⟨⟨hi, heq⟩, hmm⟩ nx hkk
 subst hkk
 refine y9 31 [1] ((i : Int) < (x.any.length : Int)) (fun h31 => ?_) (fun h31 => ?_)
 rotate_left
 ·refine zB [] Z4 fun w hO => ⟨?_, hO.below⟩
  have he := bI hl Om heq
  rw [decide_eq_true (show x.nt = y.nt by unfold Nv.nt; rw [he, h1, h2])]
 have hj : i < x.any.length := by omega
 have hj2 : i < y.any.length := by omega
 have hux : x.any[i] ∈ x.any := List.getElem_mem hj
 have huy : y.any[i] ∈ y.any := List.getElem_mem hj2
 have hst := jB hj hj2 heq
 have hdf := gI (f := Wv.wt) hj hj2
 obtain ⟨eb, eo, hA, hel⟩ := hx.elem dC i hj
 obtain ⟨fb, fo, hA2, hel2⟩ := hy.elem dC i hj2
 have h1' : ∀ w, Below W.heap.size W w → (loadVar 60 ⟨eb, eo + i * 4 + 0, none⟩).run Tryz.prog w = .ok (wvV x.any[i]) w := fun w hw => hel w hw _ 0 _ Kr
 have h2' : ∀ w, Below W.heap.size W w → (loadVar 60 ⟨fb, fo + i * 4 + 0, none⟩).run Tryz.prog w = .ok (wvV y.any[i]) w := fun w hw => hel2 w hw _ 0 _ Kr
 have hru := hxf _ hux; have hrv := hyf _ huy; have hnu := hxn _ hux; have hnv := hyn _ huy
 generalize x.any[i] = u at *
 generalize y.any[i] = v at *
 have hc : ∀ w, Below W.heap.size W w → YC 104 #[wvV u, wvV v] w (YR (.bool (decide (u.wt = v.wt))) w) := fun w hb => r12sameWish_any u v w (hru.on hb hb.size) (hrv.on hb hb.size) Om Om
 refine y7 37 [1] hA x.any.length x.cap i 4 hj (zX 38 [] 60 eb (eo + i * 4 + 0) (wvV u) (fun w hO => h1' w hO.below) (y7 42 [0] hA2 y.any.length y.cap i 4 hj2 (zX 43 [] 60 fb (fo + i * 4 + 0) (wvV v) (fun w hO => h2' w hO.below) (zE (v := .bool (decide (u.wt = v.wt))) [] (fun w hO => hc w hO.below) (bS 44 (u.wt = v.wt) (fun h => ?_) (fun h => ?_))))))
 ·exact x_i 33 [] ((i + 1 : Nat) : Int) (nx (i + 1) (x.any.length - (i + 1)) [] Om ⟨⟨hj, hst h⟩, rfl⟩ Kr Kr)
 ·exact zB [] Z5 fun w hO => hno w hO.below fun e => hdf h (congrArg Nt.any e)
theorem op_ne_ver {ρ : Operand → Value} {o : Oper} {t' : TypeId} {x y : Operand} {u v : Ver} {b : Bool} (ho : o.op = .binOp .neq 23 x y t') (hx : ρ x = kV u) (hy : ρ y = kV v) (hb : decide (u = v) = b) (w : World) : (execOp ρ o).run Tryz.prog w = .ok (.value (.bool (!b))) w :=
 run_ne_op ho hx hy guard_ver (fun w => hb ▸ eq_ver u v 9998 w) w
theorem bar_dec (u v : Bv) : decide (u.bt = v.bt) = (decide (u.name = v.name) && (decide (u.rng = v.rng) && decide (u.wh = v.wh))) := by
 obtain ⟨a, b, c⟩ := u
 obtain ⟨a', b', c'⟩ := v
 simp only [Bv.bt, Bt.mk.injEq, Bool.decide_and]
theorem eq_bar (u v : Bv) (d : Nat) (w : World) : (Op.equalIn (d + 1 + 1) 54 (bvV u) (bvV v)).run Tryz.prog w = .ok (decide (u.bt = v.bt)) w := by
  have h := eq_agg (P := Tryz.prog) (d := d + 1) (t := 54) (xs := (bvV u).cells) (ys := (bvV v).cells) (bs := [(mkS u.name).toList == (mkS v.name).toList, (mkS u.rng).toList == (mkS v.rng).toList, (mkS u.wh).toList == (mkS v.wh).toList]) Tryz.underlying54 Kr
    ⟨by decide, ⟨.string (mkS u.name), .string (mkS v.name), fun w => ⟨by kernel_rfl, by kernel_rfl, run_equalIn_string w d _ _ _ Tryz.underlying9⟩⟩,
     by decide, ⟨.string (mkS u.rng), .string (mkS v.rng), fun w => ⟨by kernel_rfl, by kernel_rfl, run_equalIn_string w d _ _ _ Tryz.underlying9⟩⟩,
     by decide, ⟨.string (mkS u.wh), .string (mkS v.wh), fun w => ⟨by kernel_rfl, by kernel_rfl, run_equalIn_string w d _ _ _ Tryz.underlying9⟩⟩, trivial⟩ w
  rw [all3, bE, bE, bE, ← bar_dec] at h
  exact h
theorem guard_bar : Tryz.prog.eqGuardType Tryz.prog.depth 54 = false := by kernel_rfl
theorem op_ne_bar {ρ : Operand → Value} {o : Oper} {t' : TypeId} {x y : Operand} {u v : Bv} {b : Bool} (ho : o.op = .binOp .neq 54 x y t') (hx : ρ x = bvV u) (hy : ρ y = bvV v) (hb : decide (u.bt = v.bt) = b) (w : World) : (execOp ρ o).run Tryz.prog w = .ok (.value (.bool (!b))) w :=
 run_ne_op ho hx hy guard_bar (fun w => hb ▸ eq_bar u v 9998 w) w
section
variable {M : List Nat} {n : Nat} {W : World} {Q : Exit → Act → World → Prop} {c : Xc}
theorem x_nea {α : Type} {p : α → α → Prop} [∀ u v, Decidable (p u v)] (T : TypeId) (enc : α → Value) (hrun : ∀ {ρ : Operand → Value} {o : Oper} {t' : TypeId} {x y : Operand} {u v : α} {b : Bool}, o.op = .binOp .neq T x y t' → ρ x = enc u → ρ y = enc v → decide (p u v) = b → ∀ w, (execOp ρ o).run Tryz.prog w = .ok (.value (.bool (!b))) w)
  (d : Nat) (h : List Nat) (u v : α) (h1 : p u v → zI M Tryz.prog n W Q ((xgo Tryz.prog n (d + 50000) h c).put (.bool false))) (h2 : ¬ p u v → zI M Tryz.prog n W Q ((xgo Tryz.prog n (d + 50000) h c).put (.bool true)))
  (hkt : (xgl Tryz.prog n (d + 50000) h c, xW n (xgo Tryz.prog n (d + 50000) h c), (xO (xgo Tryz.prog n (d + 50000) h c)).op, ev n (xgo Tryz.prog n (d + 50000) h c).f (oX (xO (xgo Tryz.prog n (d + 50000) h c))), ev n (xgo Tryz.prog n (d + 50000) h c).f (oY (xO (xgo Tryz.prog n (d + 50000) h c)))) = (xgr Tryz.prog n (d + 50000) h c, true, .binOp .neq T (oX (xO (xgo Tryz.prog n (d + 50000) h c))) (oY (xO (xgo Tryz.prog n (d + 50000) h c))) (oU (xO (xgo Tryz.prog n (d + 50000) h c))), enc u, enc v) := by kernel_rfl) : zI M Tryz.prog n W Q c := by
 simp only [Prod.mk.injEq] at hkt
 obtain ⟨hk, e1, e2, e3, e4⟩ := hkt
 by_cases hp : p u v
 ·exact zQ h c hk (qR e1 (fun w => hrun e2 e3 e4 (decide_eq_true hp) w) (h1 hp))
 ·exact zQ h c hk (qR e1 (fun w => hrun e2 e3 e4 (decide_eq_false hp) w) (h2 hp))
end
theorem r12Same_any (x y : Rv) (W : World) (hx : RcSm W W.heap.size x) (hy : RcSm W W.heap.size y) : YC 22 #[rvV x, rvV y] W (YR (.bool (decide (x.rt = y.rt))) W) := by
 have hno : ∀ w, Below W.heap.size W w → x.rt ≠ y.rt → (Ending.returned (.bool false) = .returned (.bool (decide (x.rt = y.rt)))) ∧ Below W.heap.size W w := fun w hb h => ⟨by rw [decide_eq_false h], hb⟩
 have hxn := hx.nn; have hxb := hx.nb; have hxf := hx.fts.n
 refine zL Tryz.func22 (xN [] fun b2 => xN [] fun b3 => vY 12 [1, 0] x.name y.name (fun h1 => ?_) (fun h1 => ?_))
 rotate_left
 ·exact zB [] Z5 fun w hO => hno w hO.below fun e => h1 (congrArg Rt.name e)
 refine x_nea (p := fun u v : Ver => u = v) 23 kV op_ne_ver 18 [1, 0] x.ver y.ver (fun h2 => ?_) (fun h2 => ?_)
 rotate_left
 ·exact zB [] Z5 fun w hO => hno w hO.below fun e => h2 (congrArg Rt.ver e)
 refine d9 27 [1, 0] ((x.needs.length : Int) = (y.needs.length : Int)) (fun h3 => ?_) (fun h3 => ?_)
 rotate_left
 ·exact zB [] Z5 fun w hO => hno w hO.below fun e => h3 (by
   have := congrArg (fun n : Rt => n.needs.length) e
   simp only [Rv.rt, List.length_map] at this; omega)
 refine d9 36 [1, 0] ((x.bars.length : Int) = (y.bars.length : Int)) (fun h4 => ?_) (fun h4 => ?_)
 rotate_left
 ·exact zB [] Z5 fun w hO => hno w hO.below fun e => h4 (by
   have := congrArg (fun n : Rt => n.bars.length) e
   simp only [Rv.rt, List.length_map] at this; omega)
 refine d9 45 [1, 0] ((x.fts.length : Int) = (y.fts.length : Int)) (fun h5 => ?_) (fun h5 => ?_)
 rotate_left
 ·exact zB [] Z5 fun w hO => hno w hO.below fun e => h5 (by
   have := congrArg (fun n : Rt => n.fts.length) e
   simp only [Rv.rt, d3] at this; omega)
 have l3 : x.needs.length = y.needs.length := by omega
 have l4 : x.bars.length = y.bars.length := by omega
 have l5 : x.fts.length = y.fts.length := by omega
 refine yY (α := Nat) (fun i => [(2, Zp b2 0), (3, Zp b3 0), (5, YI (i : Int))]) (fun _ => [⟨b3, (rvC y).toArray, 28⟩, ⟨b2, (rvC x).toArray, 28⟩]) (fun i m => (i ≤ x.needs.length ∧ (x.needs.map Nv.nt).take i = (y.needs.map Nv.nt).take i) ∧ m = x.needs.length - i) 0 x.needs.length [] ⟨⟨Nat.zero_le _, rfl⟩, rfl⟩ ?_
 rintro i mm g kk ⟨⟨hi, heq⟩, hmm⟩ nx hkk
 subst hkk
 refine y9 51 [1] ((i : Int) < (x.needs.length : Int)) (fun h51 => ?_) (fun h51 => ?_)
 ·have hj : i < x.needs.length := by omega
  have hj2 : i < y.needs.length := by omega
  have hux : x.needs[i] ∈ x.needs := List.getElem_mem hj
  have huy : y.needs[i] ∈ y.needs := List.getElem_mem hj2
  have hst := jB hj hj2 heq
  have hdf := gI (f := Nv.nt) hj hj2
  obtain ⟨eb, eo, hA, hel⟩ := hx.needs.elem qU i hj
  obtain ⟨fb, fo, hA2, hel2⟩ := hy.needs.elem qU i hj2
  have h1' : ∀ w, Below W.heap.size W w → (loadVar 57 ⟨eb, eo + i * 3 + 0, none⟩).run Tryz.prog w = .ok (nvV x.needs[i]) w := fun w hw => hel w hw _ 0 _ Kr
  have h2' : ∀ w, Below W.heap.size W w → (loadVar 57 ⟨fb, fo + i * 3 + 0, none⟩).run Tryz.prog w = .ok (nvV y.needs[i]) w := fun w hw => hel2 w hw _ 0 _ Kr
  have hau := hx.any _ hux; have hav := hy.any _ huy; have hwu := hx.wfs _ hux; have hwv := hy.wfs _ huy; have hnu := hx.na _ hux; have hnv := hy.na _ huy; have hfu := hx.nf _ hux; have hfv := hy.nf _ huy
  generalize x.needs[i] = u at hst hdf h1' hau hwu hnu hfu
  generalize y.needs[i] = v at hst hdf h2' hav hwv hnv hfv
  have hc : ∀ w, Below W.heap.size W w → YC 46 #[nvV u, nvV v] w (YR (.bool (decide (u.nt = v.nt))) w) := fun w hb => r12sameNeed_any u v w (hau.on hb hb.size) (hav.on hb hb.size) (fun z hz => (hwu z hz).on hb hb.size) (fun z hz => (hwv z hz).on hb hb.size) hnu hnv hfu hfv
  refine y7 57 [1] hA x.needs.length x.nc i 3 hj (zX 58 [] 57 eb (eo + i * 3 + 0) (nvV u) (fun w hO => h1' w hO.below) (y7 62 [0] hA2 y.needs.length y.nc i 3 hj2 (zX 63 [] 57 fb (fo + i * 3 + 0) (nvV v) (fun w hO => h2' w hO.below) (zE (v := .bool (decide (u.nt = v.nt))) [] (fun w hO => hc w hO.below) (bS 64 (u.nt = v.nt) (fun h => ?_) (fun h => ?_))))))
  ·exact x_i 53 [] ((i + 1 : Nat) : Int) (nx (i + 1) (x.needs.length - (i + 1)) [] Om ⟨⟨hj, hst h⟩, rfl⟩ Kr Kr)
  ·exact zB [] Z5 fun w hO => hno w hO.below fun e => hdf h (congrArg Rt.needs e)
 have e3 := bI l3 Om heq
 clear nx
 refine yY (α := Nat) (fun i => [(2, Zp b2 0), (3, Zp b3 0), (6, YI (i : Int))]) (fun _ => [⟨b3, (rvC y).toArray, 28⟩, ⟨b2, (rvC x).toArray, 28⟩]) (fun i m => (i ≤ x.bars.length ∧ (x.bars.map Bv.bt).take i = (y.bars.map Bv.bt).take i) ∧ m = x.bars.length - i) 0 x.bars.length [] ⟨⟨Nat.zero_le _, rfl⟩, rfl⟩ ?_
 rintro i2 mm2 g2 kk2 ⟨⟨hi2, heq2⟩, hmm2⟩ nx hkk
 subst hkk
 refine y9 70 [1] ((i2 : Int) < (x.bars.length : Int)) (fun h70 => ?_) (fun h70 => ?_)
 ·have hj : i2 < x.bars.length := by omega
  have hj2 : i2 < y.bars.length := by omega
  have hst := jB hj hj2 heq2
  have hdf := gI (f := Bv.bt) hj hj2
  obtain ⟨eb, eo, hA, hel⟩ := hx.bars.elem bJ i2 hj
  obtain ⟨fb, fo, hA2, hel2⟩ := hy.bars.elem bJ i2 hj2
  have h1' : ∀ w, Below W.heap.size W w → (loadVar 54 ⟨eb, eo + i2 * 3 + 0, none⟩).run Tryz.prog w = .ok (bvV x.bars[i2]) w := fun w hw => hel w hw _ 0 _ Kr
  have h2' : ∀ w, Below W.heap.size W w → (loadVar 54 ⟨fb, fo + i2 * 3 + 0, none⟩).run Tryz.prog w = .ok (bvV y.bars[i2]) w := fun w hw => hel2 w hw _ 0 _ Kr
  generalize x.bars[i2] = u at hst hdf h1'
  generalize y.bars[i2] = v at hst hdf h2'
  refine y7 76 [1] hA x.bars.length x.bc i2 3 hj (zX 77 [] 54 eb (eo + i2 * 3 + 0) (bvV u) (fun w hO => h1' w hO.below) (y7 81 [0] hA2 y.bars.length y.bc i2 3 hj2 (zX 82 [] 54 fb (fo + i2 * 3 + 0) (bvV v) (fun w hO => h2' w hO.below) (x_nea (p := fun u v : Bv => u.bt = v.bt) 54 bvV op_ne_bar 83 [] u v (fun h => ?_) (fun h => ?_)))))
  ·exact x_i 72 [] ((i2 + 1 : Nat) : Int) (nx (i2 + 1) (x.bars.length - (i2 + 1)) [] Om ⟨⟨hj, hst h⟩, rfl⟩ Kr Kr)
  ·exact zB [] Z5 fun w hO => hno w hO.below fun e => hdf h (congrArg Rt.bars e)
 have e4 := bI l4 Om heq2
 clear nx
 refine yY (α := Nat) (fun i => [(2, Zp b2 0), (3, Zp b3 0), (7, YI (i : Int))]) (fun _ => [⟨b3, (rvC y).toArray, 28⟩, ⟨b2, (rvC x).toArray, 28⟩]) (fun i m => (i ≤ x.fts.length ∧ (x.fts.map Fv.ft).take i = (y.fts.map Fv.ft).take i) ∧ m = x.fts.length - i) 0 x.fts.length [] ⟨⟨Nat.zero_le _, rfl⟩, rfl⟩ ?_
 rintro i3 mm3 g3 kk3 ⟨⟨hi3, heq3⟩, hmm3⟩ nx hkk
 subst hkk
 refine y9 88 [1] ((i3 : Int) < (x.fts.length : Int)) (fun h88 => ?_) (fun h88 => ?_)
 rotate_left
 ·refine zB [] Z4 fun w hO => ⟨?_, hO.below⟩
  have e5 := bI l5 Om heq3
  rw [decide_eq_true (show x.rt = y.rt by unfold Rv.rt kC; rw [h1, h2, e3, e4, e5])]
 have hj : i3 < x.fts.length := by omega
 have hj2 : i3 < y.fts.length := by omega
 have hux : x.fts[i3] ∈ x.fts := List.getElem_mem hj
 have huy : y.fts[i3] ∈ y.fts := List.getElem_mem hj2
 have hst := jB hj hj2 heq3
 have hdf := gI (f := Fv.ft) hj hj2
 obtain ⟨eb, eo, hA, hel⟩ := hx.fts.top.elem wA i3 hj
 obtain ⟨fb, fo, hA2, hel2⟩ := hy.fts.top.elem wA i3 hj2
 have n1 : ∀ w, Below W.heap.size W w → (loadVar 9 ⟨eb, eo + i3 * 2 + 0, none⟩).run Tryz.prog w = .ok (.string (mkS x.fts[i3].name)) w := fun w hw => hel w hw _ 0 _ Kr
 have n2 : ∀ w, Below W.heap.size W w → (loadVar 9 ⟨fb, fo + i3 * 2 + 0, none⟩).run Tryz.prog w = .ok (.string (mkS y.fts[i3].name)) w := fun w hw => hel2 w hw _ 0 _ Kr
 have o1 : ∀ w, Below W.heap.size W w → (loadVar 58 ⟨eb, eo + i3 * 2 + 1, none⟩).run Tryz.prog w = .ok (.slice x.fts[i3].A x.fts[i3].of.length x.fts[i3].cap) w := fun w hw => hel w hw _ 1 _ Kr
 have o2 : ∀ w, Below W.heap.size W w → (loadVar 58 ⟨fb, fo + i3 * 2 + 1, none⟩).run Tryz.prog w = .ok (.slice y.fts[i3].A y.fts[i3].of.length y.fts[i3].cap) w := fun w hw => hel2 w hw _ 1 _ Kr
 have hru := hx.fts.each _ hux; have hrv := hy.fts.each _ huy; have hmu := hx.fts.m _ hux; have hmv := hy.fts.m _ huy
 generalize x.fts[i3] = u at hst hdf n1 o1 hru hmu
 generalize y.fts[i3] = v at hst hdf n2 o2 hrv hmv
 have hc : ∀ w, Below W.heap.size W w → YC 47 #[.slice u.A u.of.length u.cap, .slice v.A v.of.length v.cap] w (YR (.bool (decide (u.of = v.of))) w) := fun w hb => r1Texts_any u.A v.A u.cap v.cap u.of v.of w (hru.on hb hb.size) (hrv.on hb hb.size) Om Om
 refine y7 94 [1] hA x.fts.length x.fc i3 2 hj (zX 96 [] 9 eb (eo + i3 * 2 + 0) (.string (mkS u.name)) (fun w hO => n1 w hO.below) (y7 100 [0] hA2 y.fts.length y.fc i3 2 hj2 (zX 102 [] 9 fb (fo + i3 * 2 + 0) (.string (mkS v.name)) (fun w hO => n2 w hO.below) (vY 103 [] u.name v.name (fun h6 => ?_) (fun h6 => ?_)))))
 rotate_left
 ·exact zB [] Z5 fun w hO => hno w hO.below fun e => hdf (fun q => h6 (congrArg Ft.name q)) (congrArg Rt.fts e)
 refine y7 108 [1] hA x.fts.length x.fc i3 2 hj (zX 110 [] 58 eb (eo + i3 * 2 + 1) (.slice u.A u.of.length u.cap) (fun w hO => o1 w hO.below) (y7 114 [0] hA2 y.fts.length y.fc i3 2 hj2 (zX 116 [] 58 fb (fo + i3 * 2 + 1) (.slice v.A v.of.length v.cap) (fun w hO => o2 w hO.below) (zE (v := .bool (decide (u.of = v.of))) [] (fun w hO => hc w hO.below) (bS 117 (u.of = v.of) (fun h7 => ?_) (fun h7 => ?_))))))
 ·exact x_i 90 [] ((i3 + 1 : Nat) : Int) (nx (i3 + 1) (x.fts.length - (i3 + 1)) [] Om ⟨⟨hj, hst (by unfold Fv.ft; rw [h6, h7])⟩, rfl⟩ Kr Kr)
 ·exact zB [] Z5 fun w hO => hno w hO.below fun e => hdf (fun q => h7 (congrArg Ft.of q)) (congrArg Rt.fts e)
end
section
set_option linter.unnecessarySimpa false
theorem op_eq_verQ {ρ : Operand → Value} {o : Oper} {t' : TypeId} {x y : Operand} {u v : Ver} {b : Bool} (ho : o.op = .binOp .eql 23 x y t') (hx : ρ x = kV u) (hy : ρ y = kV v) (hb : decide (u = v) = b) (w : World) : (execOp ρ o).run Tryz.prog w = .ok (.value (.bool b)) w :=
 run_eq_op ho hx hy guard_ver (fun w => hb ▸ eq_ver u v 9998 w) w
section
variable {M : List Nat} {n : Nat} {W : World} {Q : Exit → Act → World → Prop} {c : Xc}
theorem x_eqa {α : Type} {p : α → α → Prop} [∀ u v, Decidable (p u v)] (T : TypeId) (enc : α → Value) (hrun : ∀ {ρ : Operand → Value} {o : Oper} {t' : TypeId} {x y : Operand} {u v : α} {b : Bool}, o.op = .binOp .eql T x y t' → ρ x = enc u → ρ y = enc v → decide (p u v) = b → ∀ w, (execOp ρ o).run Tryz.prog w = .ok (.value (.bool b)) w)
  (d : Nat) (h : List Nat) (u v : α) (h1 : p u v → zI M Tryz.prog n W Q ((xgo Tryz.prog n (d + 50000) h c).put (.bool true))) (h2 : ¬ p u v → zI M Tryz.prog n W Q ((xgo Tryz.prog n (d + 50000) h c).put (.bool false)))
  (hkt : (xgl Tryz.prog n (d + 50000) h c, xW n (xgo Tryz.prog n (d + 50000) h c), (xO (xgo Tryz.prog n (d + 50000) h c)).op, ev n (xgo Tryz.prog n (d + 50000) h c).f (oX (xO (xgo Tryz.prog n (d + 50000) h c))), ev n (xgo Tryz.prog n (d + 50000) h c).f (oY (xO (xgo Tryz.prog n (d + 50000) h c)))) = (xgr Tryz.prog n (d + 50000) h c, true, .binOp .eql T (oX (xO (xgo Tryz.prog n (d + 50000) h c))) (oY (xO (xgo Tryz.prog n (d + 50000) h c))) (oU (xO (xgo Tryz.prog n (d + 50000) h c))), enc u, enc v) := by kernel_rfl) : zI M Tryz.prog n W Q c := by
 simp only [Prod.mk.injEq] at hkt
 obtain ⟨hk, e1, e2, e3, e4⟩ := hkt
 by_cases hp : p u v
 ·exact zQ h c hk (qR e1 (fun w => hrun e2 e3 e4 (decide_eq_true hp) w) (h1 hp))
 ·exact zQ h c hk (qR e1 (fun w => hrun e2 e3 e4 (decide_eq_false hp) w) (h2 hp))
end
theorem no_len {α β : Type} {f : α → β} {l m : List α} (h : ¬ (l.length : Int) = (m.length : Int)) : ¬ l.map f = m.map f := fun e => h (by
 have := congrArg List.length e
 simp only [List.length_map] at this; omega)
def stV (s : List UInt8) : Value := .string (mkS s)
theorem qEqS_any (A B : Option Addr) (cap capb : Nat) (xs ys : List (List UInt8)) (W : World) (hx : Reads yE W W.heap.size A xs) (hy : Reads yE W W.heap.size B ys) (hn : xs.length ≤ 1000000) (hm : ys.length ≤ 1000000) : YC 111 #[.slice A xs.length cap, .slice B ys.length capb] W (YR (.bool (decide (xs.map id = ys.map id))) W) := by
 have hno : ∀ w, Below W.heap.size W w → ¬ xs.map id = ys.map id → (Ending.returned (.bool false) = .returned (.bool (decide (xs.map id = ys.map id)))) ∧ Below W.heap.size W w := fun w hb h => ⟨by rw [decide_eq_false h], hb⟩
 refine zL Tryz.func111 (d9 10 [] ((xs.length : Int) = (ys.length : Int)) (fun h1 => ?_) (fun h1 => ?_))
 rotate_left
 ·exact zB [] Z5 fun w hO => hno w hO.below (no_len h1)
 have hl : xs.length = ys.length := by omega
 refine yY (α := Nat) (fun i => [(0, .slice A xs.length cap), (1, .slice B ys.length capb), (12, YI (xs.length : Int)), (13, YI (i : Int))]) (fun _ => []) (fun i m => (i ≤ xs.length ∧ (xs.map id).take i = (ys.map id).take i) ∧ m = xs.length - i) 0 xs.length [] ⟨⟨Nat.zero_le _, rfl⟩, rfl⟩ ?_
 rintro i mm g kk ⟨⟨hi, heq⟩, hmm⟩ nx hkk
 subst hkk
 refine y9 14 [] ((i : Int) < (xs.length : Int)) (fun h14 => ?_) (fun h14 => ?_)
 rotate_left
 ·exact zB [] Z4 fun w hO => ⟨by rw [decide_eq_true (bI hl Om heq)], hO.below⟩
 have hj : i < xs.length := by omega
 have hj2 : i < ys.length := by omega
 have hst := jB hj hj2 heq
 have hdf := gI (f := id) hj hj2
 obtain ⟨eb, eo, hA, hel⟩ := hx.elem yH i hj
 obtain ⟨fb, fo, hA2, hel2⟩ := hy.elem yH i hj2
 have h1' : ∀ w, Below W.heap.size W w → (loadVar 9 ⟨eb, eo + i * 1 + 0, none⟩).run Tryz.prog w = .ok (stV xs[i]) w := fun w hw => hel w hw _ 0 _ Kr
 have h2' : ∀ w, Below W.heap.size W w → (loadVar 9 ⟨fb, fo + i * 1 + 0, none⟩).run Tryz.prog w = .ok (stV ys[i]) w := fun w hw => hel2 w hw _ 0 _ Kr
 generalize xs[i] = u at *
 generalize ys[i] = v at *
 refine y7 18 [] hA xs.length cap i 1 hj (zX 19 [] 9 eb (eo + i * 1 + 0) (stV u) (fun w hO => h1' w hO.below) (y7 22 [] hA2 ys.length capb i 1 hj2 (zX 23 [] 9 fb (fo + i * 1 + 0) (stV v) (fun w hO => h2' w hO.below) (vY 24 [] u v (fun h => ?_) (fun h => ?_)))))
 ·exact x_i 13 [] ((i + 1 : Nat) : Int) (nx (i + 1) (xs.length - (i + 1)) [] Om ⟨⟨hj, hst h⟩, rfl⟩ Kr Kr)
 ·exact zB [] Z5 fun w hO => hno w hO.below (hdf h)
theorem qEqB_any (A B : Option Addr) (cap capb : Nat) (xs ys : List Bv) (W : World) (hx : Reads bvC W W.heap.size A xs) (hy : Reads bvC W W.heap.size B ys) (hn : xs.length ≤ 1000000) (hm : ys.length ≤ 1000000) : YC 56 #[.slice A xs.length cap, .slice B ys.length capb] W (YR (.bool (decide (xs.map Bv.bt = ys.map Bv.bt))) W) := by
 have hno : ∀ w, Below W.heap.size W w → ¬ xs.map Bv.bt = ys.map Bv.bt → (Ending.returned (.bool false) = .returned (.bool (decide (xs.map Bv.bt = ys.map Bv.bt)))) ∧ Below W.heap.size W w := fun w hb h => ⟨by rw [decide_eq_false h], hb⟩
 refine zL Tryz.func56 (d9 10 [] ((xs.length : Int) = (ys.length : Int)) (fun h1 => ?_) (fun h1 => ?_))
 rotate_left
 ·exact zB [] Z5 fun w hO => hno w hO.below (no_len h1)
 have hl : xs.length = ys.length := by omega
 refine yY (α := Nat) (fun i => [(0, .slice A xs.length cap), (1, .slice B ys.length capb), (12, YI (xs.length : Int)), (13, YI (i : Int))]) (fun _ => []) (fun i m => (i ≤ xs.length ∧ (xs.map Bv.bt).take i = (ys.map Bv.bt).take i) ∧ m = xs.length - i) 0 xs.length [] ⟨⟨Nat.zero_le _, rfl⟩, rfl⟩ ?_
 rintro i mm g kk ⟨⟨hi, heq⟩, hmm⟩ nx hkk
 subst hkk
 refine y9 14 [] ((i : Int) < (xs.length : Int)) (fun h14 => ?_) (fun h14 => ?_)
 rotate_left
 ·exact zB [] Z4 fun w hO => ⟨by rw [decide_eq_true (bI hl Om heq)], hO.below⟩
 have hj : i < xs.length := by omega
 have hj2 : i < ys.length := by omega
 have hst := jB hj hj2 heq
 have hdf := gI (f := Bv.bt) hj hj2
 obtain ⟨eb, eo, hA, hel⟩ := hx.elem bJ i hj
 obtain ⟨fb, fo, hA2, hel2⟩ := hy.elem bJ i hj2
 have h1' : ∀ w, Below W.heap.size W w → (loadVar 54 ⟨eb, eo + i * 3 + 0, none⟩).run Tryz.prog w = .ok (bvV xs[i]) w := fun w hw => hel w hw _ 0 _ Kr
 have h2' : ∀ w, Below W.heap.size W w → (loadVar 54 ⟨fb, fo + i * 3 + 0, none⟩).run Tryz.prog w = .ok (bvV ys[i]) w := fun w hw => hel2 w hw _ 0 _ Kr
 generalize xs[i] = u at *
 generalize ys[i] = v at *
 refine y7 18 [] hA xs.length cap i 3 hj (zX 19 [] 54 eb (eo + i * 3 + 0) (bvV u) (fun w hO => h1' w hO.below) (y7 22 [] hA2 ys.length capb i 3 hj2 (zX 23 [] 54 fb (fo + i * 3 + 0) (bvV v) (fun w hO => h2' w hO.below) (x_nea (p := fun u v : Bv => u.bt = v.bt) 54 bvV op_ne_bar 24 [] u v (fun h => ?_) (fun h => ?_)))))
 ·exact x_i 13 [] ((i + 1 : Nat) : Int) (nx (i + 1) (xs.length - (i + 1)) [] Om ⟨⟨hj, hst h⟩, rfl⟩ Kr Kr)
 ·exact zB [] Z5 fun w hO => hno w hO.below (hdf h)
theorem qEqT_any (A B : Option Addr) (cap capb : Nat) (xs ys : List (List UInt8)) (W : World) (hx : Reads yE W W.heap.size A xs) (hy : Reads yE W W.heap.size B ys) (hn : xs.length ≤ 1000000) (hm : ys.length ≤ 1000000) : YC 111 #[.slice A xs.length cap, .slice B ys.length capb] W (YR (.bool (decide (xs = ys))) W) := by
 have h := qEqS_any A B cap capb xs ys W hx hy hn hm
 simp only [List.map_id] at h
 exact h
theorem qSameW_any (x y : Wv) (W : World) (hx : Reads yE W W.heap.size x.A x.fs) (hy : Reads yE W W.heap.size y.A y.fs) (hn : x.fs.length ≤ 1000000) (hm : y.fs.length ≤ 1000000) : YC 110 #[wvV x, wvV y] W (YR (.bool (decide (x.wt = y.wt))) W) := by
 have hno : ∀ w, Below W.heap.size W w → x.wt ≠ y.wt → (Ending.returned (.bool false) = .returned (.bool (decide (x.wt = y.wt)))) ∧ Below W.heap.size W w := fun w hb h => ⟨by rw [decide_eq_false h], hb⟩
 have hT : ∀ w, Below W.heap.size W w → YC 111 #[.slice x.A x.fs.length x.cap, .slice y.A y.fs.length y.cap] w (YR (.bool (decide (x.fs = y.fs))) w) := fun w hb => qEqT_any x.A y.A x.cap y.cap x.fs y.fs w (hx.on hb hb.size) (hy.on hb hb.size) hn hm
 refine zL Tryz.func110 (xN [] fun b2 => xN [] fun b3 => kD 9 [1, 0] x.name y.name (fun h1 => ?_) (fun h1 => ?_))
 rotate_left
 ·exact zB [] Z5 fun w hO => hno w hO.below fun e => h1 (congrArg Wt.name e)
 refine kD 15 [1, 0] x.rng y.rng (fun h2 => ?_) (fun h2 => ?_)
 rotate_left
 ·exact zB [] Z5 fun w hO => hno w hO.below fun e => h2 (congrArg Wt.rng e)
 refine zE (v := .bool (decide (x.fs = y.fs))) [1, 0] (fun w hO => hT w hO.below) (bS 22 (x.fs = y.fs) (fun h4 => ?_) (fun h4 => ?_))
 rotate_left
 ·exact zB [] Z5 fun w hO => hno w hO.below fun e => h4 (congrArg Wt.fs e)
 refine tQ 29 [1, 0] (x.bare == y.bare) (fun h3 => ?_) (fun h3 => ?_)
 ·refine zB [] Z4 fun w hO => ⟨?_, hO.below⟩
  rw [decide_eq_true (show x.wt = y.wt by unfold Wv.wt; rw [h1, h2, h4, beq_iff_eq.1 h3])]
 ·exact zB [] Z5 fun w hO => hno w hO.below fun e => by
   have : x.bare = y.bare := congrArg Wt.bare e
   rw [this] at h3; simp at h3
theorem qEqW_any (A B : Option Addr) (cap capb : Nat) (xs ys : List Wv) (W : World) (hx : Reads wvC W W.heap.size A xs) (hy : Reads wvC W W.heap.size B ys) (hn : xs.length ≤ 1000000) (hm : ys.length ≤ 1000000) (hp : ∀ x ∈ xs, ∀ y ∈ ys, ∀ w, Below W.heap.size W w → YC 110 #[wvV x, wvV y] w (YR (.bool (decide (Wv.wt x = Wv.wt y))) w)) : YC 109 #[.slice A xs.length cap, .slice B ys.length capb, .func (.func 110) #[] #[]] W (YR (.bool (decide (xs.map Wv.wt = ys.map Wv.wt))) W) := by
 have hno : ∀ w, Below W.heap.size W w → ¬ xs.map Wv.wt = ys.map Wv.wt → (Ending.returned (.bool false) = .returned (.bool (decide (xs.map Wv.wt = ys.map Wv.wt)))) ∧ Below W.heap.size W w := fun w hb h => ⟨by rw [decide_eq_false h], hb⟩
 refine zL Tryz.func109 (d9 14 [] ((xs.length : Int) = (ys.length : Int)) (fun h1 => ?_) (fun h1 => ?_))
 rotate_left
 ·exact zB [] Z5 fun w hO => hno w hO.below (no_len h1)
 have hl : xs.length = ys.length := by omega
 refine yY (α := Nat) (fun i => [(1, .slice B ys.length capb), (2, .func (.func 110) #[] #[]), (15, .slice A xs.length cap), (16, YI (xs.length : Int)), (17, YI (i : Int))]) (fun _ => []) (fun i m => (i ≤ xs.length ∧ (xs.map Wv.wt).take i = (ys.map Wv.wt).take i) ∧ m = xs.length - i) 0 xs.length [] ⟨⟨Nat.zero_le _, rfl⟩, rfl⟩ ?_
 rintro i mm g kk ⟨⟨hi, heq⟩, hmm⟩ nx hkk
 subst hkk
 refine y9 18 [] ((i : Int) < (xs.length : Int)) (fun h18 => ?_) (fun h18 => ?_)
 rotate_left
 ·exact zB [] Z4 fun w hO => ⟨by rw [decide_eq_true (bI hl Om heq)], hO.below⟩
 have hj : i < xs.length := by omega
 have hj2 : i < ys.length := by omega
 have hst := jB hj hj2 heq
 have hdf := gI (f := Wv.wt) hj hj2
 have hc := hp _ (List.getElem_mem hj) _ (List.getElem_mem hj2)
 obtain ⟨eb, eo, hA, hel⟩ := hx.elem dC i hj
 obtain ⟨fb, fo, hA2, hel2⟩ := hy.elem dC i hj2
 have h1' : ∀ w, Below W.heap.size W w → (loadVar 60 ⟨eb, eo + i * 4 + 0, none⟩).run Tryz.prog w = .ok (wvV xs[i]) w := fun w hw => hel w hw _ 0 _ Kr
 have h2' : ∀ w, Below W.heap.size W w → (loadVar 60 ⟨fb, fo + i * 4 + 0, none⟩).run Tryz.prog w = .ok (wvV ys[i]) w := fun w hw => hel2 w hw _ 0 _ Kr
 clear hp
 generalize xs[i] = u at *
 generalize ys[i] = v at *
 refine y7 20 [] hA xs.length cap i 4 hj (zX 21 [] 60 eb (eo + i * 4 + 0) (wvV u) (fun w hO => h1' w hO.below) (zY [] fun b8 => y7 24 [0] hA2 ys.length capb i 4 hj2 (zX 25 [] 60 fb (fo + i * 4 + 0) (wvV v) (fun w hO => h2' w hO.below) (zY [] fun b9 => zE (v := .bool (decide (Wv.wt u = Wv.wt v))) [0, 1, 0] (fun w hO => hc w hO.below) (bS 29 (Wv.wt u = Wv.wt v) (fun h => ?_) (fun h => ?_))))))
 ·exact x_i 17 [] ((i + 1 : Nat) : Int) (kP [] [] (fun w hO => hO.no) (nx (i + 1) (xs.length - (i + 1)) [] Om ⟨⟨hj, hst h⟩, rfl⟩ Kr Kr))
 ·exact zB [] Z5 fun w hO => hno w hO.below (hdf h)
theorem qSameN_any (x y : Nv) (W : World) (hx : Reads wvC W W.heap.size x.A x.any) (hy : Reads wvC W W.heap.size y.A y.any) (hxf : ∀ u ∈ x.any, Reads yE W W.heap.size u.A u.fs) (hyf : ∀ u ∈ y.any, Reads yE W W.heap.size u.A u.fs) (hn : x.any.length ≤ 5000) (hm : y.any.length ≤ 5000) (hxn : ∀ u ∈ x.any, u.fs.length ≤ 5000) (hyn : ∀ u ∈ y.any, u.fs.length ≤ 5000) : YC 55 #[nvV x, nvV y] W (YR (.bool (decide (x.nt = y.nt))) W) := by
 have hno : ∀ w, Below W.heap.size W w → x.nt ≠ y.nt → (Ending.returned (.bool false) = .returned (.bool (decide (x.nt = y.nt)))) ∧ Below W.heap.size W w := fun w hb h => ⟨by rw [decide_eq_false h], hb⟩
 have hT : ∀ w, Below W.heap.size W w → YC 109 #[.slice x.A x.any.length x.cap, .slice y.A y.any.length y.cap, .func (.func 110) #[] #[]] w (YR (.bool (decide (x.any.map Wv.wt = y.any.map Wv.wt))) w) := fun w hb => qEqW_any x.A y.A x.cap y.cap x.any y.any w (hx.on hb hb.size) (hy.on hb hb.size) Om Om fun u hu v hv w2 hb2 => qSameW_any u v w2 (((hxf u hu).on hb hb.size).on hb2 hb2.size) (((hyf v hv).on hb hb.size).on hb2 hb2.size) (by have := hxn u hu; omega) (by have := hyn v hv; omega)
 refine zL Tryz.func55 (xN [] fun b2 => xN [] fun b3 => zE (v := .bool (decide (x.any.map Wv.wt = y.any.map Wv.wt))) [1, 0] (fun w hO => hT w hO.below) (bS 9 (x.any.map Wv.wt = y.any.map Wv.wt) (fun h1 => ?_) (fun h1 => ?_)))
 rotate_left
 ·exact zB [] Z5 fun w hO => hno w hO.below fun e => h1 (congrArg Nt.any e)
 refine kD 15 [1, 0] x.wh y.wh (fun h2 => ?_) (fun h2 => ?_)
 rotate_left
 ·exact zB [] Z5 fun w hO => hno w hO.below fun e => h2 (congrArg Nt.wh e)
 refine kD 22 [1, 0] x.opt y.opt (fun h3 => ?_) (fun h3 => ?_)
 ·exact zB [] Z4 fun w hO => ⟨by rw [decide_eq_true (show x.nt = y.nt by unfold Nv.nt; rw [h1, h2, h3])], hO.below⟩
 ·exact zB [] Z5 fun w hO => hno w hO.below fun e => h3 (congrArg Nt.opt e)
theorem qEqN_any (A B : Option Addr) (cap capb : Nat) (xs ys : List Nv) (W : World) (hx : Reads nvC W W.heap.size A xs) (hy : Reads nvC W W.heap.size B ys) (hn : xs.length ≤ 1000000) (hm : ys.length ≤ 1000000) (hp : ∀ x ∈ xs, ∀ y ∈ ys, ∀ w, Below W.heap.size W w → YC 55 #[nvV x, nvV y] w (YR (.bool (decide (Nv.nt x = Nv.nt y))) w)) : YC 54 #[.slice A xs.length cap, .slice B ys.length capb, .func (.func 55) #[] #[]] W (YR (.bool (decide (xs.map Nv.nt = ys.map Nv.nt))) W) := by
 have hno : ∀ w, Below W.heap.size W w → ¬ xs.map Nv.nt = ys.map Nv.nt → (Ending.returned (.bool false) = .returned (.bool (decide (xs.map Nv.nt = ys.map Nv.nt)))) ∧ Below W.heap.size W w := fun w hb h => ⟨by rw [decide_eq_false h], hb⟩
 refine zL Tryz.func54 (d9 14 [] ((xs.length : Int) = (ys.length : Int)) (fun h1 => ?_) (fun h1 => ?_))
 rotate_left
 ·exact zB [] Z5 fun w hO => hno w hO.below (no_len h1)
 have hl : xs.length = ys.length := by omega
 refine yY (α := Nat) (fun i => [(1, .slice B ys.length capb), (2, .func (.func 55) #[] #[]), (15, .slice A xs.length cap), (16, YI (xs.length : Int)), (17, YI (i : Int))]) (fun _ => []) (fun i m => (i ≤ xs.length ∧ (xs.map Nv.nt).take i = (ys.map Nv.nt).take i) ∧ m = xs.length - i) 0 xs.length [] ⟨⟨Nat.zero_le _, rfl⟩, rfl⟩ ?_
 rintro i mm g kk ⟨⟨hi, heq⟩, hmm⟩ nx hkk
 subst hkk
 refine y9 18 [] ((i : Int) < (xs.length : Int)) (fun h18 => ?_) (fun h18 => ?_)
 rotate_left
 ·exact zB [] Z4 fun w hO => ⟨by rw [decide_eq_true (bI hl Om heq)], hO.below⟩
 have hj : i < xs.length := by omega
 have hj2 : i < ys.length := by omega
 have hst := jB hj hj2 heq
 have hdf := gI (f := Nv.nt) hj hj2
 have hc := hp _ (List.getElem_mem hj) _ (List.getElem_mem hj2)
 obtain ⟨eb, eo, hA, hel⟩ := hx.elem qU i hj
 obtain ⟨fb, fo, hA2, hel2⟩ := hy.elem qU i hj2
 have h1' : ∀ w, Below W.heap.size W w → (loadVar 57 ⟨eb, eo + i * 3 + 0, none⟩).run Tryz.prog w = .ok (nvV xs[i]) w := fun w hw => hel w hw _ 0 _ Kr
 have h2' : ∀ w, Below W.heap.size W w → (loadVar 57 ⟨fb, fo + i * 3 + 0, none⟩).run Tryz.prog w = .ok (nvV ys[i]) w := fun w hw => hel2 w hw _ 0 _ Kr
 clear hp
 generalize xs[i] = u at *
 generalize ys[i] = v at *
 refine y7 20 [] hA xs.length cap i 3 hj (zX 21 [] 57 eb (eo + i * 3 + 0) (nvV u) (fun w hO => h1' w hO.below) (zY [] fun b8 => y7 24 [0] hA2 ys.length capb i 3 hj2 (zX 25 [] 57 fb (fo + i * 3 + 0) (nvV v) (fun w hO => h2' w hO.below) (zY [] fun b9 => zE (v := .bool (decide (Nv.nt u = Nv.nt v))) [0, 1, 0] (fun w hO => hc w hO.below) (bS 29 (Nv.nt u = Nv.nt v) (fun h => ?_) (fun h => ?_))))))
 ·exact x_i 17 [] ((i + 1 : Nat) : Int) (kP [] [] (fun w hO => hO.no) (nx (i + 1) (xs.length - (i + 1)) [] Om ⟨⟨hj, hst h⟩, rfl⟩ Kr Kr))
 ·exact zB [] Z5 fun w hO => hno w hO.below (hdf h)
theorem qSameF_any (x y : Fv) (W : World) (hx : Reads yE W W.heap.size x.A x.of) (hy : Reads yE W W.heap.size y.A y.of) (hn : x.of.length ≤ 1000000) (hm : y.of.length ≤ 1000000) : YC 58 #[fvV x, fvV y] W (YR (.bool (decide (x.ft = y.ft))) W) := by
 have hno : ∀ w, Below W.heap.size W w → x.ft ≠ y.ft → (Ending.returned (.bool false) = .returned (.bool (decide (x.ft = y.ft)))) ∧ Below W.heap.size W w := fun w hb h => ⟨by rw [decide_eq_false h], hb⟩
 have hT : ∀ w, Below W.heap.size W w → YC 111 #[.slice x.A x.of.length x.cap, .slice y.A y.of.length y.cap] w (YR (.bool (decide (x.of = y.of))) w) := fun w hb => qEqT_any x.A y.A x.cap y.cap x.of y.of w (hx.on hb hb.size) (hy.on hb hb.size) hn hm
 refine zL Tryz.func58 (xN [] fun b2 => xN [] fun b3 => kD 9 [1, 0] x.name y.name (fun h1 => ?_) (fun h1 => ?_))
 rotate_left
 ·exact zB [] Z5 fun w hO => hno w hO.below fun e => h1 (congrArg Ft.name e)
 refine zE (v := .bool (decide (x.of = y.of))) [1, 0] (fun w hO => hT w hO.below) (bS 15 (x.of = y.of) (fun h2 => ?_) (fun h2 => ?_))
 ·exact zB [] Z4 fun w hO => ⟨by rw [decide_eq_true (show x.ft = y.ft by unfold Fv.ft; rw [h1, h2])], hO.below⟩
 ·exact zB [] Z5 fun w hO => hno w hO.below fun e => h2 (congrArg Ft.of e)
theorem qEqF_any (A B : Option Addr) (cap capb : Nat) (xs ys : List Fv) (W : World) (hx : Reads fvC W W.heap.size A xs) (hy : Reads fvC W W.heap.size B ys) (hn : xs.length ≤ 1000000) (hm : ys.length ≤ 1000000) (hp : ∀ x ∈ xs, ∀ y ∈ ys, ∀ w, Below W.heap.size W w → YC 58 #[fvV x, fvV y] w (YR (.bool (decide (Fv.ft x = Fv.ft y))) w)) : YC 57 #[.slice A xs.length cap, .slice B ys.length capb, .func (.func 58) #[] #[]] W (YR (.bool (decide (xs.map Fv.ft = ys.map Fv.ft))) W) := by
 have hno : ∀ w, Below W.heap.size W w → ¬ xs.map Fv.ft = ys.map Fv.ft → (Ending.returned (.bool false) = .returned (.bool (decide (xs.map Fv.ft = ys.map Fv.ft)))) ∧ Below W.heap.size W w := fun w hb h => ⟨by rw [decide_eq_false h], hb⟩
 refine zL Tryz.func57 (d9 14 [] ((xs.length : Int) = (ys.length : Int)) (fun h1 => ?_) (fun h1 => ?_))
 rotate_left
 ·exact zB [] Z5 fun w hO => hno w hO.below (no_len h1)
 have hl : xs.length = ys.length := by omega
 refine yY (α := Nat) (fun i => [(1, .slice B ys.length capb), (2, .func (.func 58) #[] #[]), (15, .slice A xs.length cap), (16, YI (xs.length : Int)), (17, YI (i : Int))]) (fun _ => []) (fun i m => (i ≤ xs.length ∧ (xs.map Fv.ft).take i = (ys.map Fv.ft).take i) ∧ m = xs.length - i) 0 xs.length [] ⟨⟨Nat.zero_le _, rfl⟩, rfl⟩ ?_
 rintro i mm g kk ⟨⟨hi, heq⟩, hmm⟩ nx hkk
 subst hkk
 refine y9 18 [] ((i : Int) < (xs.length : Int)) (fun h18 => ?_) (fun h18 => ?_)
 rotate_left
 ·exact zB [] Z4 fun w hO => ⟨by rw [decide_eq_true (bI hl Om heq)], hO.below⟩
 have hj : i < xs.length := by omega
 have hj2 : i < ys.length := by omega
 have hst := jB hj hj2 heq
 have hdf := gI (f := Fv.ft) hj hj2
 have hc := hp _ (List.getElem_mem hj) _ (List.getElem_mem hj2)
 obtain ⟨eb, eo, hA, hel⟩ := hx.elem wA i hj
 obtain ⟨fb, fo, hA2, hel2⟩ := hy.elem wA i hj2
 have h1' : ∀ w, Below W.heap.size W w → (loadVar 63 ⟨eb, eo + i * 2 + 0, none⟩).run Tryz.prog w = .ok (fvV xs[i]) w := fun w hw => hel w hw _ 0 _ Kr
 have h2' : ∀ w, Below W.heap.size W w → (loadVar 63 ⟨fb, fo + i * 2 + 0, none⟩).run Tryz.prog w = .ok (fvV ys[i]) w := fun w hw => hel2 w hw _ 0 _ Kr
 clear hp
 generalize xs[i] = u at *
 generalize ys[i] = v at *
 refine y7 20 [] hA xs.length cap i 2 hj (zX 21 [] 63 eb (eo + i * 2 + 0) (fvV u) (fun w hO => h1' w hO.below) (zY [] fun b8 => y7 24 [0] hA2 ys.length capb i 2 hj2 (zX 25 [] 63 fb (fo + i * 2 + 0) (fvV v) (fun w hO => h2' w hO.below) (zY [] fun b9 => zE (v := .bool (decide (Fv.ft u = Fv.ft v))) [0, 1, 0] (fun w hO => hc w hO.below) (bS 29 (Fv.ft u = Fv.ft v) (fun h => ?_) (fun h => ?_))))))
 ·exact x_i 17 [] ((i + 1 : Nat) : Int) (kP [] [] (fun w hO => hO.no) (nx (i + 1) (xs.length - (i + 1)) [] Om ⟨⟨hj, hst h⟩, rfl⟩ Kr Kr))
 ·exact zB [] Z5 fun w hO => hno w hO.below (hdf h)
theorem qSame_any (x y : Rv) (W : World) (hx : RcSm W W.heap.size x) (hy : RcSm W W.heap.size y) : YC 26 #[rvV x, rvV y] W (YR (.bool (decide (x.rt = y.rt))) W) := by
 have hno : ∀ w, Below W.heap.size W w → x.rt ≠ y.rt → (Ending.returned (.bool false) = .returned (.bool (decide (x.rt = y.rt)))) ∧ Below W.heap.size W w := fun w hb h => ⟨by rw [decide_eq_false h], hb⟩
 have hxn := hx.nn; have hxb := hx.nb; have hxf := hx.fts.n; have hyn := hy.nn; have hyb := hy.nb; have hyf := hy.fts.n
 have c1 : ∀ w, Below W.heap.size W w → YC 54 #[.slice x.nA x.needs.length x.nc, .slice y.nA y.needs.length y.nc, .func (.func 55) #[] #[]] w (YR (.bool (decide (x.needs.map Nv.nt = y.needs.map Nv.nt))) w) := fun w hb => qEqN_any x.nA y.nA x.nc y.nc x.needs y.needs w (hx.needs.on hb hb.size) (hy.needs.on hb hb.size) Om Om fun u hu v hv w2 hb2 => by
  have hb3 := hb.trans (hb2.mono hb.size)
  exact qSameN_any u v w2 ((hx.any u hu).on hb3 hb3.size) ((hy.any v hv).on hb3 hb3.size) (fun z hz => (hx.wfs u hu z hz).on hb3 hb3.size) (fun z hz => (hy.wfs v hv z hz).on hb3 hb3.size) (hx.na u hu) (hy.na v hv) (hx.nf u hu) (hy.nf v hv)
 have c2 : ∀ w, Below W.heap.size W w → YC 56 #[.slice x.bA x.bars.length x.bc, .slice y.bA y.bars.length y.bc] w (YR (.bool (decide (x.bars.map Bv.bt = y.bars.map Bv.bt))) w) := fun w hb => qEqB_any x.bA y.bA x.bc y.bc x.bars y.bars w (hx.bars.on hb hb.size) (hy.bars.on hb hb.size) Om Om
 have c3 : ∀ w, Below W.heap.size W w → YC 57 #[.slice x.fA x.fts.length x.fc, .slice y.fA y.fts.length y.fc, .func (.func 58) #[] #[]] w (YR (.bool (decide (x.fts.map Fv.ft = y.fts.map Fv.ft))) w) := fun w hb => qEqF_any x.fA y.fA x.fc y.fc x.fts y.fts w (hx.fts.top.on hb hb.size) (hy.fts.top.on hb hb.size) Om Om fun u hu v hv w2 hb2 => by
  have hb3 := hb.trans (hb2.mono hb.size)
  exact qSameF_any u v w2 ((hx.fts.each u hu).on hb3 hb3.size) ((hy.fts.each v hv).on hb3 hb3.size) (by have := hx.fts.m u hu; omega) (by have := hy.fts.m v hv; omega)
 refine zL Tryz.func26 (xN [] fun b2 => xN [] fun b3 => kD 9 [1, 0] x.name y.name (fun h1 => ?_) (fun h1 => ?_))
 rotate_left
 ·exact zB [] Z5 fun w hO => hno w hO.below fun e => h1 (congrArg Rt.name e)
 refine x_eqa (p := fun u v : Ver => u = v) 23 kV op_eq_verQ 15 [1, 0] x.ver y.ver (fun h2 => ?_) (fun h2 => ?_)
 rotate_left
 ·exact zB [] Z5 fun w hO => hno w hO.below fun e => h2 (congrArg Rt.ver e)
 refine zE (v := .bool (decide (x.needs.map Nv.nt = y.needs.map Nv.nt))) [1, 0] (fun w hO => c1 w hO.below) (bS 22 (x.needs.map Nv.nt = y.needs.map Nv.nt) (fun h3 => ?_) (fun h3 => ?_))
 rotate_left
 ·exact zB [] Z5 fun w hO => hno w hO.below fun e => h3 (congrArg Rt.needs e)
 refine zE (v := .bool (decide (x.bars.map Bv.bt = y.bars.map Bv.bt))) [1, 0] (fun w hO => c2 w hO.below) (bS 29 (x.bars.map Bv.bt = y.bars.map Bv.bt) (fun h4 => ?_) (fun h4 => ?_))
 rotate_left
 ·exact zB [] Z5 fun w hO => hno w hO.below fun e => h4 (congrArg Rt.bars e)
 refine zE (v := .bool (decide (x.fts.map Fv.ft = y.fts.map Fv.ft))) [1, 0] (fun w hO => c3 w hO.below) (bS 36 (x.fts.map Fv.ft = y.fts.map Fv.ft) (fun h5 => ?_) (fun h5 => ?_))
 ·refine zB [] Z4 fun w hO => ⟨?_, hO.below⟩
  rw [decide_eq_true (show x.rt = y.rt by unfold Rv.rt kC; rw [h1, h2, h3, h4, h5])]
 ·exact zB [] Z5 fun w hO => hno w hO.below fun e => h5 (congrArg Rt.fts e)
end
section
set_option linter.unnecessarySimpa false
theorem RecO.inn {x : Rv} {ob L : List Blk} {M : List Nat} {W w : World} (h : RecO x ob) (hO : Own M W w L) (hs : ∀ b ∈ ob, b ∈ L) (hB : tM x.rt) (hF : FewR x.rt 4096) : RcIn w w.heap.size x := by
 obtain ⟨o1, o2, o4, o7, o8, rfl, h1, h4, h7⟩ := h
 exact rec_inn h1 h4 h7 hO (fun b hb => hs b (by simp [hb])) (fun b hb => hs b (by simp [hb])) (fun b hb => hs b (by simp [hb])) (fun b hb => hs b (by simp [hb])) (fun b hb => hs b (by simp [hb])) hB hF
def ParV (s : List UInt8) (v : Value) (ob : List Blk) : Prop := ∃ x, v = .tuple #[rvV x, YI (jI s).2.1, YI (jI s).2.2] ∧ x.rt = (jI s).1 ∧ RecO x ob ∧ tM x.rt ∧ FewR x.rt 4096
theorem parse_call (s : List UInt8) (W : World) (hs : s.length ≤ 1000000) (hK : RecLib W) (hL : LyAt W) : YC 20 #[.string (mkS s)] W fun e w' => ∃ v ob, e = .returned v ∧ ParV s v ob ∧ Own [] W w' ob :=
 (qParse_any s W hs hK hL).mono fun e w' ⟨⟨x, ob, q1, q2, q3, q4, q5, q6⟩⟩ => ⟨_, ob, q1, ⟨x, rfl, q2, q3, q4, q5⟩, q6⟩
def awS1 : List UInt8 := [112, 97, 99, 107, 97, 103, 101, 32, 97, 112, 112, 32, 49, 46, 48, 46, 48, 10, 110, 101, 101, 100, 10, 97, 110, 121, 32, 98, 32, 120, 32, 102, 117, 108, 108, 32, 94, 49, 10, 119, 104, 101, 110, 32, 111, 115, 32, 61, 32, 120, 10, 98, 97, 114, 32, 99, 32, 42, 10, 102, 101, 97, 116, 117, 114, 101, 32, 121, 32, 98, 47, 122, 10]
def awS2 : List UInt8 := [112, 97, 99, 107, 97, 103, 101, 32, 97, 112, 112, 32, 49, 46, 48, 46, 48, 10, 97, 110, 121, 32, 98, 32, 45, 32, 102, 117, 108, 108, 32, 42, 10]
theorem aw1 : (jI awS1).2 = (0, 0) ∧ (jI awS1).1.needs.length = 1 ∧ (jI awS1).1.bars.length = 1 ∧ (kR (jI awS1).1).1 = 0 ∧ (vN (jI awS1).1).length = 73 := by decide +kernel
theorem aw2 : (jI awS2).2 = (2, 2) := by decide +kernel
theorem awake12_any (W : World) (hK : RecLib W) (hL : LyAt W) : YC 13 #[] W (YR (.bool true) W) := by
 obtain ⟨a1, a2, a3, a4, a5⟩ := aw1
 have c1 : ∀ w, Below W.heap.size W w → YC 20 #[.string (mkS awS1)] w fun e w' => ∃ v ob, e = .returned v ∧ (∃ x, v = .tuple #[rvV x, YI 0, YI 0] ∧ x.rt = (jI awS1).1 ∧ RecO x ob ∧ tM x.rt ∧ FewR x.rt 4096) ∧ Own [] w w' ob := fun w hb => by
  refine (parse_call awS1 w (by decide) (hK.on hb) (hL.on hb)).mono fun e w' ⟨v, ob, q1, ⟨x, q2, q3⟩, q4⟩ => ⟨v, ob, q1, ⟨x, ?_, q3⟩, q4⟩
  rw [q2, a1]
 have c2 : ∀ w, Below W.heap.size W w → YC 20 #[.string (mkS awS2)] w fun e w' => ∃ v ob, e = .returned v ∧ (∃ x, v = .tuple #[rvV x, YI 2, YI 2]) ∧ Own [] w w' ob := fun w hb => by
  refine (parse_call awS2 w (by decide) (hK.on hb) (hL.on hb)).mono fun e w' ⟨v, ob, q1, ⟨x, q2, q3⟩, q4⟩ => ⟨v, ob, q1, ⟨x, ?_⟩, q4⟩
  rw [q2, aw2]
 refine zL Tryz.func13 (jX (R := fun v ob => ∃ x, v = .tuple #[rvV x, YI 0, YI 0] ∧ x.rt = (jI awS1).1 ∧ RecO x ob ∧ tM x.rt ∧ FewR x.rt 4096) [] (fun w hO => c1 w hO.below) ?_)
 rintro v ob ⟨x, rfl, hx, hR, hB, hF⟩
 have hp : ∀ w, Own [] W w ob → YC 16 #[rvV x] w (YR (.tuple #[.string (mkS (vN x.rt)), YI 0]) w) := fun w hO => by
  have := qPrint_any x w (hR.inn hO (fun b hb => hb) hB hF) (hK.on hO.below)
  have h0 : (kR x.rt).1 = 0 := by rw [hx]; exact a4
  rw [printR, h0, if_pos rfl] at this
  exact this
 have hn : x.needs.length = 1 := by
  have : x.rt.needs.length = 1 := by rw [hx]; exact a2
  simpa [Rv.rt] using this
 have hbr : x.bars.length = 1 := by
  have : x.rt.bars.length = 1 := by rw [hx]; exact a3
  simpa [Rv.rt] using this
 have hl : (vN x.rt).length = 73 := by rw [hx]; exact a5
 refine zY [] fun b1 => zE (v := .tuple #[.string (mkS (vN x.rt)), YI 0]) [0, 0] (fun w hO => hp w (hO.past 1 ob)) (jX (R := fun v ob => ∃ x, v = .tuple #[rvV x, YI 2, YI 2]) [] (fun w hO => c2 w hO.below) ?_)
 rintro v2 ob2 ⟨y, rfl⟩
 refine zY [] fun b6 => y9 38 [0, 1] ((x.needs.length : Int) = 1) (fun _ => y9 44 [1] ((x.bars.length : Int) = 1) (fun _ => y9 49 [] (((vN x.rt).length : Int) = 73) (fun _ => ?_) (fun h => absurd (by rw [hl]; rfl) h)) (fun h => absurd (by rw [hbr]; rfl) h)) (fun h => absurd (by rw [hn]; rfl) h)
 exact zB [] Z4 fun w hO => ⟨rfl, hO.below⟩
end
section
open Go.ChangeShapes Go.WideShapes Go.ChangeAt Go.RowKit Go.Deep
theorem mk_self10 (p : ByteArray) : mkS p.data.toList = p := by unfold mkS; simp
theorem list_of10 {α : Type} {p : Nat → α → Prop} : ∀ (n : Nat), (∀ i, i < n → ∃ x, p i x) → ∃ l : List α, l.length = n ∧ ∀ i (h : i < l.length), p i l[i]
 | 0, _ => ⟨[], rfl, fun i h => absurd h (Nat.not_lt_zero _)⟩
 | n + 1, h => by
  obtain ⟨l, hl, hp⟩ := list_of10 n fun i hi => h i (Nat.lt_succ_of_lt hi)
  obtain ⟨x, hx⟩ := h n (Nat.lt_succ_self n)
  refine ⟨l ++ [x], by simp [hl], fun i hi => ?_⟩
  by_cases h1 : i < l.length
  ·rw [List.getElem_append_left h1]; exact hp i h1
  ·have : i = n := by simp at hi; omega
   subst this
   rw [List.getElem_append_right Om]
   simpa [hl] using hx
theorem cell_spot10 {w : World} {a : Addr} {v : Value} (h : w.cell? a = some v) : a.spot = none := by
 unfold World.cell? at h
 split at h
 ·split at h
  ·cases h
  ·rename_i hs; simpa using hs
 ·cases h
theorem addr_at10 {a : Addr} (h : a.spot = none) (k : Nat) : a.add k = ⟨a.block, a.off + k, none⟩ := by
 obtain ⟨b, o, s⟩ := a
 obtain rfl : s = none := h
 exact yX b o k
theorem vC {α : Type} {g : α → List Value} {sz : Nat} (h0 : 0 < sz) (hg : ∀ x, (g x).length = sz) {p : α → Prop} {W : World} {a : Addr} {len : Nat} (hel : ∀ i, i < len → ∃ x, p x ∧ W.cells? 0 (a.add (i * sz)) sz = some (g x)) :
  ∃ l : List α, l.length = len ∧ Reads g W W.heap.size (some a) l ∧ ∀ x ∈ l, p x := by
 obtain ⟨l, hll, hp⟩ := list_of10 (p := fun i (x : α) => p x ∧ W.cells? 0 (a.add (i * sz)) sz = some (g x)) len hel
 refine ⟨l, hll, fun hl0 => ?_, fun x hx => ?_⟩
 ·have c0 := (hp 0 hl0).2
  have hc : ∀ i (hi : i < l.length) j u, (g l[i])[j]? = some u → W.cell? ((a.add (i * sz)).add j) = some u := fun i hi j u hj => by
   obtain ⟨_, hn, hx⟩ := World.cells?_some (hp i hi).2
   have hjs : j < sz := by have := (List.getElem?_eq_some_iff.1 hj).1; rwa [hg] at this
   first | rw [hx j hjs, hj] | (have := hx j hjs; rw [this]; exact hj)
  have s0 : (g l[0])[0]? = some ((g l[0])[0]'(by rw [hg]; exact h0)) := List.getElem?_eq_getElem _
  have sp : a.spot = none := by
   have := cell_spot10 (hc 0 hl0 0 _ s0)
   simpa [Addr.add] using this
  refine ⟨a.block, a.off, ?_, ?_, fun k u hk => ?_⟩
  ·obtain ⟨b, o, s⟩ := a
   obtain rfl : s = none := sp
   rfl
  ·have := World.cells?_block c0 h0
   rwa [addr_at10 sp] at this
  ·have hkl : k < l.length * sz := by have := (List.getElem?_eq_some_iff.1 hk).1; rwa [qL hg] at this
   have hi : k / sz < l.length := Nat.div_lt_of_lt_mul (by rwa [Nat.mul_comm] at hkl)
   have e : k / sz * sz + k % sz = k := Nat.div_add_mod' k sz
   have hms : k % sz < sz := Nat.mod_lt _ h0
   have h2 := flat_at hg l (k / sz) hi
   have h3 : (g l[k / sz])[k % sz]? = some u := by
    rw [← h2, List.getElem?_take, if_pos hms, List.getElem?_drop, e]; exact hk
   have := hc (k / sz) hi (k % sz) u h3
   rw [addr_at10 sp, yX, Nat.add_assoc, e] at this
   exact this
 ·obtain ⟨i, hi, rfl⟩ := List.mem_iff_getElem.1 hx
  exact (hp i hi).1
theorem back10 {v : Value} {cs : Array Value} {l : List Value} (h : v = .agg cs) (e : v.cells.toList = l) : v = .agg l.toArray := by
 subst h
 have : cs.toList = l := e
 rw [← this]
section
variable {H : Type} {enc : TypeId × Value → H} {W : World}
theorem kG {fuel : Nat} {cs : List Value} {x : DataW H × List MemPlace} (h : DataW.trod enc Tryz.prog W 0 (fun _ => true) true fuel 9 cs = some x) : ∃ p : List UInt8, cs = [.string (mkS p)] := by
 obtain ⟨p, e, _, hw⟩ := DataW.trod_string Tryz.underlying9 h
 exact ⟨p.data.toList, by rw [mk_self10]; exact e⟩
end
end
section
open Go.ChangeShapes Go.WideShapes Go.ChangeAt Go.RowKit Go.Deep
section
variable {H : Type} {enc : TypeId × Value → H} {W : World}
theorem size_txs11 : Tryz.prog.cellsOf 58 = 1 := by kernel_rfl
theorem jN : Tryz.prog.cellsOf 9 = 1 := by kernel_rfl
theorem size_fv11 : Tryz.prog.cellsOf 63 = 2 := by kernel_rfl
theorem cells_txs {fuel : Nat} {cs : List Value} {x : DataW H × List MemPlace} (h : DataW.trod enc Tryz.prog W 0 (fun _ => true) true fuel 58 cs = some x) : ∃ (A : Option Addr) (cap : Nat) (l : List (List UInt8)), cs = [.slice A l.length cap] ∧ Reads yE W W.heap.size A l ∧ l.length ≤ cap ∧ cap ≤ maxLen := by
 rcases DataW.trod_slice Tryz.underlying58 h with ⟨hcs, _⟩ | ⟨a, len, cap, elems, rest, n, _, hcs, _, hb, hl, hm, hlen, hel, _, _⟩
 ·exact ⟨none, 0, [], hcs, fun h => by simp at h, Nat.le_refl _, Nat.zero_le _⟩
 ·subst hcs
  rw [jN] at hel
  obtain ⟨l, hll, hr, _⟩ := vC (g := yE) (sz := 1) (p := fun _ => True) (by decide) yH (W := W) (a := a) (len := len) fun i hi => by
   have h1 := hel i hi
   rw [List.getElem?_eq_getElem Om] at h1
   obtain ⟨cs, e1, e2⟩ := Option.bind_eq_some_iff.1 h1
   obtain ⟨c, e3⟩ := kG e2
   exact ⟨c, trivial, by rw [e1, e3]; rfl⟩
  exact ⟨some a, cap, l, by rw [hll], hr, by omega, hm⟩
theorem cells_fv {fuel : Nat} {cs : List Value} {x : DataW H × List MemPlace} (h : DataW.trod enc Tryz.prog W 0 (fun _ => true) true fuel 63 cs = some x) : ∃ y : Fv, cs = fvC y ∧ Reads yE W W.heap.size y.A y.of := by
 obtain ⟨xs, n, _, _, hl, hxl, hg⟩ := DataW.trod_struct Tryz.underlying63 h
 rw [size_fv11] at hl
 match cs, hl with
 | [c0, c1], _ =>
  have g : ∀ i, i < 2 → ∃ y, xs[i]? = some y := fun i hi => ⟨_, List.getElem?_eq_getElem (by rw [hxl]; exact hi)⟩
  obtain ⟨y0, e0⟩ := g 0 Om
  obtain ⟨y1, e1⟩ := g 1 Om
  obtain ⟨a, ha⟩ := kG ((hg 0 _ rfl).trans e0)
  obtain ⟨B, c, l, hb, hr, _, _⟩ := cells_txs ((hg 1 _ rfl).trans e1)
  have ha2 : List.take (Tryz.prog.cellsOf 9) (List.drop 0 [c0, c1]) = _ := ha
  have hb2 : List.take (Tryz.prog.cellsOf 58) (List.drop 1 [c0, c1]) = _ := hb
  rw [jN] at ha2
  rw [size_txs11] at hb2
  obtain rfl : c0 = _ := List.singleton_inj.1 ha2
  obtain rfl : c1 = _ := List.singleton_inj.1 hb2
  exact ⟨⟨a, B, l, c⟩, rfl, hr⟩
end
end
section
open Go.ChangeShapes Go.WideShapes Go.ChangeAt Go.RowKit
theorem open_texts {H : Type} {enc : TypeId × Value → H} {W : World} {base : Nat} {v : Value} {d : DataW H} {ps : List MemPlace} (hval : Value.okWide Tryz.prog W .any base 58 v)
  (h : DataW.Trod enc Tryz.prog W 0 (fun _ => true) true 58 v d ps) : ∃ l : List (List UInt8), ReadsT W W.heap.size v l ∧ l.length ≤ maxLen ∧ ∀ x ∈ l, x.length ≤ maxLen := by
 obtain ⟨A, len, cap, rfl⟩ := okWide_slice Tryz.underlying58 hval
 obtain ⟨fuel, hf⟩ := h
 rcases open_strings Tryz.underlying58 Tryz.underlying9 strCells1 hf with ⟨hcs, _⟩ | ⟨a, len', cap', ss, hcs, _, hl, hm, hz, _, hcell, hws⟩
 ·simp [Value.cells] at hcs
  obtain ⟨rfl, rfl, rfl⟩ := hcs
  exact ⟨[], ⟨none, 0, rfl, fun h => by cases h⟩, by simp, by simp⟩
 ·simp [Value.cells] at hcs
  obtain ⟨rfl, rfl, rfl⟩ := hcs
  simp only [if_true] at hz
  have hlen : ((ss.take len).map (·.data.toList)).length = len := by rw [List.length_map, List.length_take]; omega
  refine ⟨(ss.take len).map (·.data.toList), ⟨some a, cap, by rw [hlen], fun h0 => ⟨a, rfl, ?_, fun j hj => ?_⟩⟩, by rw [hlen]; omega, fun x hx => ?_⟩
  ·have := cell_lt (hcell 0 Om)
   rwa [addr_block] at this
  ·have hj2 : j < ss.length := by omega
   rw [hcell j hj2, List.getElem_map, List.getElem_take]
   simp only [List.getD, List.getElem?_eq_getElem hj2, Option.getD_some]
   rfl
  ·obtain ⟨s, hs, rfl⟩ := List.mem_map.1 hx
   have := hws s (List.mem_of_mem_take hs)
   rw [len_data]; exact this
theorem powType : (Tryz.prog.globals[3]?).map (·.type) = some 269 := by kernel_rfl
theorem powNamed : Tryz.prog.globalNamed "internal/strconv.uint64pow10" = some 3 := by kernel_rfl
theorem powCells : Tryz.prog.cellsOf 269 = 20 := by kernel_rfl
theorem u64Cells : Tryz.prog.cellsOf 36 = 1 := by kernel_rfl
theorem hasTab_of {W : World} {l : List (String × DataW Unit)} (h : laidMetH Tryz.prog l W) (e : (l.filter fun x => x.1 == "internal/strconv.uint64pow10") = [("internal/strconv.uint64pow10", Lib.tabData .u64 Lib.pow10Tab)]) : HasTab W := by
 have h2 := h.filter (fun x => x.1 == "internal/strconv.uint64pow10")
 rw [e] at h2
 exact Lib.tabBelow_of_tabIs (Lib.tabIs_of_head (rest := []) powNamed powType Tryz.underlying269 Tryz.underlying36 u64Cells powCells h2)
end
section
open Go.ChangeShapes Go.WideShapes Go.ChangeAt Go.RowKit Go.Deep
theorem mk_self (p : ByteArray) : mkS p.data.toList = p := by unfold mkS; simp
def Ver.wide (v : Ver) : Prop := v.pre.length ≤ maxLen ∧ v.build.length ≤ maxLen
def Ver.i64 (v : Ver) : Prop := ((-9223372036854775808 ≤ v.maj ∧ v.maj ≤ 9223372036854775807) ∧ (-9223372036854775808 ≤ v.min ∧ v.min ≤ 9223372036854775807)) ∧ (-9223372036854775808 ≤ v.pat ∧ v.pat ≤ 9223372036854775807)
theorem wf_i64 {a : Int} (h : (Lit.int .i64 a).wf = true) : -9223372036854775808 ≤ a ∧ a ≤ 9223372036854775807 := bounds_i64 h
section
variable {H : Type} {enc : TypeId × Value → H} {W : World}
theorem cells_int {fuel : Nat} {cs : List Value} {x : DataW H × List MemPlace} (h : DataW.trod enc Tryz.prog W 0 (fun _ => true) true fuel 3 cs = some x) : ∃ a, cs = [.int .i64 a] ∧ (-9223372036854775808 ≤ a ∧ a ≤ 9223372036854775807) := by
 obtain ⟨a, e, _, hw⟩ := DataW.trod_int Tryz.underlying3 h
 exact ⟨a, e, wf_i64 hw⟩
theorem cells_str {fuel : Nat} {cs : List Value} {x : DataW H × List MemPlace} (h : DataW.trod enc Tryz.prog W 0 (fun _ => true) true fuel 9 cs = some x) : ∃ p : List UInt8, cs = [.string (mkS p)] ∧ p.length ≤ maxLen := by
 obtain ⟨p, e, _, hw⟩ := DataW.trod_string Tryz.underlying9 h
 exact ⟨p.data.toList, by rw [mk_self]; exact e, by rw [len_data]; exact hw⟩
theorem cells_bool {fuel : Nat} {cs : List Value} {x : DataW H × List MemPlace} (h : DataW.trod enc Tryz.prog W 0 (fun _ => true) true fuel 4 cs = some x) : ∃ a, cs = [.bool a] := by
 obtain ⟨a, e, _⟩ := DataW.trod_bool Tryz.underlying4 h
 exact ⟨a, e⟩
theorem size_int : Tryz.prog.cellsOf 3 = 1 := by kernel_rfl
theorem size_str : Tryz.prog.cellsOf 9 = 1 := by kernel_rfl
theorem size_ver : Tryz.prog.cellsOf 23 = 5 := by kernel_rfl
theorem cells_ver {fuel : Nat} {cs : List Value} {x : DataW H × List MemPlace} (h : DataW.trod enc Tryz.prog W 0 (fun _ => true) true fuel 23 cs = some x) : ∃ v : Ver, cs = (kV v).cells.toList ∧ v.wide ∧ v.i64 := by
 obtain ⟨xs, n, _, _, hl, hxl, hg⟩ := DataW.trod_struct Tryz.underlying23 h
 rw [size_ver] at hl
 match cs, hl with
 | [c0, c1, c2, c3, c4], _ =>
  have g : ∀ i, i < 5 → ∃ y, xs[i]? = some y := fun i hi => ⟨_, List.getElem?_eq_getElem (by rw [hxl]; exact hi)⟩
  obtain ⟨y0, e0⟩ := g 0 Om
  obtain ⟨y1, e1⟩ := g 1 Om
  obtain ⟨y2, e2⟩ := g 2 Om
  obtain ⟨y3, e3⟩ := g 3 Om
  obtain ⟨y4, e4⟩ := g 4 Om
  obtain ⟨a, ha, wa⟩ := cells_int ((hg 0 _ rfl).trans e0)
  obtain ⟨b, hb, wb⟩ := cells_int ((hg 1 _ rfl).trans e1)
  obtain ⟨c, hc, wc⟩ := cells_int ((hg 2 _ rfl).trans e2)
  obtain ⟨p, hp, wp⟩ := cells_str ((hg 3 _ rfl).trans e3)
  obtain ⟨q, hq, wq⟩ := cells_str ((hg 4 _ rfl).trans e4)
  have ha2 : List.take (Tryz.prog.cellsOf 3) (List.drop 0 [c0, c1, c2, c3, c4]) = _ := ha
  have hb2 : List.take (Tryz.prog.cellsOf 3) (List.drop 1 [c0, c1, c2, c3, c4]) = _ := hb
  have hc2 : List.take (Tryz.prog.cellsOf 3) (List.drop 2 [c0, c1, c2, c3, c4]) = _ := hc
  have hp2 : List.take (Tryz.prog.cellsOf 9) (List.drop 3 [c0, c1, c2, c3, c4]) = _ := hp
  have hq2 : List.take (Tryz.prog.cellsOf 9) (List.drop 4 [c0, c1, c2, c3, c4]) = _ := hq
  rw [size_int] at ha2 hb2 hc2
  rw [size_str] at hp2 hq2
  obtain rfl : c0 = _ := List.singleton_inj.1 ha2
  obtain rfl : c1 = _ := List.singleton_inj.1 hb2
  obtain rfl : c2 = _ := List.singleton_inj.1 hc2
  obtain rfl : c3 = _ := List.singleton_inj.1 hp2
  obtain rfl : c4 = _ := List.singleton_inj.1 hq2
  exact ⟨⟨a, b, c, p, q⟩, rfl, ⟨wp, wq⟩, ⟨⟨wa, wb⟩, wc⟩⟩
def Cu.wide (c : Cu) : Prop := c.v.wide ∧ c.v.i64 ∧ (-9223372036854775808 ≤ c.e ∧ c.e ≤ 9223372036854775807)
def Sp.wide (s : Sp) : Prop := s.lo.wide ∧ s.hi.wide
end
end
section
open Go.ChangeShapes Go.WideShapes Go.ChangeAt Go.RowKit Go.Deep
structure RcRd (w : World) (B : Nat) (x : Rv) : Prop where
 needs : Reads nvC w B x.nA x.needs
 any : ∀ n ∈ x.needs, Reads wvC w B n.A n.any
 wfs : ∀ n ∈ x.needs, ∀ u ∈ n.any, Reads yE w B u.A u.fs
 bars : Reads bvC w B x.bA x.bars
 ftop : Reads fvC w B x.fA x.fts
 feach : ∀ y ∈ x.fts, Reads yE w B y.A y.of
theorem RcRd.on {w w' : World} {B B' : Nat} {x : Rv} (h : RcRd w B x) (hb : Below B w w') (hB : B ≤ B') : RcRd w' B' x :=
 ⟨h.needs.on hb hB, fun n hn => (h.any n hn).on hb hB, fun n hn u hu => (h.wfs n hn u hu).on hb hB, h.bars.on hb hB, h.ftop.on hb hB, fun y hy => (h.feach y hy).on hb hB⟩
theorem wvC_length (x : Wv) : (wvC x).length = 4 := rfl
theorem nvC_length (x : Nv) : (nvC x).length = 3 := rfl
section
variable {H : Type} {enc : TypeId × Value → H} {W : World}
theorem size_bool12 : Tryz.prog.cellsOf 4 = 1 := by kernel_rfl
theorem size_wv12 : Tryz.prog.cellsOf 60 = 4 := by kernel_rfl
theorem size_wvs12 : Tryz.prog.cellsOf 55 = 1 := by kernel_rfl
theorem size_nv12 : Tryz.prog.cellsOf 57 = 3 := by kernel_rfl
theorem size_nvs12 : Tryz.prog.cellsOf 24 = 1 := by kernel_rfl
theorem size_bv12 : Tryz.prog.cellsOf 54 = 3 := by kernel_rfl
theorem size_bvs12 : Tryz.prog.cellsOf 25 = 1 := by kernel_rfl
theorem size_fvs12 : Tryz.prog.cellsOf 26 = 1 := by kernel_rfl
theorem size_ver12 : Tryz.prog.cellsOf 23 = 5 := by kernel_rfl
theorem size_rv12 : Tryz.prog.cellsOf 28 = 9 := by kernel_rfl
theorem cells_wv {fuel : Nat} {cs : List Value} {x : DataW H × List MemPlace} (h : DataW.trod enc Tryz.prog W 0 (fun _ => true) true fuel 60 cs = some x) : ∃ y : Wv, cs = wvC y ∧ Reads yE W W.heap.size y.A y.fs := by
 obtain ⟨xs, n, _, _, hl, hxl, hg⟩ := DataW.trod_struct Tryz.underlying60 h
 rw [size_wv12] at hl
 match cs, hl with
 | [c0, c1, c2, c3], _ =>
  have g : ∀ i, i < 4 → ∃ y, xs[i]? = some y := fun i hi => ⟨_, List.getElem?_eq_getElem (by rw [hxl]; exact hi)⟩
  obtain ⟨y0, e0⟩ := g 0 Om
  obtain ⟨y1, e1⟩ := g 1 Om
  obtain ⟨y2, e2⟩ := g 2 Om
  obtain ⟨y3, e3⟩ := g 3 Om
  obtain ⟨a, ha⟩ := kG ((hg 0 _ rfl).trans e0)
  obtain ⟨b, hb⟩ := kG ((hg 1 _ rfl).trans e1)
  obtain ⟨B, c, l, hc, hr, _, _⟩ := cells_txs ((hg 2 _ rfl).trans e2)
  obtain ⟨d, hd⟩ := cells_bool ((hg 3 _ rfl).trans e3)
  have ha2 : List.take (Tryz.prog.cellsOf 9) (List.drop 0 [c0, c1, c2, c3]) = _ := ha
  have hb2 : List.take (Tryz.prog.cellsOf 9) (List.drop 1 [c0, c1, c2, c3]) = _ := hb
  have hc2 : List.take (Tryz.prog.cellsOf 58) (List.drop 2 [c0, c1, c2, c3]) = _ := hc
  have hd2 : List.take (Tryz.prog.cellsOf 4) (List.drop 3 [c0, c1, c2, c3]) = _ := hd
  rw [jN] at ha2 hb2
  rw [size_txs11] at hc2
  rw [size_bool12] at hd2
  obtain rfl : c0 = _ := List.singleton_inj.1 ha2
  obtain rfl : c1 = _ := List.singleton_inj.1 hb2
  obtain rfl : c2 = _ := List.singleton_inj.1 hc2
  obtain rfl : c3 = _ := List.singleton_inj.1 hd2
  exact ⟨⟨a, b, B, c, l, d⟩, rfl, hr⟩
theorem cells_wvs {fuel : Nat} {cs : List Value} {x : DataW H × List MemPlace} (h : DataW.trod enc Tryz.prog W 0 (fun _ => true) true fuel 55 cs = some x) : ∃ (A : Option Addr) (cap : Nat) (l : List Wv), cs = [.slice A l.length cap] ∧ Reads wvC W W.heap.size A l ∧ ∀ u ∈ l, Reads yE W W.heap.size u.A u.fs := by
 rcases DataW.trod_slice Tryz.underlying55 h with ⟨hcs, _⟩ | ⟨a, len, cap, elems, rest, n, _, hcs, _, hb, hl, hm, hlen, hel, _, _⟩
 ·exact ⟨none, 0, [], hcs, fun h => by simp at h, fun u hu => by cases hu⟩
 ·subst hcs
  rw [size_wv12] at hel
  obtain ⟨l, hll, hr, he⟩ := vC (g := wvC) (sz := 4) (p := fun u => Reads yE W W.heap.size u.A u.fs) (by decide) wvC_length (W := W) (a := a) (len := len) fun i hi => by
   have h1 := hel i hi
   rw [List.getElem?_eq_getElem Om] at h1
   obtain ⟨cs, e1, e2⟩ := Option.bind_eq_some_iff.1 h1
   obtain ⟨c, e3, e4⟩ := cells_wv e2
   exact ⟨c, e4, by rw [e1, e3]⟩
  exact ⟨some a, cap, l, by rw [hll], hr, he⟩
def NvRd (W : World) (y : Nv) : Prop := Reads wvC W W.heap.size y.A y.any ∧ ∀ u ∈ y.any, Reads yE W W.heap.size u.A u.fs
theorem cells_nv {fuel : Nat} {cs : List Value} {x : DataW H × List MemPlace} (h : DataW.trod enc Tryz.prog W 0 (fun _ => true) true fuel 57 cs = some x) : ∃ y : Nv, cs = nvC y ∧ NvRd W y := by
 obtain ⟨xs, n, _, _, hl, hxl, hg⟩ := DataW.trod_struct Tryz.underlying57 h
 rw [size_nv12] at hl
 match cs, hl with
 | [c0, c1, c2], _ =>
  have g : ∀ i, i < 3 → ∃ y, xs[i]? = some y := fun i hi => ⟨_, List.getElem?_eq_getElem (by rw [hxl]; exact hi)⟩
  obtain ⟨y0, e0⟩ := g 0 Om
  obtain ⟨y1, e1⟩ := g 1 Om
  obtain ⟨y2, e2⟩ := g 2 Om
  obtain ⟨B, c, l, ha, hr, he⟩ := cells_wvs ((hg 0 _ rfl).trans e0)
  obtain ⟨a, hb⟩ := kG ((hg 1 _ rfl).trans e1)
  obtain ⟨b, hc⟩ := kG ((hg 2 _ rfl).trans e2)
  have ha2 : List.take (Tryz.prog.cellsOf 55) (List.drop 0 [c0, c1, c2]) = _ := ha
  have hb2 : List.take (Tryz.prog.cellsOf 9) (List.drop 1 [c0, c1, c2]) = _ := hb
  have hc2 : List.take (Tryz.prog.cellsOf 9) (List.drop 2 [c0, c1, c2]) = _ := hc
  rw [size_wvs12] at ha2
  rw [jN] at hb2 hc2
  obtain rfl : c0 = _ := List.singleton_inj.1 ha2
  obtain rfl : c1 = _ := List.singleton_inj.1 hb2
  obtain rfl : c2 = _ := List.singleton_inj.1 hc2
  exact ⟨⟨B, c, l, a, b⟩, rfl, hr, he⟩
theorem cells_nvs {fuel : Nat} {cs : List Value} {x : DataW H × List MemPlace} (h : DataW.trod enc Tryz.prog W 0 (fun _ => true) true fuel 24 cs = some x) : ∃ (A : Option Addr) (cap : Nat) (l : List Nv), cs = [.slice A l.length cap] ∧ Reads nvC W W.heap.size A l ∧ ∀ u ∈ l, NvRd W u := by
 rcases DataW.trod_slice Tryz.underlying24 h with ⟨hcs, _⟩ | ⟨a, len, cap, elems, rest, n, _, hcs, _, hb, hl, hm, hlen, hel, _, _⟩
 ·exact ⟨none, 0, [], hcs, fun h => by simp at h, fun u hu => by cases hu⟩
 ·subst hcs
  rw [size_nv12] at hel
  obtain ⟨l, hll, hr, he⟩ := vC (g := nvC) (sz := 3) (p := NvRd W) (by decide) nvC_length (W := W) (a := a) (len := len) fun i hi => by
   have h1 := hel i hi
   rw [List.getElem?_eq_getElem Om] at h1
   obtain ⟨cs, e1, e2⟩ := Option.bind_eq_some_iff.1 h1
   obtain ⟨c, e3, e4⟩ := cells_nv e2
   exact ⟨c, e4, by rw [e1, e3]⟩
  exact ⟨some a, cap, l, by rw [hll], hr, he⟩
theorem cells_bv {fuel : Nat} {cs : List Value} {x : DataW H × List MemPlace} (h : DataW.trod enc Tryz.prog W 0 (fun _ => true) true fuel 54 cs = some x) : ∃ y : Bv, cs = bvC y := by
 obtain ⟨xs, n, _, _, hl, hxl, hg⟩ := DataW.trod_struct Tryz.underlying54 h
 rw [size_bv12] at hl
 match cs, hl with
 | [c0, c1, c2], _ =>
  have g : ∀ i, i < 3 → ∃ y, xs[i]? = some y := fun i hi => ⟨_, List.getElem?_eq_getElem (by rw [hxl]; exact hi)⟩
  obtain ⟨y0, e0⟩ := g 0 Om
  obtain ⟨y1, e1⟩ := g 1 Om
  obtain ⟨y2, e2⟩ := g 2 Om
  obtain ⟨a, ha⟩ := kG ((hg 0 _ rfl).trans e0)
  obtain ⟨b, hb⟩ := kG ((hg 1 _ rfl).trans e1)
  obtain ⟨c, hc⟩ := kG ((hg 2 _ rfl).trans e2)
  have ha2 : List.take (Tryz.prog.cellsOf 9) (List.drop 0 [c0, c1, c2]) = _ := ha
  have hb2 : List.take (Tryz.prog.cellsOf 9) (List.drop 1 [c0, c1, c2]) = _ := hb
  have hc2 : List.take (Tryz.prog.cellsOf 9) (List.drop 2 [c0, c1, c2]) = _ := hc
  rw [jN] at ha2 hb2 hc2
  obtain rfl : c0 = _ := List.singleton_inj.1 ha2
  obtain rfl : c1 = _ := List.singleton_inj.1 hb2
  obtain rfl : c2 = _ := List.singleton_inj.1 hc2
  exact ⟨⟨a, b, c⟩, rfl⟩
theorem cells_bvs {fuel : Nat} {cs : List Value} {x : DataW H × List MemPlace} (h : DataW.trod enc Tryz.prog W 0 (fun _ => true) true fuel 25 cs = some x) : ∃ (A : Option Addr) (cap : Nat) (l : List Bv), cs = [.slice A l.length cap] ∧ Reads bvC W W.heap.size A l := by
 rcases DataW.trod_slice Tryz.underlying25 h with ⟨hcs, _⟩ | ⟨a, len, cap, elems, rest, n, _, hcs, _, hb, hl, hm, hlen, hel, _, _⟩
 ·exact ⟨none, 0, [], hcs, fun h => by simp at h⟩
 ·subst hcs
  rw [size_bv12] at hel
  obtain ⟨l, hll, hr, _⟩ := vC (g := bvC) (sz := 3) (p := fun _ => True) (by decide) bJ (W := W) (a := a) (len := len) fun i hi => by
   have h1 := hel i hi
   rw [List.getElem?_eq_getElem Om] at h1
   obtain ⟨cs, e1, e2⟩ := Option.bind_eq_some_iff.1 h1
   obtain ⟨c, e3⟩ := cells_bv e2
   exact ⟨c, trivial, by rw [e1, e3]⟩
  exact ⟨some a, cap, l, by rw [hll], hr⟩
theorem cells_fvs {fuel : Nat} {cs : List Value} {x : DataW H × List MemPlace} (h : DataW.trod enc Tryz.prog W 0 (fun _ => true) true fuel 26 cs = some x) : ∃ (A : Option Addr) (cap : Nat) (l : List Fv), cs = [.slice A l.length cap] ∧ Reads fvC W W.heap.size A l ∧ ∀ y ∈ l, Reads yE W W.heap.size y.A y.of := by
 rcases DataW.trod_slice Tryz.underlying26 h with ⟨hcs, _⟩ | ⟨a, len, cap, elems, rest, n, _, hcs, _, hb, hl, hm, hlen, hel, _, _⟩
 ·exact ⟨none, 0, [], hcs, fun h => by simp at h, fun u hu => by cases hu⟩
 ·subst hcs
  rw [size_fv11] at hel
  obtain ⟨l, hll, hr, he⟩ := vC (g := fvC) (sz := 2) (p := fun y => Reads yE W W.heap.size y.A y.of) (by decide) wA (W := W) (a := a) (len := len) fun i hi => by
   have h1 := hel i hi
   rw [List.getElem?_eq_getElem Om] at h1
   obtain ⟨cs, e1, e2⟩ := Option.bind_eq_some_iff.1 h1
   obtain ⟨c, e3, e4⟩ := cells_fv e2
   exact ⟨c, e4, by rw [e1, e3]⟩
  exact ⟨some a, cap, l, by rw [hll], hr, he⟩
theorem open_rec {base : Nat} {v : Value} {d : DataW H} {ps : List MemPlace} (hval : Value.okWide Tryz.prog W .any base 28 v) (h : DataW.Trod enc Tryz.prog W 0 (fun _ => true) true 28 v d ps) : ∃ x : Rv, v = rvV x ∧ RcRd W W.heap.size x := by
 obtain ⟨cs, hc, _⟩ := okWide_struct Tryz.underlying28 hval
 obtain ⟨fuel, hf⟩ := h
 obtain ⟨xs, n, _, _, hl, hxl, hg⟩ := DataW.trod_struct Tryz.underlying28 hf
 rw [size_rv12] at hl
 have g : ∀ i, i < 5 → ∃ y, xs[i]? = some y := fun i hi => ⟨_, List.getElem?_eq_getElem (by rw [hxl]; exact hi)⟩
 obtain ⟨y0, e0⟩ := g 0 Om
 obtain ⟨y1, e1⟩ := g 1 Om
 obtain ⟨y2, e2⟩ := g 2 Om
 obtain ⟨y3, e3⟩ := g 3 Om
 obtain ⟨y4, e4⟩ := g 4 Om
 obtain ⟨a, ha⟩ := kG ((hg 0 _ rfl).trans e0)
 obtain ⟨u, hu, _, _⟩ := cells_ver ((hg 1 _ rfl).trans e1)
 obtain ⟨nA, nc, ns, hn, rn, rn2⟩ := cells_nvs ((hg 2 _ rfl).trans e2)
 obtain ⟨bA, bc, bs, hb, rb⟩ := cells_bvs ((hg 3 _ rfl).trans e3)
 obtain ⟨fA, fc, fs, hq, rf, rf2⟩ := cells_fvs ((hg 4 _ rfl).trans e4)
 generalize hcv : v.cells.toList = L at *
 have ha2 : List.take (Tryz.prog.cellsOf 9) (List.drop 0 L) = _ := ha
 have hu2 : List.take (Tryz.prog.cellsOf 23) (List.drop 1 L) = _ := hu
 have hn2 : List.take (Tryz.prog.cellsOf 24) (List.drop 6 L) = _ := hn
 have hb2 : List.take (Tryz.prog.cellsOf 25) (List.drop 7 L) = _ := hb
 have hq2 : List.take (Tryz.prog.cellsOf 26) (List.drop 8 L) = _ := hq
 rw [jN] at ha2
 rw [size_ver12] at hu2
 rw [size_nvs12] at hn2
 rw [size_bvs12] at hb2
 rw [size_fvs12] at hq2
 refine ⟨⟨a, u.maj, u.min, u.pat, u.pre, u.build, nA, nc, ns, bA, bc, bs, fA, fc, fs⟩, ?_, ⟨rn, fun y hy => (rn2 y hy).1, fun y hy => (rn2 y hy).2, rb, rf, rf2⟩⟩
 refine (back10 hc (hcv.trans (?_ : L = rvC ⟨a, u.maj, u.min, u.pat, u.pre, u.build, nA, nc, ns, bA, bc, bs, fA, fc, fs⟩))).trans rfl
 match L, hl with
 | [c0, c1, c2, c3, c4, c5, c6, c7, c8], _ =>
  obtain rfl : c0 = _ := List.singleton_inj.1 ha2
  obtain rfl : c6 = _ := List.singleton_inj.1 hn2
  obtain rfl : c7 = _ := List.singleton_inj.1 hb2
  obtain rfl : c8 = _ := List.singleton_inj.1 hq2
  have hu3 : [c1, c2, c3, c4, c5] = (kV u).cells.toList := hu2
  show _ :: ([c1, c2, c3, c4, c5] ++ _) = _
  rw [hu3]; rfl
end
end
section
open Go.ChangeShapes Go.WideShapes Go.ChangeAt Go.RowKit
theorem cells_of_strs {H : Type} {enc : TypeId × Value → H} {P : Program} {w : World} {base : Nat} {sp : Nat → Bool} {held : Bool} {fuel : Nat} {t e : TypeId} {n : Nat} {cs : List Value} {ss : List (List UInt8)} {p : List MemPlace}
  (ht : P.underlying t = some (.array n e)) (he : P.underlying e = some .string) (hce : P.cellsOf e = 1) (hct : P.cellsOf t = n)
  (h : DataW.trod enc P w base sp held fuel t cs = some (.agg (ss.map fun s => .lit (.string s)), p)) : cs = ss.map fun s => Value.string (mkS s) := by
 cases fuel with
 | zero => simp [DataW.trod] at h
 | succ fuel =>
  simp only [DataW.trod, ht, hce, hct, Nat.mul_one] at h
  split at h
  ·rename_i hl
   obtain ⟨xs, hm, hx⟩ := Option.map_eq_some_iff.1 h
   have hxs : xs.map (·.1) = ss.map fun s => (DataW.lit (.string s) : DataW H) := by
    have := congrArg Prod.fst hx
    simpa using this
   have hxl : xs.length = n := by simpa using Lib.mapM_length hm
   have hzl : ss.length = n := by
    have := congrArg List.length hxs
    simp at this
    omega
   apply List.ext_getElem?
   intro i
   by_cases hi : i < n
   ·obtain ⟨b, hb, hf⟩ := Lib.mapM_at hm i i (by simp [hi])
    obtain ⟨s, hc, rfl, _⟩ := DataW.trod_string he hf
    have h1 : cs[i]? = some (.string s) := by
     have := congrArg (·[0]?) hc
     simpa [List.getElem?_take, List.getElem?_drop] using this
    have h2 : (xs.map (·.1))[i]? = some (DataW.lit (.string s.data.toList) : DataW H) := by simp [hb]
    rw [hxs] at h2
    simp only [List.getElem?_map, Option.map_eq_some_iff, DataW.lit.injEq, Lit.string.injEq] at h2
    obtain ⟨z', hz', e9⟩ := h2
    rw [h1, List.getElem?_map, hz', e9]
    show some (Value.string s) = some (Value.string (mkS s.data.toList))
    rw [show mkS s.data.toList = s from by cases s; unfold mkS; simp]
   ·rw [List.getElem?_eq_none (by omega), List.getElem?_eq_none (by simp; omega)]
  ·cases h
theorem keysType : (Tryz.prog.globals[2]?).map (·.type) = some 144 := by kernel_rfl
theorem keysNamed : Tryz.prog.globalNamed "linchpin/mark.keys" = some 2 := by kernel_rfl
theorem keysCells : Tryz.prog.cellsOf 144 = 3 := by kernel_rfl
theorem mkLib_of {W : World} {l : List (String × DataW Unit)} (h : laidMetH Tryz.prog l W) (e : (l.filter fun x => x.1 == "linchpin/mark.keys") = [("linchpin/mark.keys", .agg [.lit (.string [111, 115]), .lit (.string [97, 114, 99, 104]), .lit (.string [97, 98, 105])])]) : MkLib W := by
 have h2 := h.filter (fun x => x.1 == "linchpin/mark.keys")
 rw [e] at h2
 obtain ⟨ps, ⟨g', t', cs, fuel, p, q, hg', ht', hvar, hd, _, hps⟩, _, hcell⟩ := h2
 obtain rfl := Option.some.inj (keysNamed.symm.trans hg')
 obtain rfl := Option.some.inj (keysType.symm.trans ht')
 have hcs : cs.toList = [[111, 115], [97, 114, 99, 104], [97, 98, 105]].map fun s => Value.string (mkS s) := cells_of_strs (n := 3) Tryz.underlying144 Tryz.underlying9 strCells1 keysCells hd
 have hsz : cs.size = 3 := by rw [← Array.length_toList, hcs]; rfl
 have hm : MemPlace.cell 2 0 ∈ ps := by
  rw [hps]
  refine List.mem_append_left _ (List.mem_append_left _ ?_)
  exact MemPlace.mem_row.2 ⟨0, by rw [hsz]; decide, rfl⟩
 obtain ⟨⟨c, t, hb⟩, _⟩ := hcell _ _ hm
 have hv : W.var? Tryz.prog "linchpin/mark.keys" = some c := by
  unfold World.var?
  rw [keysNamed]
  simp only [Option.bind_some, hb]
 have hcc : c = cs := Option.some.inj (hv.symm.trans hvar)
 refine ⟨(Array.getElem?_eq_some_iff.1 hb).1, t, ?_⟩
 rw [hb, hcc]
 congr 2
 apply Array.toList_inj.1
 rw [hcs]
 rfl
end
section
open Go.ChangeShapes Go.WideShapes Go.ChangeAt Go.RowKit
def layR (l : La) : DataW Unit := .agg [.lit (.int .i64 (l.kind : Int)), .lit (.string l.word), .lit (.int .i64 (l.lo : Int)), .lit (.int .i64 (l.hi : Int)), .lit (.int .i64 (l.parts : Int)), .lit (.bool l.opn), .lit (.bool l.more)]
def layD : DataW Unit := .agg (lays.map layR)
theorem size_lay12 : Tryz.prog.cellsOf 131 = 7 := by kernel_rfl
theorem size_lays12 : Tryz.prog.cellsOf 132 = 56 := by kernel_rfl
theorem laysType : (Tryz.prog.globals[0]?).map (·.type) = some 132 := by kernel_rfl
theorem laysNamed : Tryz.prog.globalNamed "linchpin/record.layouts" = some 0 := by kernel_rfl
theorem lay_row {enc : TypeId × Value → Unit} {w : World} {base : Nat} {sp : Nat → Bool} {held : Bool} {fuel : Nat} {cs : List Value} {p : List MemPlace} {l : La} (h : DataW.trod enc Tryz.prog w base sp held fuel 131 cs = some (layR l, p)) : cs = (laV l).cells.toList := by
 obtain ⟨xs, n, _, hx, hl, hxl, hg⟩ := DataW.trod_struct Tryz.underlying131 h
 rw [size_lay12] at hl
 have hx1 : DataW.agg (xs.map (·.1)) = layR l := (congrArg Prod.fst hx).symm
 unfold layR at hx1
 injection hx1 with hx1
 match cs, hl with
 | [c0, c1, c2, c3, c4, c5, c6], _ =>
  have g : ∀ i, i < 7 → ∃ y, xs[i]? = some y := fun i hi => ⟨_, List.getElem?_eq_getElem (by rw [hxl]; exact hi)⟩
  obtain ⟨y0, e0⟩ := g 0 Om
  obtain ⟨y1, e1⟩ := g 1 Om
  obtain ⟨y2, e2⟩ := g 2 Om
  obtain ⟨y3, e3⟩ := g 3 Om
  obtain ⟨y4, e4⟩ := g 4 Om
  obtain ⟨y5, e5⟩ := g 5 Om
  obtain ⟨y6, e6⟩ := g 6 Om
  have q : ∀ (i : Nat) (y : DataW Unit × List MemPlace), xs[i]? = some y → (xs.map (·.1))[i]? = some y.1 := fun i y hy => by rw [List.getElem?_map, hy]; rfl
  have q0 := q 0 _ e0; have q1 := q 1 _ e1; have q2 := q 2 _ e2; have q3 := q 3 _ e3; have q4 := q 4 _ e4; have q5 := q 5 _ e5; have q6 := q 6 _ e6
  rw [hx1] at q0 q1 q2 q3 q4 q5 q6
  obtain ⟨a0, h0, z0, _⟩ := DataW.trod_int Tryz.underlying3 ((hg 0 _ rfl).trans e0)
  obtain ⟨a1, h1, z1, _⟩ := DataW.trod_string Tryz.underlying9 ((hg 1 _ rfl).trans e1)
  obtain ⟨a2, h2, z2, _⟩ := DataW.trod_int Tryz.underlying3 ((hg 2 _ rfl).trans e2)
  obtain ⟨a3, h3, z3, _⟩ := DataW.trod_int Tryz.underlying3 ((hg 3 _ rfl).trans e3)
  obtain ⟨a4, h4, z4, _⟩ := DataW.trod_int Tryz.underlying3 ((hg 4 _ rfl).trans e4)
  obtain ⟨a5, h5, z5⟩ := DataW.trod_bool Tryz.underlying4 ((hg 5 _ rfl).trans e5)
  obtain ⟨a6, h6, z6⟩ := DataW.trod_bool Tryz.underlying4 ((hg 6 _ rfl).trans e6)
  have r0 : List.take (Tryz.prog.cellsOf 3) (List.drop 0 [c0, c1, c2, c3, c4, c5, c6]) = _ := h0
  have r1 : List.take (Tryz.prog.cellsOf 9) (List.drop 1 [c0, c1, c2, c3, c4, c5, c6]) = _ := h1
  have r2 : List.take (Tryz.prog.cellsOf 3) (List.drop 2 [c0, c1, c2, c3, c4, c5, c6]) = _ := h2
  have r3 : List.take (Tryz.prog.cellsOf 3) (List.drop 3 [c0, c1, c2, c3, c4, c5, c6]) = _ := h3
  have r4 : List.take (Tryz.prog.cellsOf 3) (List.drop 4 [c0, c1, c2, c3, c4, c5, c6]) = _ := h4
  have r5 : List.take (Tryz.prog.cellsOf 4) (List.drop 5 [c0, c1, c2, c3, c4, c5, c6]) = _ := h5
  have r6 : List.take (Tryz.prog.cellsOf 4) (List.drop 6 [c0, c1, c2, c3, c4, c5, c6]) = _ := h6
  rw [show Tryz.prog.cellsOf 3 = 1 by kernel_rfl] at r0 r2 r3 r4
  rw [strCells1] at r1
  rw [show Tryz.prog.cellsOf 4 = 1 by kernel_rfl] at r5 r6
  obtain rfl : c0 = _ := List.singleton_inj.1 r0
  obtain rfl : c1 = _ := List.singleton_inj.1 r1
  obtain rfl : c2 = _ := List.singleton_inj.1 r2
  obtain rfl : c3 = _ := List.singleton_inj.1 r3
  obtain rfl : c4 = _ := List.singleton_inj.1 r4
  obtain rfl : c5 = _ := List.singleton_inj.1 r5
  obtain rfl : c6 = _ := List.singleton_inj.1 r6
  rw [z0] at q0; rw [z1] at q1; rw [z2] at q2; rw [z3] at q3; rw [z4] at q4; rw [z5] at q5; rw [z6] at q6
  have i0 : a0 = (l.kind : Int) := by injection q0 with q; injection q with q; injection q with _ q; exact q.symm
  have i1 : a1.data.toList = l.word := by injection q1 with q; injection q with q; injection q with q; exact q.symm
  have i2 : a2 = (l.lo : Int) := by injection q2 with q; injection q with q; injection q with _ q; exact q.symm
  have i3 : a3 = (l.hi : Int) := by injection q3 with q; injection q with q; injection q with _ q; exact q.symm
  have i4 : a4 = (l.parts : Int) := by injection q4 with q; injection q with q; injection q with _ q; exact q.symm
  have i5 : a5 = l.opn := by injection q5 with q; injection q with q; injection q with q; exact q.symm
  have i6 : a6 = l.more := by injection q6 with q; injection q with q; injection q with q; exact q.symm
  have i1' : a1 = mkS l.word := by rw [← i1]; cases a1; unfold mkS; simp
  rw [i0, i1', i2, i3, i4, i5, i6]
  rfl
theorem chunk7 {f : La → List Value} (hf : ∀ l, (f l).length = 7) : ∀ (ls : List La) (cs : List Value), cs.length = ls.length * 7 → (∀ i (h : i < ls.length), (cs.drop (i * 7)).take 7 = f ls[i]) → cs = ls.flatMap f
 | [], cs, hl, _ => by simpa using hl
 | l :: ls, cs, hl, h => by
  have h0 : (cs.drop (0 * 7)).take 7 = f l := h 0 (by simp)
  rw [Nat.zero_mul, List.drop_zero] at h0
  have := chunk7 hf ls (cs.drop 7) (by rw [List.length_drop, hl, List.length_cons]; omega) fun i hi => by
   rw [List.drop_drop, show 7 + i * 7 = (i + 1) * 7 by omega]
   exact h (i + 1) (by simpa using hi)
  rw [List.flatMap_cons, ← h0, ← this, List.take_append_drop]
theorem lay_cells {enc : TypeId × Value → Unit} {w : World} {base : Nat} {sp : Nat → Bool} {held : Bool} {fuel : Nat} {cs : List Value} {p : List MemPlace} (h : DataW.trod enc Tryz.prog w base sp held fuel 132 cs = some (layD, p)) : cs = layC.toList := by
 obtain ⟨xs, n, _, hx, hl, hxl, hg⟩ := DataW.trod_array Tryz.underlying132 h
 rw [size_lays12] at hl
 have hx1 : DataW.agg (xs.map (·.1)) = layD := (congrArg Prod.fst hx).symm
 unfold layD at hx1
 injection hx1 with hx1
 have h8 : lays.length = 8 := rfl
 have := chunk7 (f := fun l => (laV l).cells.toList) (fun l => rfl) lays cs (by rw [hl, h8]) fun i hi => by
  have hx2 : i < xs.length := by omega
  have h1 := hg i Om
  rw [List.getElem?_eq_getElem hx2, size_lay12] at h1
  have h2 : (xs.map (·.1))[i]? = (lays.map layR)[i]? := by rw [hx1]
  rw [List.getElem?_map, List.getElem?_map, List.getElem?_eq_getElem hx2, List.getElem?_eq_getElem hi] at h2
  have h3 : xs[i].1 = layR lays[i] := Option.some.inj h2
  obtain ⟨a, b⟩ : ∃ b, xs[i] = (layR lays[i], b) := ⟨xs[i].2, by rw [← h3]⟩
  rw [b] at h1
  exact lay_row h1
 rw [this]
 unfold layC
 rfl
theorem lyAt_of {W : World} {l : List (String × DataW Unit)} (h : laidMetH Tryz.prog l W) (e : (l.filter fun x => x.1 == "linchpin/record.layouts") = [("linchpin/record.layouts", layD)]) : LyAt W := by
 have h2 := h.filter (fun x => x.1 == "linchpin/record.layouts")
 rw [e] at h2
 obtain ⟨ps, ⟨g', t', cs, fuel, p, q, hg', ht', hvar, hd, _, hps⟩, _, hcell⟩ := h2
 obtain rfl := Option.some.inj (laysNamed.symm.trans hg')
 obtain rfl := Option.some.inj (laysType.symm.trans ht')
 have hcs : cs.toList = layC.toList := lay_cells hd
 have hsz : cs.size = 56 := by rw [← Array.length_toList, hcs]; rfl
 have hm : MemPlace.cell 0 0 ∈ ps := by
  rw [hps]
  refine List.mem_append_left _ (List.mem_append_left _ ?_)
  exact MemPlace.mem_row.2 ⟨0, by rw [hsz]; decide, rfl⟩
 obtain ⟨⟨c, t, hb⟩, _⟩ := hcell _ _ hm
 have hv : W.var? Tryz.prog "linchpin/record.layouts" = some c := by
  unfold World.var?
  rw [laysNamed]
  simp only [Option.bind_some, hb]
 have hcc : c = cs := Option.some.inj (hv.symm.trans hvar)
 refine ⟨(Array.getElem?_eq_some_iff.1 hb).1, t, ?_⟩
 rw [hb, hcc]
 congr 2
 exact Array.toList_inj.1 hcs
end
end Go.Proofs.YtjimgokkpcfgpaaGreatDoor
