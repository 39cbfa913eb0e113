/-
 What the statement's proof leans on: the ways of walking, plain mathematics, and what the program's functions return; each theorem says on what conditions.
-/
import Derived.Lib.MakeNoZero
import Derived.Laws.IdiomCopy
import Derived.Test.YtjimgokkpcfgpaaGreatDoorRJ3
set_option maxRecDepth 1000000
set_option maxHeartbeats 8000000
set_option linter.unusedVariables false
set_option linter.unusedSimpArgs false
set_option linter.unnecessarySimpa false
namespace Go.Proofs.YtjimgokkpcfgpaaGreatDoor
open Go.RowKit

section
def sT (o : Oper) : TypeId := match o.op with
 | .store T _ _ => T
 | _ => 0
def sP (o : Oper) : Operand := match o.op with
 | .store _ p _ => p
 | _ => .tmp 0
def sQ (o : Oper) : Operand := match o.op with
 | .store _ _ q => q
 | _ => .tmp 0
def sDn (o : Oper) : Bool := o.dst.isNone
theorem sDn_is {o : Oper} (h : sDn o = true) : o.dst = none := by
 unfold sDn at h
 cases hd : o.dst with
 | none => rfl
 | some d => rw [hd] at h; cases h
section
variable {M : List Nat} {P : Program} {n : Nat} {ops : Array Oper} {W : World} {L L0 : List Blk} {Q : Exit → Act → World → Prop} {fuel : Nat} {listed : Array Bool} {f : Nat → Value}
theorem hl_storeS {i : Nat} (oi : Oper) (k : Nat) (x : Blk) {T : TypeId} {p q : Operand} {off : Nat} (v : Value) (sz : Nat) (hi' : ops[i]? = some oi) (hw : zT ops n f oi = true) (ho : oi.op = .store T p q) (hd : oi.dst = none) (hL : L[k]? = some x)
  (hp : ev n f p = .pointer (some ⟨x.b, off, none⟩)) (hq : ev n f q = v) (hz : (P.info? T).map (·.size) = some sz) (hs : v.cells.size = sz) (hle : off + sz ≤ x.cs.size) (h1 : (v.cells.toList.all fun u => u.oneCell') = true)
  (hsub : ∀ w, Own M W w (L.set k ⟨x.b, zW x.cs off v.cells, x.ty⟩) → Own M W w L0)
  (h : vQ M P n ops W L0 Q fuel (listed.setIfInBounds i true) (L.set k ⟨x.b, zW x.cs off v.cells, x.ty⟩) f) : bD M P n ops W L0 Q fuel listed i L f :=
 mI hi' hw fun w hO => by
  cases ht : P.info? T with
  | none => rw [ht] at hz; cases hz
  | some t =>
   rw [ht] at hz
   have et : t.size = sz := Option.some.inj hz
   have hst := run_storeCells_at (P := P) x.b off x.ty v.cells.toList 0 x.cs w (hO.get hL) (by simp; omega) (List.all_eq_true.1 h1)
   have hO' := hO.put hL (zW x.cs off v.cells)
   unfold Oper.wp
   rw [kN]
   have hr : (execOp (ev n f) oi).run P w = .ok .skip (w.setRow x.b (zW x.cs off v.cells)) := by
    unfold execOp
    simp only [ho, hp, hq, Instr.storeAt, Instr.sureAddr, Sem.run_bind, Sem.run_pure, Result.andThen_ok, storeVar, sizeOf, typeInfo, ht, hs, et, run_program]
    simp only [ne_eq, not_true_eq_false, if_false]
    have : (storeCells ⟨x.b, off, none⟩ v.cells.toList).run P w = .ok () (w.setRow x.b (zW x.cs off v.cells)) := by
     rw [hst]; unfold zW; simp
    simp [this]
   rw [hr]
   show Own M W _ L0 ∧ wpAnyH P .any ops Q (fun w => Own M W w L0) fuel (listed.setIfInBounds i true) ((Fr n f).put oi.dst undef) _
   rw [vL, hd]
   exact ⟨hsub _ hO', h.go _ hO'⟩
end
section
variable {M : List Nat} {P : Program} {n : Nat} {W : World} {Q : Exit → Act → World → Prop} {c : Xc}
theorem x_sto (q : Nat) (x : Blk) (off sz : Nat) (v : Value) (L1 : List Blk) (hle : off + sz ≤ x.cs.size) (hg : zI M P n W Q ⟨.ops (xA c) (xT c), c.k, L1.set q ⟨x.b, zW x.cs off v.cells, x.ty⟩, c.f⟩)
  (hkt : (c.L, c.top, zT (xA c) n c.f (xO c), (xO c).op, sDn (xO c), ev n c.f (sP (xO c)), ev n c.f (sQ (xO c)), L1[q]?, (P.info? (sT (xO c))).map (·.size), v.cells.size, v.cells.toList.all fun u => u.oneCell')
   = (L1, .ops (xA c) (xO c :: xT c), true, .store (sT (xO c)) (sP (xO c)) (sQ (xO c)), true, .pointer (some ⟨x.b, off, none⟩), v, some x, some sz, sz, true) := by kernel_rfl) : zI M P n W Q c := by
 simp only [Prod.mk.injEq] at hkt
 obtain ⟨f1, e1, e2, e3, e4, e5, e6, e7, e8, e9, e10⟩ := hkt
 have : c = ⟨.ops (xA c) (xO c :: xT c), c.k, L1, c.f⟩ := by rw [← e1, ← f1]
 rw [this]
 exact ⟨fun hq => pY q x v sz e2 e3 (sDn_is e4) e7 e5 e6 e8 e9 hle e10 (hg.go hq)⟩
theorem xh_sto (q : Nat) (x : Blk) (off sz : Nat) (v : Value) (L1 L0 : List Blk) (hle : off + sz ≤ x.cs.size) (hsub : ∀ w, Own M W w (L1.set q ⟨x.b, zW x.cs off v.cells, x.ty⟩) → Own M W w L0)
  (hg : zI M P n W Q ⟨.hps (xA c) ((hS c).setIfInBounds (hI c) true) (hU c) (hL c), c.k, L1.set q ⟨x.b, zW x.cs off v.cells, x.ty⟩, c.f⟩)
  (hkt : (c.L, hL c, c.top, (xA c)[hI c]?, zT (xA c) n c.f (xO c), (xO c).op, sDn (xO c), ev n c.f (sP (xO c)), ev n c.f (sQ (xO c)), L1[q]?, (P.info? (sT (xO c))).map (·.size), v.cells.size, v.cells.toList.all fun u => u.oneCell')
   = (L1, L0, .hst (xA c) (hS c) (hU c) (hL c) (hI c), some (xO c), true, .store (sT (xO c)) (sP (xO c)) (sQ (xO c)), true, .pointer (some ⟨x.b, off, none⟩), v, some x, some sz, sz, true) := by kernel_rfl) : zI M P n W Q c := by
 simp only [Prod.mk.injEq] at hkt
 obtain ⟨f1, f2, e1, e0, e2, e3, e4, e5, e6, e7, e8, e9, e10⟩ := hkt
 have : c = ⟨.hst (xA c) (hS c) (hU c) (hL c) (hI c), c.k, L1, c.f⟩ := by rw [← e1, ← f1]
 rw [← f2] at hsub
 rw [this]
 exact ⟨fun hq hs => hl_storeS (xO c) q x v sz e0 e2 e3 (sDn_is e4) e7 e5 e6 e8 e9 hle e10 hsub (hg.go hq hsub)⟩
theorem xh_seqv (t : Nat) (h : List Nat) (i : Nat) (a b : List UInt8) (hg : zI M P n W Q (xHn (xgo P n t h c) i (.bool (decide (a = b)))))
  (hkt : (xgl P n t h c, pH n i (xgo P n t h c), (xOi i (xgo P n t h c)).op, ev n (xgo P n t h c).f (oX (xOi i (xgo P n t h c))), ev n (xgo P n t h c).f (oY (xOi i (xgo P n t h c))))
   = (xgr P n t h c, dQ i (xgo P n t h c), .binOp .eql (oT (xOi i (xgo P n t h c))) (oX (xOi i (xgo P n t h c))) (oY (xOi i (xgo P n t h c))) (oU (xOi i (xgo P n t h c))), .string (mkS a), .string (mkS b)) := by kernel_rfl) : zI M P n W Q c := by
 simp only [Prod.mk.injEq] at hkt
 obtain ⟨hk, e1, e2, e3, e4⟩ := hkt
 exact zP h c hk (xtake (fun w _ => k8 e2 e3 e4 rfl w) hg e1)
theorem xh_sllo (t : Nat) (h : List Nat) (i : Nat) {A : Option Addr} {b off : Nat} (hA : A = some ⟨b, off, none⟩) (N cp sz : Nat) (j : Int) (h0 : 0 ≤ j) (h1 : j ≤ N) (v : Value) (hv : .slice (some ⟨b, off + (if cp = j.toNat then 0 else j.toNat * sz), none⟩) (N - j.toNat) (cp - j.toNat) = v) (hg : zI M P n W Q (xHn (xgo P n t h c) i v))
  (hkt : (xgl P n t h c, pH n i (xgo P n t h c), (slQ (xOi i (xgo P n t h c))).2.2.2, ev n (xgo P n t h c).f (slQ (xOi i (xgo P n t h c))).2.1, ev n (xgo P n t h c).f (slQ (xOi i (xgo P n t h c))).2.2.1, P.underlying (slQ (xOi i (xgo P n t h c))).1, (P.info? (xEl P (slQ (xOi i (xgo P n t h c))).1)).map (·.size))
   = (xgr P n t h c, dQ i (xgo P n t h c), true, .slice A N cp, YI j, some (.slice (xEl P (slQ (xOi i (xgo P n t h c))).1)), some sz) := by kernel_rfl) : zI M P n W Q c := by
 simp only [Prod.mk.injEq] at hkt
 obtain ⟨hk, e1, e2, e3, e4, e5, e6⟩ := hkt
 subst hA
 exact zP h c hk (xtake (fun w _ => by rw [run_sllo (slQ_op e2) e3 e4 e5 e6 h0 h1 w, hv]) hg e1)
end
end
section
set_option linter.unnecessarySimpa false
def PutR (v : Value) (l : List (List UInt8)) (s : List UInt8) (v' : Value) (ob : List Blk) : Prop := (v' = v ∧ yT l s = l ∧ ob = []) ∨ SlT v' (yT l s) ob
section
variable {M : List Nat} {P : Program} {n : Nat} {W : World} {Q : Exit → Act → World → Prop} {c : Xc}
theorem xh_slhi (t : Nat) (h : List Nat) (i : Nat) {A : Option Addr} {b off : Nat} (hA : A = some ⟨b, off, none⟩) (N cp sz : Nat) (j : Int) (h0 : 0 ≤ j) (h1 : j ≤ cp) (v : Value) (hv : .slice (some ⟨b, off, none⟩) j.toNat cp = v) (hg : zI M P n W Q (xHn (xgo P n t h c) i v))
  (hkt : (xgl P n t h c, pH n i (xgo P n t h c), (shQ (xOi i (xgo P n t h c))).2.2.2, ev n (xgo P n t h c).f (shQ (xOi i (xgo P n t h c))).2.1, ev n (xgo P n t h c).f (shQ (xOi i (xgo P n t h c))).2.2.1, P.underlying (shQ (xOi i (xgo P n t h c))).1, (P.info? (xEl P (shQ (xOi i (xgo P n t h c))).1)).map (·.size))
   = (xgr P n t h c, dQ i (xgo P n t h c), true, .slice A N cp, YI j, some (.slice (xEl P (shQ (xOi i (xgo P n t h c))).1)), some sz) := by kernel_rfl) : zI M P n W Q c := by
 simp only [Prod.mk.injEq] at hkt
 obtain ⟨hk, e1, e2, e3, e4, e5, e6⟩ := hkt
 subst hA
 exact zP h c hk (xtake (fun w _ => by rw [run_slhi (shQ_op e2) e3 e4 e5 e6 h0 h1 w, hv]) hg e1)
end
theorem kO (s : List UInt8) : ∀ u ∈ y9 s, u.oneCell' = true := fun u hu => by rw [List.mem_singleton.1 hu]; rfl
theorem reads_take11 {w : World} {B b off : Nat} {l : List (List UInt8)} (h : Reads y9 w B (some ⟨b, off, none⟩) l) (k : Nat) : Reads y9 w B (some ⟨b, off, none⟩) (l.take k) := fun h0 => by
 obtain ⟨b', off', e, hlt, hc⟩ := h (by rw [List.length_take] at h0; omega)
 cases e
 refine ⟨b, off, rfl, hlt, fun j u hj => hc j u ?_⟩
 have : l.flatMap y9 = (l.take k).flatMap y9 ++ (l.drop k).flatMap y9 := by rw [← List.flatMap_append, List.take_append_drop]
 rw [this, List.getElem?_append_left (List.getElem?_eq_some_iff.1 hj).1]; exact hj
theorem reads_drop11 {w : World} {B b off cap : Nat} {l : List (List UInt8)} (h : Reads y9 w B (some ⟨b, off, none⟩) l) (hcap : l.length ≤ cap) (k : Nat) : Reads y9 w B (some ⟨b, off + (if cap = k then 0 else k * 1), none⟩) (l.drop k) := fun h0 => by
 rw [List.length_drop] at h0
 obtain ⟨b', off', e, hlt, hc⟩ := h Om
 cases e
 rw [if_neg Om]
 refine ⟨b, off + k * 1, rfl, hlt, fun j u hj => ?_⟩
 have h1 : l.flatMap y9 = (l.take k).flatMap y9 ++ (l.drop k).flatMap y9 := by rw [← List.flatMap_append, List.take_append_drop]
 have h2 : ((l.take k).flatMap y9).length = k := by rw [j7 zZ, List.length_take]; omega
 rw [Nat.add_assoc]
 refine hc (k * 1 + j) u ?_
 rw [h1, List.getElem?_append_right Om, h2, show k * 1 + j - k = j by omega]; exact hj
theorem g11put_cons (A : Option Addr) (cap bp off : Nat) (l : List (List UInt8)) (s : List UInt8) (W : World) (hA : A = some ⟨bp, off, none⟩) (hl0 : l ≠ []) (hcap : l.length ≤ cap) (hv : Reads y9 W W.heap.size A l) (hn : l.length ≤ 900000) : YC 108 #[.slice A l.length cap, .string (mkS s)] W fun e w' => ∃ v' ob, e = .returned v' ∧ PutR (.slice A l.length cap) l s v' ob ∧ Own [] W w' ob := by
 subst hA
 have hlp : 0 < l.length := List.length_pos_iff.2 hl0
 have hTk : ∀ k w, Own [] W w [] → Reads y9 w w.heap.size (some ⟨bp, off, none⟩) (l.take k) := fun k w hO => reads_take11 (hv.on hO.below hO.size) k
 have hDk : ∀ k w, Own [] W w [] → Reads y9 w w.heap.size (some ⟨bp, off + (if cap = k then 0 else k * 1), none⟩) (l.drop k) := fun k w hO => reads_drop11 (hv.on hO.below hO.size) hcap k
 have hA : (some ⟨bp, off, none⟩ : Option Addr) = some ⟨bp, off, none⟩ := rfl
 have hld : ∀ (k : Nat) (hk : k < l.length) x, l[k] = x → ∀ w, Own [] W w [] → (loadVar 9 ⟨bp, off + k * 1 + 0, none⟩).run Tryz.prog w = .ok (.string (mkS x)) w := fun k hk x hx w hO => by
  obtain ⟨b', off', e, hel⟩ := hv.elem zZ k hk
  cases e
  exact hel w hO.below _ 0 _ (by rw [hx]; kernel_rfl)
 refine zQ Tryz.func108 (x_loopE (α := Nat) (β := Nat) (fun k => [(0, .slice (some ⟨bp, off, none⟩) l.length cap), (1, .string (mkS s)), (5, YI (k : Int))]) (fun _ => []) (fun k m => (k ≤ l.length ∧ ∀ x ∈ l.take k, Op.bytesLess x s = true) ∧ m = l.length - k) 0 l.length (fun k => [(0, .slice (some ⟨bp, off, none⟩) l.length cap), (1, .string (mkS s)), (5, YI (k : Int))]) (fun _ => []) (fun k => k ≤ l.length ∧ (∀ x ∈ l.take k, Op.bytesLess x s = true) ∧ ∀ hk : k < l.length, Op.bytesLess l[k] s = false) [] ⟨⟨Nat.zero_le _, fun x h => by simp at h⟩, rfl⟩ ?_ ?_)
 ·rintro k mm g ⟨⟨hk, hno⟩, hmm⟩ nx nex
  refine y8 9 [] ((k : Int) < (l.length : Int)) (fun h9 => ?_) (fun h9 => nex k [] ⟨hk, hno, fun q => absurd q Om⟩ Kr)
  have hj : k < l.length := by omega
  obtain ⟨x, hx⟩ : ∃ x, l[k] = x := ⟨_, rfl⟩
  have hgo := gL (p := fun x => Op.bytesLess x s = true) hj hno
  rw [hx] at hgo
  refine kH 13 [] hA l.length cap k 1 hj (kB 14 [] 9 bp (off + k * 1 + 0) (.string (mkS x)) (fun w hO => hld k hj x hx w hO.no) (x_slt 16 [] x s (fun h16 => ?_) (fun h16 => nex k [] ⟨hk, hno, fun q => by rw [hx]; exact h16⟩ Kr)))
  exact x_i 19 [] ((k + 1 : Nat) : Int) (nx (k + 1) (l.length - (k + 1)) [] Om ⟨⟨hj, hgo h16⟩, rfl⟩ Kr Kr)
 ·rintro k g ⟨hk, hno, hge⟩
  have hlt : (l.take k).length = k := by rw [List.length_take]; omega
  refine y8 23 [] ((k : Int) < (l.length : Int)) (fun h23 => ?_) (fun h23 => ?_)
  ·have hj : k < l.length := by omega
   obtain ⟨x, hx⟩ : ∃ x, l[k] = x := ⟨_, rfl⟩
   refine kH 27 [] hA l.length cap k 1 hj (kB 28 [] 9 bp (off + k * 1 + 0) (.string (mkS x)) (fun w hO => hld k hj x hx w hO.no) (qH 30 [] x s (fun h30 => ?_) (fun h30 => ?_)))
   ·exact zF [] (.slice (some ⟨bp, off, none⟩) l.length cap) fun w hO => ⟨_, [], rfl, .inl ⟨rfl, put_old hj hno (hge hj) (hx.trans h30), rfl⟩, hO.no⟩
   have hq : yT l s = l.take k ++ [s] ++ l.drop k := put_new hk hno fun q => ⟨hge q, by rw [hx]; exact h30⟩
   refine xB 11 [] [] (fun w hO => hO.no) (xh_slhi 50035 [] 2 hA l.length cap 1 (k : Int) (by omega) (by omega) (.slice (some ⟨bp, off, none⟩) (l.take k).length cap) (by rw [hlt]; rfl) (xh_sllo 50042 [] 9 hA l.length cap 1 (k : Int) (by omega) (by omega) (.slice (some ⟨bp, off + (if cap = k then 0 else k * 1), none⟩) (l.drop k).length (cap - k)) (by rw [List.length_drop]; rfl) (x_h2 [] 3 5 (jA (g := y9) (T := 9) (k := 0) (v := .slice none 0 0) (xs := []) (l.take k) [] [] [] ([]) [] (cp := cap) (fun w hO => hO) (fun o w hO => hO.no) zZ kO (fun w hO => hTk k w hO.no) (Sl.nil _ _) (by simp only [List.length_take, List.length_nil]; omega) fun v1 o1 h1 => ?_) (gY 1 9 #[.string (mkS s)] fun b => yH [] 3 (jA (g := y9) (T := 9) (k := 0) (v := .slice none 0 0) (xs := []) (l.take k) [⟨b, #[.string (mkS s)], 9⟩] [] [] ([⟨b, #[.string (mkS s)], 9⟩]) [] (cp := cap) (fun w hO => hO) (fun o w hO => hO.no) zZ kO (fun w hO => hTk k w hO.no) (Sl.nil _ _) (by simp only [List.length_take, List.length_nil]; omega) fun v1 o1 h1 => ?_)))))
   ·obtain ⟨V1, c1, rfl⟩ := h1.form
    refine yH [] 5 (gY 1 9 #[.string (mkS s)] fun b => yH [] 6 (qM (m := 1) (cp := 1) [⟨b, #[.string (mkS s)], 9⟩] o1 [] 0 (⟨b, #[.string (mkS s)], 9⟩ :: ([] ++ o1 ++ [])) [] (fun w hO => hO.cast (by simp)) (fun o w hO => hO.no) h1 (by simp only [List.length_take, List.length_nil]; omega) fun v2 o2 h2 => ?_))
    obtain ⟨V2, c2, rfl⟩ := h2.form
    refine yH [] 10 (jA (g := y9) (l.drop k) [⟨b, #[.string (mkS s)], 9⟩] o2 [] ([⟨b, #[.string (mkS s)], 9⟩] ++ o2 ++ []) [] (cp := cap - k) (fun w hO => hO) (fun o w hO => hO.no) zZ kO (fun w hO => hDk k w hO.no) h2 (by simp only [List.length_take, List.length_drop, List.length_nil]; omega) fun v3 o3 h3 => ?_)
    have hs3 : SlT v3 (l.take k ++ [s] ++ l.drop k) o3 := Sl.to (show Sl 9 1 v3 (0 + (l.take k).length + 1 + (l.drop k).length) (([] ++ (l.take k).flatMap y9) ++ y9 s ++ (l.drop k).flatMap y9) o3 from h3) (by first | (simp; done) | (simp; omega)) (by rw [x1]; simp)
    exact zF [] v3 fun w hO => ⟨_, o3, rfl, .inr (by rw [hq]; exact hs3), (hO.past 1 (o3 ++ [])).cast (by simp)⟩
   ·obtain ⟨V1, c1, rfl⟩ := h1.form
    refine yH [] 6 (qM (m := 1) (cp := 1) [⟨b, #[.string (mkS s)], 9⟩] o1 [] 0 ([⟨b, #[.string (mkS s)], 9⟩] ++ o1 ++ []) [] (fun w hO => hO) (fun o w hO => hO.no) h1 (by simp only [List.length_take, List.length_nil]; omega) fun v2 o2 h2 => ?_)
    obtain ⟨V2, c2, rfl⟩ := h2.form
    refine yH [] 10 (jA (g := y9) (l.drop k) [⟨b, #[.string (mkS s)], 9⟩] o2 [] ([⟨b, #[.string (mkS s)], 9⟩] ++ o2 ++ []) [] (cp := cap - k) (fun w hO => hO) (fun o w hO => hO.no) zZ kO (fun w hO => hDk k w hO.no) h2 (by simp only [List.length_take, List.length_drop, List.length_nil]; omega) fun v3 o3 h3 => ?_)
    have hs3 : SlT v3 (l.take k ++ [s] ++ l.drop k) o3 := Sl.to (show Sl 9 1 v3 (0 + (l.take k).length + 1 + (l.drop k).length) (([] ++ (l.take k).flatMap y9) ++ y9 s ++ (l.drop k).flatMap y9) o3 from h3) (by first | (simp; done) | (simp; omega)) (by rw [x1]; simp)
    exact zF [] v3 fun w hO => ⟨_, o3, rfl, .inr (by rw [hq]; exact hs3), (hO.past 1 (o3 ++ [])).cast (by simp)⟩
  ·have hq : yT l s = l.take k ++ [s] ++ l.drop k := put_new hk hno fun q => absurd q Om
   refine xB 11 [] [] (fun w hO => hO.no) (xh_slhi 50035 [] 2 hA l.length cap 1 (k : Int) (by omega) (by omega) (.slice (some ⟨bp, off, none⟩) (l.take k).length cap) (by rw [hlt]; rfl) (xh_sllo 50042 [] 9 hA l.length cap 1 (k : Int) (by omega) (by omega) (.slice (some ⟨bp, off + (if cap = k then 0 else k * 1), none⟩) (l.drop k).length (cap - k)) (by rw [List.length_drop]; rfl) (x_h2 [] 3 5 (jA (g := y9) (T := 9) (k := 0) (v := .slice none 0 0) (xs := []) (l.take k) [] [] [] ([]) [] (cp := cap) (fun w hO => hO) (fun o w hO => hO.no) zZ kO (fun w hO => hTk k w hO.no) (Sl.nil _ _) (by simp only [List.length_take, List.length_nil]; omega) fun v1 o1 h1 => ?_) (gY 1 9 #[.string (mkS s)] fun b => yH [] 3 (jA (g := y9) (T := 9) (k := 0) (v := .slice none 0 0) (xs := []) (l.take k) [⟨b, #[.string (mkS s)], 9⟩] [] [] ([⟨b, #[.string (mkS s)], 9⟩]) [] (cp := cap) (fun w hO => hO) (fun o w hO => hO.no) zZ kO (fun w hO => hTk k w hO.no) (Sl.nil _ _) (by simp only [List.length_take, List.length_nil]; omega) fun v1 o1 h1 => ?_)))))
   ·obtain ⟨V1, c1, rfl⟩ := h1.form
    refine yH [] 5 (gY 1 9 #[.string (mkS s)] fun b => yH [] 6 (qM (m := 1) (cp := 1) [⟨b, #[.string (mkS s)], 9⟩] o1 [] 0 (⟨b, #[.string (mkS s)], 9⟩ :: ([] ++ o1 ++ [])) [] (fun w hO => hO.cast (by simp)) (fun o w hO => hO.no) h1 (by simp only [List.length_take, List.length_nil]; omega) fun v2 o2 h2 => ?_))
    obtain ⟨V2, c2, rfl⟩ := h2.form
    refine yH [] 10 (jA (g := y9) (l.drop k) [⟨b, #[.string (mkS s)], 9⟩] o2 [] ([⟨b, #[.string (mkS s)], 9⟩] ++ o2 ++ []) [] (cp := cap - k) (fun w hO => hO) (fun o w hO => hO.no) zZ kO (fun w hO => hDk k w hO.no) h2 (by simp only [List.length_take, List.length_drop, List.length_nil]; omega) fun v3 o3 h3 => ?_)
    have hs3 : SlT v3 (l.take k ++ [s] ++ l.drop k) o3 := Sl.to (show Sl 9 1 v3 (0 + (l.take k).length + 1 + (l.drop k).length) (([] ++ (l.take k).flatMap y9) ++ y9 s ++ (l.drop k).flatMap y9) o3 from h3) (by first | (simp; done) | (simp; omega)) (by rw [x1]; simp)
    exact zF [] v3 fun w hO => ⟨_, o3, rfl, .inr (by rw [hq]; exact hs3), (hO.past 1 (o3 ++ [])).cast (by simp)⟩
   ·obtain ⟨V1, c1, rfl⟩ := h1.form
    refine yH [] 6 (qM (m := 1) (cp := 1) [⟨b, #[.string (mkS s)], 9⟩] o1 [] 0 ([⟨b, #[.string (mkS s)], 9⟩] ++ o1 ++ []) [] (fun w hO => hO) (fun o w hO => hO.no) h1 (by simp only [List.length_take, List.length_nil]; omega) fun v2 o2 h2 => ?_)
    obtain ⟨V2, c2, rfl⟩ := h2.form
    refine yH [] 10 (jA (g := y9) (l.drop k) [⟨b, #[.string (mkS s)], 9⟩] o2 [] ([⟨b, #[.string (mkS s)], 9⟩] ++ o2 ++ []) [] (cp := cap - k) (fun w hO => hO) (fun o w hO => hO.no) zZ kO (fun w hO => hDk k w hO.no) h2 (by simp only [List.length_take, List.length_drop, List.length_nil]; omega) fun v3 o3 h3 => ?_)
    have hs3 : SlT v3 (l.take k ++ [s] ++ l.drop k) o3 := Sl.to (show Sl 9 1 v3 (0 + (l.take k).length + 1 + (l.drop k).length) (([] ++ (l.take k).flatMap y9) ++ y9 s ++ (l.drop k).flatMap y9) o3 from h3) (by first | (simp; done) | (simp; omega)) (by rw [x1]; simp)
    exact zF [] v3 fun w hO => ⟨_, o3, rfl, .inr (by rw [hq]; exact hs3), (hO.past 1 (o3 ++ [])).cast (by simp)⟩
theorem g11put_nil (s : List UInt8) (W : World) : YC 108 #[.slice none 0 0, .string (mkS s)] W fun e w' => ∃ v' ob, e = .returned v' ∧ PutR (.slice none 0 0) [] s v' ob ∧ Own [] W w' ob := by
 have hN : ∀ w, Own [] W w [] → Reads y9 w w.heap.size none ([] : List (List UInt8)) := fun w hO h0 => absurd h0 (Nat.lt_irrefl 0)
 have hq : yT [] s = ([] : List (List UInt8)) ++ [s] ++ [] := rfl
 refine zQ Tryz.func108 (jN 0 [] (xB 11 [] [] (fun w hO => hO.no) (x_h2 [] 3 5 (jA (g := y9) (T := 9) (k := 0) (v := .slice none 0 0) (xs := []) (([] : List (List UInt8))) [] [] [] ([]) [] (cp := 0) (fun w hO => hO) (fun o w hO => hO.no) zZ kO (fun w hO => hN w hO.no) (Sl.nil _ _) (by simp only [List.length_take, List.length_nil]; omega) fun v1 o1 h1 => ?_) (gY 1 9 #[.string (mkS s)] fun b => yH [] 3 (jA (g := y9) (T := 9) (k := 0) (v := .slice none 0 0) (xs := []) (([] : List (List UInt8))) [⟨b, #[.string (mkS s)], 9⟩] [] [] ([⟨b, #[.string (mkS s)], 9⟩]) [] (cp := 0) (fun w hO => hO) (fun o w hO => hO.no) zZ kO (fun w hO => hN w hO.no) (Sl.nil _ _) (by simp only [List.length_take, List.length_nil]; omega) fun v1 o1 h1 => ?_)))))
 ·obtain ⟨V1, c1, rfl⟩ := h1.form
  refine yH [] 5 (gY 1 9 #[.string (mkS s)] fun b => yH [] 6 (qM (m := 1) (cp := 1) [⟨b, #[.string (mkS s)], 9⟩] o1 [] 0 (⟨b, #[.string (mkS s)], 9⟩ :: ([] ++ o1 ++ [])) [] (fun w hO => hO.cast (by simp)) (fun o w hO => hO.no) h1 (by simp only [List.length_take, List.length_nil]; omega) fun v2 o2 h2 => ?_))
  obtain ⟨V2, c2, rfl⟩ := h2.form
  refine yH [] 10 (jA (g := y9) (([] : List (List UInt8))) [⟨b, #[.string (mkS s)], 9⟩] o2 [] ([⟨b, #[.string (mkS s)], 9⟩] ++ o2 ++ []) [] (cp := 0) (fun w hO => hO) (fun o w hO => hO.no) zZ kO (fun w hO => hN w hO.no) h2 (by simp only [List.length_take, List.length_drop, List.length_nil]; omega) fun v3 o3 h3 => ?_)
  have hs3 : SlT v3 (([] : List (List UInt8)) ++ [s] ++ ([] : List (List UInt8))) o3 := Sl.to (show Sl 9 1 v3 (0 + (([] : List (List UInt8))).length + 1 + (([] : List (List UInt8))).length) (([] ++ (([] : List (List UInt8))).flatMap y9) ++ y9 s ++ (([] : List (List UInt8))).flatMap y9) o3 from h3) (by first | (simp; done) | (simp; omega)) (by rw [x1]; simp)
  exact zF [] v3 fun w hO => ⟨_, o3, rfl, .inr (by rw [hq]; exact hs3), (hO.past 1 (o3 ++ [])).cast (by simp)⟩
 ·obtain ⟨V1, c1, rfl⟩ := h1.form
  refine yH [] 6 (qM (m := 1) (cp := 1) [⟨b, #[.string (mkS s)], 9⟩] o1 [] 0 ([⟨b, #[.string (mkS s)], 9⟩] ++ o1 ++ []) [] (fun w hO => hO) (fun o w hO => hO.no) h1 (by simp only [List.length_take, List.length_nil]; omega) fun v2 o2 h2 => ?_)
  obtain ⟨V2, c2, rfl⟩ := h2.form
  refine yH [] 10 (jA (g := y9) (([] : List (List UInt8))) [⟨b, #[.string (mkS s)], 9⟩] o2 [] ([⟨b, #[.string (mkS s)], 9⟩] ++ o2 ++ []) [] (cp := 0) (fun w hO => hO) (fun o w hO => hO.no) zZ kO (fun w hO => hN w hO.no) h2 (by simp only [List.length_take, List.length_drop, List.length_nil]; omega) fun v3 o3 h3 => ?_)
  have hs3 : SlT v3 (([] : List (List UInt8)) ++ [s] ++ ([] : List (List UInt8))) o3 := Sl.to (show Sl 9 1 v3 (0 + (([] : List (List UInt8))).length + 1 + (([] : List (List UInt8))).length) (([] ++ (([] : List (List UInt8))).flatMap y9) ++ y9 s ++ (([] : List (List UInt8))).flatMap y9) o3 from h3) (by first | (simp; done) | (simp; omega)) (by rw [x1]; simp)
  exact zF [] v3 fun w hO => ⟨_, o3, rfl, .inr (by rw [hq]; exact hs3), (hO.past 1 (o3 ++ [])).cast (by simp)⟩
theorem qV {A : Option Addr} {cap : Nat} {l : List (List UInt8)} {ob L : List Blk} {M : List Nat} {W0 : World} (s : List UInt8) (W : World) (hv : SlT (.slice A l.length cap) l ob) (h0 : l = [] → A = none ∧ cap = 0) (hO : Own M W0 W L) (hs : ∀ x ∈ ob, x ∈ L) (hn : l.length ≤ 900000) : YC 108 #[.slice A l.length cap, .string (mkS s)] W fun e w' => ∃ v' ob', e = .returned v' ∧ PutR (.slice A l.length cap) l s v' ob' ∧ Own [] W w' ob' := by
 by_cases hl : l = []
 ·obtain ⟨rfl, rfl⟩ := h0 hl
  subst hl
  exact g11put_nil s W
 ·have h1 : Reads y9 W W.heap.size A l := SlT.reads hv rfl hO hs
  rcases hv.2 with ⟨e, h0, _⟩ | ⟨g, c, cur, e, _, h2, _⟩
  ·exact absurd (List.eq_nil_of_length_eq_zero h0) hl
  ·injection e with e1 e2 e3
   subst e3
   exact g11put_cons A cap g 0 l s W e1 hl h2 h1 hn
end
section
def nmF (k : Nat) : List UInt8 := if k = 0 then dfl else if k = 1 then [120] else if k = 2 then [121] else [122]
def ItemG (needs : List Nv) (keep : Nat → Bool) (s : List UInt8) : Prop :=
 (∃ m ∈ needs, ¬ m.opt = [] ∧ s = [63] ++ m.opt) ∨ (∃ m ∈ needs, ∃ w, m.any = [w] ∧ s = w.name ++ [47] ++ [120]) ∨ ∃ j, j < 4 ∧ keep j = true ∧ s = nmF j
structure OfG (needs : List Nv) (keep : Nat → Bool) (l : List (List UInt8)) (b : Nat) : Prop where
 rise : kZ l = true
 len : l.length ≤ b
 all : ∀ s ∈ l, ItemG needs keep s
theorem OfG.nil (needs : List Nv) (keep : Nat → Bool) : OfG needs keep [] 0 := ⟨rfl, Nat.le_refl _, fun s h => by simp at h⟩
theorem OfG.more {needs : List Nv} {keep : Nat → Bool} {l : List (List UInt8)} {b b' : Nat} (h : OfG needs keep l b) (hb : b ≤ b') : OfG needs keep l b' := ⟨h.rise, Nat.le_trans h.len hb, h.all⟩
theorem OfG.put {needs : List Nv} {keep : Nat → Bool} {l : List (List UInt8)} {b : Nat} (h : OfG needs keep l b) {s : List UInt8} (hs : ItemG needs keep s) : OfG needs keep (yT l s) (b + 1) :=
 ⟨put_rise h.rise, Nat.le_trans put_len (Nat.add_le_add_right h.len 1), fun x hx => by
  rcases put_mem.1 hx with rfl | hx
  ·exact hs
  ·exact h.all x hx⟩
structure FeatsG (needs : List Nv) (keep : Nat → Bool) (k : Nat) (xs : List Fv) : Prop where
 names : xs.map Fv.name = ((List.range k).filter keep).map nmF
 each : ∀ x ∈ xs, OfG needs keep x.of 5
theorem FeatsG.nil (needs : List Nv) (keep : Nat → Bool) : FeatsG needs keep 0 [] := ⟨rfl, fun x h => by simp at h⟩
theorem FeatsG.skip {needs : List Nv} {keep : Nat → Bool} {k : Nat} {xs : List Fv} (h : FeatsG needs keep k xs) (hk : keep k = false) : FeatsG needs keep (k + 1) xs :=
 ⟨by rw [List.range_succ, List.filter_append, List.map_append, ← h.names]; simp [hk], h.each⟩
theorem FeatsG.add {needs : List Nv} {keep : Nat → Bool} {k : Nat} {xs : List Fv} (h : FeatsG needs keep k xs) (hk : keep k = true) {x : Fv} (hn : x.name = nmF k) (ho : OfG needs keep x.of 5) : FeatsG needs keep (k + 1) (xs ++ [x]) :=
 ⟨by rw [List.range_succ, List.filter_append, List.map_append, List.map_append, ← h.names]; simp [hk, hn], fun y hy => by
  rcases List.mem_append.1 hy with hy | hy
  ·exact h.each y hy
  ·rw [List.mem_singleton.1 hy]; exact ho⟩
structure OfS (A : Option Addr) (c : Nat) (l : List (List UInt8)) (o3 : List Blk) : Prop where
 ex : ∃ o, SlT (.slice A l.length c) l o ∧ ∀ b ∈ o, b ∈ o3
 bare : l = [] → A = none ∧ c = 0
theorem OfS.nil : OfS none 0 [] [] := ⟨⟨[], Sl.nil _ _, fun b h => h⟩, fun _ => ⟨rfl, rfl⟩⟩
theorem OfS.more {A : Option Addr} {c : Nat} {l : List (List UInt8)} {o o' : List Blk} (h : OfS A c l o) (hs : ∀ b ∈ o, b ∈ o') : OfS A c l o' := by
 obtain ⟨⟨q, h1, h2⟩, h3⟩ := h
 exact ⟨⟨q, h1, fun b hb => hs b (h2 b hb)⟩, h3⟩
theorem put_ne (l : List (List UInt8)) (s : List UInt8) : yT l s ≠ [] := fun e => by
 have : s ∈ yT l s := put_mem.2 (.inl rfl)
 rw [e] at this; simp at this
theorem OfS.put {A : Option Addr} {c : Nat} {l : List (List UInt8)} {o3 ob : List Blk} {s : List UInt8} {v : Value} (h : OfS A c l o3) (hp : PutR (.slice A l.length c) l s v ob) : ∃ A' c', v = .slice A' (yT l s).length c' ∧ OfS A' c' (yT l s) (o3 ++ ob) := by
 rcases hp with ⟨rfl, e, rfl⟩ | hp
 ·refine ⟨A, c, by rw [e], ?_⟩
  rw [e]
  exact h.more fun b hb => by simpa using hb
 ·obtain ⟨A', c', rfl⟩ := SlT.form hp
  exact ⟨A', c', rfl, ⟨⟨ob, hp, fun b hb => List.mem_append_right _ hb⟩, fun e => absurd e (put_ne l s)⟩⟩
structure FtO (A : Option Addr) (c : Nat) (xs : List Fv) (o7 o2 : List Blk) : Prop where
 top : Sl 63 2 (.slice A xs.length c) xs.length (xs.flatMap fvC) o7
 each : ∀ x ∈ xs, ∃ o, SlT (.slice x.A x.of.length x.cap) x.of o ∧ ∀ b ∈ o, b ∈ o2
theorem FtO.nil : FtO none 0 [] [] [] := ⟨Sl.nil _ _, fun x h => by simp at h⟩
theorem FtO.more {A : Option Addr} {c : Nat} {xs : List Fv} {o7 o2 o2' : List Blk} (h : FtO A c xs o7 o2) (hs : ∀ b ∈ o2, b ∈ o2') : FtO A c xs o7 o2' := ⟨h.top, fun x hx => by
 obtain ⟨o, h1, h2⟩ := h.each x hx
 exact ⟨o, h1, fun b hb => hs b (h2 b hb)⟩⟩
theorem FtO.add {A A' : Option Addr} {c c' : Nat} {xs : List Fv} {o7 o7' o2 : List Blk} {x : Fv} (h : FtO A c xs o7 o2) (ht : Sl 63 2 (.slice A' (xs.length + 1) c') (xs.length + 1) (xs.flatMap fvC ++ fvC x) o7') (hx : ∃ o, SlT (.slice x.A x.of.length x.cap) x.of o ∧ ∀ b ∈ o, b ∈ o2) : FtO A' c' (xs ++ [x]) o7' o2 :=
 ⟨by rw [List.length_append, List.length_singleton, List.flatMap_append, List.flatMap_singleton]; exact ht, fun y hy => by
  rcases List.mem_append.1 hy with hy | hy
  ·exact h.each y hy
  ·rw [List.mem_singleton.1 hy]; exact hx⟩
end
section
theorem bZ (x : Nv) : (nvC x).length = 3 := rfl
theorem dY (x : Wv) : (wvC x).length = 4 := rfl
theorem nmF_rd : ∀ k : Nat, k < 4 → yO Tryz.prog 9 #[.string (mkS dfl), .string (mkS [120]), .string (mkS [121]), .string (mkS [122])] (0 + (k : Int).toNat * 1) = some (.string (mkS (nmF k)))
 | 0, _ => by kernel_rfl
 | 1, _ => by kernel_rfl
 | 2, _ => by kernel_rfl
 | 3, _ => by kernel_rfl
theorem features_gen (v : Value) (l : List Int) (i : Nat) (nm pre bld : List UInt8) (a1 a2 a3 : Int) (nA : Option Addr) (nc : Nat) (needs : List Nv) (vb vf : Value) (W : World) (hv : ReadsI W W.heap.size v l) (hl : l.length ≤ 9223372036854775807) (hi : i ≤ 5000)
  (hN : Reads nvC W W.heap.size nA needs) (hWs : ∀ m ∈ needs, Reads wvC W W.heap.size m.A m.any) (hlen : needs.length ≤ 1000) (hopt : ∀ m ∈ needs, m.opt.length ≤ 1000) (hnm : ∀ m ∈ needs, ∀ w ∈ m.any, w.name.length ≤ 1000) :
  YC 52 #[v, YI (i : Int), .agg #[.string (mkS nm), YI a1, YI a2, YI a3, .string (mkS pre), .string (mkS bld), .slice nA needs.length nc, vb, vf]] W fun e w' => ∃ A c xs o7 o2, e = .returned (.slice A xs.length c) ∧ (FtO A c xs o7 o2 ∧ FeatsG needs (fun j => decide (plc (atL l (i + j)) 3 ≠ 0)) 4 xs) ∧ Own [] W w' (o7 ++ o2) := by
 have fa : ∀ (j : Nat), j ≤ 100 → ∀ w, Below W.heap.size W w → YC 53 #[v, YI ((i + j : Nat) : Int)] w (YR (YI (atL l (i + j))) w) := fun j hj w hb => (at_any v l (i + j) w ((hv.below hb).more hb.size) hl Om).mono fun _ _ ⟨e1, e2⟩ => ⟨e1, e2 ▸ Below.refl _ _⟩
 have fp : ∀ (z : Int) w, YC 24 #[YI z, YI 3] w (YR (YI (plc z 3)) w) := fun z w => (place_any z 3 w (by decide) (by decide)).mono fun _ _ ⟨e1, e2⟩ => ⟨e1, e2 ▸ Below.refl _ _⟩
 generalize hkeep : (fun j => decide (plc (atL l (i + j)) 3 ≠ 0)) = keep
 have hk1 : ∀ j, plc (atL l (i + j)) 3 = 0 → keep j = false := fun j h => by rw [← hkeep]; simp [h]
 have hk2 : ∀ j, ¬ plc (atL l (i + j)) 3 = 0 → keep j = true := fun j h => by rw [← hkeep]; simp [h]
 refine zQ Tryz.func52 (wK [] (fun b0 => zV [] fun b8 => ?_))
 refine qO (α := Nat × List Fv × Option Addr × Nat × List Blk × List Blk) (fun (k, xs, A7, c7, _, _) => [(0, v), (1, YI (i : Int)), (5, Zp b0 0), (7, .slice A7 xs.length c7), (8, Zp b8 0), (9, YI (k : Int))])
  (fun (_, _, _, _, o7, o2) => [⟨b8, #[.string (mkS dfl), .string (mkS [120]), .string (mkS [121]), .string (mkS [122])], 95⟩, ⟨b0, #[.string (mkS nm), YI a1, YI a2, YI a3, .string (mkS pre), .string (mkS bld), .slice nA needs.length nc, vb, vf], 28⟩] ++ (o7 ++ o2)) (fun (k, xs, A7, c7, o7, o2) m => k ≤ 4 ∧ m = 4 - k ∧ FtO A7 c7 xs o7 o2 ∧ FeatsG needs keep k xs) (0, [], none, 0, [], []) 4 [0] ⟨by omega, rfl, FtO.nil, FeatsG.nil _ _⟩ ?_
 rintro ⟨k, xs, A7, c7, o7, o2⟩ mm g kk ⟨hk4, hmm, hO7, hG⟩ nx hkk
 subst hkk
 refine y8 16 [] ((k : Int) < 4) (fun h4 => ?_) (fun h4 => ?_)
 rotate_left
 ·obtain rfl : k = 4 := by omega
  exact zF [] _ fun w hO => ⟨A7, c7, xs, o7, o2, rfl, ⟨hO7, hG⟩, hO.past 2 _⟩
 have hkl : k < 4 := by omega
 refine x_i 22 [] ((i + k : Nat) : Int) (zE [] (fun w hO => fa k (by omega) w hO.below) (zE [] (fun w hO => fp (atL l (i + k)) w) (y8 26 [] (plc (atL l (i + k)) 3 = 0) (fun h3 => ?_) (fun h3 => ?_))))
 ·refine x_i 18 [] ((k + 1 : Nat) : Int) (nx (k + 1, xs, A7, c7, o7, o2) (4 - (k + 1)) [] Om ⟨by omega, rfl, hO7, hG.skip (hk1 k h3)⟩ Kr Kr)
 have hxl : xs.length ≤ 4 := by
  have e := congrArg List.length hG.names
  rw [List.length_map, List.length_map] at e
  have := List.length_filter_le keep (List.range k)
  rw [List.length_range] at this; omega
 refine x_ixa 28 [] 4 k 1 hkl (x_ldk 29 [] 0 _ _ 9 _ (nmF_rd k hkl) (zV [] fun b11 => ?_))
 refine yG [0] ([⟨b11, #[.string (mkS (nmF k)), .slice none 0 0], 63⟩, ⟨b8, #[.string (mkS dfl), .string (mkS [120]), .string (mkS [121]), .string (mkS [122])], 95⟩, ⟨b0, #[.string (mkS nm), YI a1, YI a2, YI a3, .string (mkS pre), .string (mkS bld), .slice nA needs.length nc, vb, vf], 28⟩] ++ (o7 ++ o2 ++ [])) (fun w hO => (hO.past 0 ([⟨b11, #[.string (mkS (nmF k)), .slice none 0 0], 63⟩, ⟨b8, #[.string (mkS dfl), .string (mkS [120]), .string (mkS [121]), .string (mkS [122])], 95⟩, ⟨b0, #[.string (mkS nm), YI a1, YI a2, YI a3, .string (mkS pre), .string (mkS bld), .slice nA needs.length nc, vb, vf], 28⟩] ++ (o7 ++ o2))).cast (by simp)) ?_
 refine x_loopE (α := Nat × List (List UInt8) × Option Addr × Nat × List Blk) (β := List (List UInt8) × Option Addr × Nat × List Blk) (fun (j, _, _, _, _) => [(0, v), (1, YI (i : Int)), (5, Zp b0 0), (7, .slice A7 xs.length c7), (8, Zp b8 0), (9, YI (k : Int)), (10, YI (atL l (i + k))), (11, Zp b11 0), (12, YI (j : Int))]) (fun (_, lst, A, c, o3) => [⟨b11, #[.string (mkS (nmF k)), .slice A lst.length c], 63⟩, ⟨b8, #[.string (mkS dfl), .string (mkS [120]), .string (mkS [121]), .string (mkS [122])], 95⟩, ⟨b0, #[.string (mkS nm), YI a1, YI a2, YI a3, .string (mkS pre), .string (mkS bld), .slice nA needs.length nc, vb, vf], 28⟩] ++ (o7 ++ o2 ++ o3)) (fun (j, lst, A, c, o3) m => j ≤ 2 ∧ m = 2 - j ∧ OfS A c lst o3 ∧ OfG needs keep lst (2 * j)) (0, [], none, 0, []) 2
  (fun _ => [(0, v), (1, YI (i : Int)), (5, .pointer (some ⟨b0, 0, none⟩)), (7, .slice A7 xs.length c7), (8, .pointer (some ⟨b8, 0, none⟩)), (9, YI (k : Int)), (10, YI (atL l (i + k))), (11, .pointer (some ⟨b11, 0, none⟩))]) (fun (lst, A, c, o3) => [⟨b11, #[.string (mkS (nmF k)), .slice A lst.length c], 63⟩, ⟨b8, #[.string (mkS dfl), .string (mkS [120]), .string (mkS [121]), .string (mkS [122])], 95⟩, ⟨b0, #[.string (mkS nm), YI a1, YI a2, YI a3, .string (mkS pre), .string (mkS bld), .slice nA needs.length nc, vb, vf], 28⟩] ++ (o7 ++ o2 ++ o3)) (fun (lst, A, c, o3) => OfS A c lst o3 ∧ OfG needs keep lst 4) [] ⟨by omega, rfl, OfS.nil, OfG.nil _ _⟩ ?_ ?_
 ·rintro ⟨j, lst, A, c, o3⟩ m2 g2 ⟨hj2, hm2, hf0, hg0⟩ nx2 nex
  refine y8 35 [2] ((j : Int) < needs.length) (fun h35 => y8 38 [] ((j : Int) < 2) (fun h38 => ?_) (fun h38 => nex (lst, A, c, o3) [] ⟨hf0, hg0.more Om⟩ Kr)) (fun h35 => nex (lst, A, c, o3) [] ⟨hf0, hg0.more Om⟩ Kr)
  obtain rfl | rfl : j = 0 ∨ j = 1 := by omega
  ·have hJ : 0 < needs.length := by omega
   obtain ⟨nb, no, hnA, hnl⟩ := hN.elem bZ 0 hJ
   have hmm : needs[0] ∈ needs := List.getElem_mem hJ
   generalize needs[0] = md at hnl hmm
   have hol := hopt md hmm
   refine kH 45 [2] hnA needs.length nc 0 3 hJ (kB 46 [] 57 nb (no + 0 * 3 + 0) (nvV md) (fun w hO => hnl w hO.below _ 0 _ Kr) (zV [] fun b13 => wI 49 [0, 0] md.opt [] (fun h49 => ?_) (fun h49 => x_tst 57 [] ?_ ?_)))
   ·refine y8 69 [0] ((md.any.length : Int) = 1) (fun h69 => x_tst 77 [] ?_ ?_) (fun h69 => ?_)
    ·obtain ⟨wd, hwd⟩ : ∃ w, md.any = [w] := List.length_eq_one_iff.1 Om
     obtain ⟨wb, wo, hwA, hwl⟩ := (hWs md hmm).elem dY 0 Om
     obtain ⟨q0, hs0, hb0⟩ := hf0.ex
     have hwn : wd.name.length ≤ 1000 := hnm md hmm wd (by simp [hwd])
     have hw0 : md.any[0]'Om = wd := by simp [hwd]
     refine pQ 10 [] (qL 50083 [1, 0] 4 hwA md.any.length md.cap 0 4 Om (gX 50085 [] 6 9 wb (wo + 0 * 4 + 0) (.string (mkS wd.name)) (fun w hO => hwl w hO.below _ 0 _ (by rw [hw0]; kernel_rfl)) (dP 50086 [] 7 wd.name [47] (dP 50087 [] 8 (wd.name ++ [47]) [120] (yH [] 9 (kS (R := PutR (.slice A lst.length c) lst (wd.name ++ [47] ++ [120])) (fun w hO => qV (ob := q0) (wd.name ++ [47] ++ [120]) w hs0 hf0.bare (hO.past 4 (o7 ++ o2 ++ o3)) (fun b hb => by have := hb0 b hb; simp only [List.mem_append] at this ⊢; grind) (by have := hg0.len; omega)) ?_))))))
     rintro _ ob0b hp0b
     obtain ⟨A0b, c0b, rfl, hf0b⟩ := hf0.put hp0b
     have hg0b := hg0.put (.inr (.inl ⟨md, hmm, wd, hwd, rfl⟩))
     exact yG [1] ([⟨b11, #[.string (mkS (nmF k)), .slice A0b (yT lst (wd.name ++ [47] ++ [120])).length c0b], 63⟩, ⟨b8, #[.string (mkS dfl), .string (mkS [120]), .string (mkS [121]), .string (mkS [122])], 95⟩, ⟨b0, #[.string (mkS nm), YI a1, YI a2, YI a3, .string (mkS pre), .string (mkS bld), .slice nA needs.length nc, vb, vf], 28⟩] ++ (o7 ++ o2 ++ (o3 ++ ob0b))) (fun w hO => (hO.past 1 (([⟨b11, #[.string (mkS (nmF k)), .slice A0b (yT lst (wd.name ++ [47] ++ [120])).length c0b], 63⟩, ⟨b8, #[.string (mkS dfl), .string (mkS [120]), .string (mkS [121]), .string (mkS [122])], 95⟩, ⟨b0, #[.string (mkS nm), YI a1, YI a2, YI a3, .string (mkS pre), .string (mkS bld), .slice nA needs.length nc, vb, vf], 28⟩] ++ (o7 ++ o2 ++ o3)) ++ ob0b)).cast (by simp only [List.append_assoc, List.cons_append, List.nil_append])) (nx2 (1, (yT lst (wd.name ++ [47] ++ [120])), A0b, c0b, (o3 ++ ob0b)) 1 [] Om ⟨by omega, rfl, hf0b, hg0b.more Om⟩ Kr Kr)
    ·exact yG [] ([⟨b11, #[.string (mkS (nmF k)), .slice A lst.length c], 63⟩, ⟨b8, #[.string (mkS dfl), .string (mkS [120]), .string (mkS [121]), .string (mkS [122])], 95⟩, ⟨b0, #[.string (mkS nm), YI a1, YI a2, YI a3, .string (mkS pre), .string (mkS bld), .slice nA needs.length nc, vb, vf], 28⟩] ++ (o7 ++ o2 ++ o3)) (fun w hO => (hO.past 1 ([⟨b11, #[.string (mkS (nmF k)), .slice A lst.length c], 63⟩, ⟨b8, #[.string (mkS dfl), .string (mkS [120]), .string (mkS [121]), .string (mkS [122])], 95⟩, ⟨b0, #[.string (mkS nm), YI a1, YI a2, YI a3, .string (mkS pre), .string (mkS bld), .slice nA needs.length nc, vb, vf], 28⟩] ++ (o7 ++ o2 ++ o3))).cast (by simp only [List.append_assoc, List.cons_append, List.nil_append])) (nx2 (1, lst, A, c, o3) 1 [] Om ⟨by omega, rfl, hf0, hg0.more Om⟩ Kr Kr)
    ·exact yG [] ([⟨b11, #[.string (mkS (nmF k)), .slice A lst.length c], 63⟩, ⟨b8, #[.string (mkS dfl), .string (mkS [120]), .string (mkS [121]), .string (mkS [122])], 95⟩, ⟨b0, #[.string (mkS nm), YI a1, YI a2, YI a3, .string (mkS pre), .string (mkS bld), .slice nA needs.length nc, vb, vf], 28⟩] ++ (o7 ++ o2 ++ o3)) (fun w hO => (hO.past 1 ([⟨b11, #[.string (mkS (nmF k)), .slice A lst.length c], 63⟩, ⟨b8, #[.string (mkS dfl), .string (mkS [120]), .string (mkS [121]), .string (mkS [122])], 95⟩, ⟨b0, #[.string (mkS nm), YI a1, YI a2, YI a3, .string (mkS pre), .string (mkS bld), .slice nA needs.length nc, vb, vf], 28⟩] ++ (o7 ++ o2 ++ o3))).cast (by simp only [List.append_assoc, List.cons_append, List.nil_append])) (nx2 (1, lst, A, c, o3) 1 [] Om ⟨by omega, rfl, hf0, hg0.more Om⟩ Kr Kr)
   ·obtain ⟨q0, hs0, hb0⟩ := hf0.ex
    refine bF 63 [1, 0] [63] md.opt (qP (R := PutR (.slice A lst.length c) lst ([63] ++ md.opt)) [] (fun w hO => qV (ob := q0) ([63] ++ md.opt) w hs0 hf0.bare (hO.past 4 (o7 ++ o2 ++ o3)) (fun b hb => by have := hb0 b hb; simp only [List.mem_append] at this ⊢; grind) (by have := hg0.len; omega)) ?_)
    rintro _ oba hpa
    obtain ⟨Aa, ca, rfl, hfa⟩ := hf0.put hpa
    have hga := hg0.put (.inl ⟨md, hmm, h49, rfl⟩)
    refine y8 69 [1, 0] ((md.any.length : Int) = 1) (fun h69 => x_tst 77 [] ?_ ?_) (fun h69 => ?_)
    ·obtain ⟨wd, hwd⟩ : ∃ w, md.any = [w] := List.length_eq_one_iff.1 Om
     obtain ⟨wb, wo, hwA, hwl⟩ := (hWs md hmm).elem dY 0 Om
     obtain ⟨qa, hsa, hba⟩ := hfa.ex
     have hwn : wd.name.length ≤ 1000 := hnm md hmm wd (by simp [hwd])
     have hw0 : md.any[0]'Om = wd := by simp [hwd]
     refine pQ 10 [] (qL 50083 [1, 0] 4 hwA md.any.length md.cap 0 4 Om (gX 50085 [] 6 9 wb (wo + 0 * 4 + 0) (.string (mkS wd.name)) (fun w hO => hwl w hO.below _ 0 _ (by rw [hw0]; kernel_rfl)) (dP 50086 [] 7 wd.name [47] (dP 50087 [] 8 (wd.name ++ [47]) [120] (yH [] 9 (kS (R := PutR (.slice Aa (yT lst ([63] ++ md.opt)).length ca) (yT lst ([63] ++ md.opt)) (wd.name ++ [47] ++ [120])) (fun w hO => qV (ob := qa) (wd.name ++ [47] ++ [120]) w hsa hfa.bare (hO.past 4 ((o7 ++ o2 ++ o3) ++ oba)) (fun b hb => by have := hba b hb; simp only [List.mem_append] at this ⊢; grind) (by have := hga.len; omega)) ?_))))))
     rintro _ obab hpab
     obtain ⟨Aab, cab, rfl, hfab⟩ := hfa.put hpab
     have hgab := hga.put (.inr (.inl ⟨md, hmm, wd, hwd, rfl⟩))
     exact yG [1] ([⟨b11, #[.string (mkS (nmF k)), .slice Aab (yT (yT lst ([63] ++ md.opt)) (wd.name ++ [47] ++ [120])).length cab], 63⟩, ⟨b8, #[.string (mkS dfl), .string (mkS [120]), .string (mkS [121]), .string (mkS [122])], 95⟩, ⟨b0, #[.string (mkS nm), YI a1, YI a2, YI a3, .string (mkS pre), .string (mkS bld), .slice nA needs.length nc, vb, vf], 28⟩] ++ (o7 ++ o2 ++ ((o3 ++ oba) ++ obab))) (fun w hO => (hO.past 1 ((([⟨b11, #[.string (mkS (nmF k)), .slice Aab (yT (yT lst ([63] ++ md.opt)) (wd.name ++ [47] ++ [120])).length cab], 63⟩, ⟨b8, #[.string (mkS dfl), .string (mkS [120]), .string (mkS [121]), .string (mkS [122])], 95⟩, ⟨b0, #[.string (mkS nm), YI a1, YI a2, YI a3, .string (mkS pre), .string (mkS bld), .slice nA needs.length nc, vb, vf], 28⟩] ++ (o7 ++ o2 ++ o3)) ++ oba) ++ obab)).cast (by simp only [List.append_assoc, List.cons_append, List.nil_append])) (nx2 (1, (yT (yT lst ([63] ++ md.opt)) (wd.name ++ [47] ++ [120])), Aab, cab, ((o3 ++ oba) ++ obab)) 1 [] Om ⟨by omega, rfl, hfab, hgab.more Om⟩ Kr Kr)
    ·exact yG [] ([⟨b11, #[.string (mkS (nmF k)), .slice Aa (yT lst ([63] ++ md.opt)).length ca], 63⟩, ⟨b8, #[.string (mkS dfl), .string (mkS [120]), .string (mkS [121]), .string (mkS [122])], 95⟩, ⟨b0, #[.string (mkS nm), YI a1, YI a2, YI a3, .string (mkS pre), .string (mkS bld), .slice nA needs.length nc, vb, vf], 28⟩] ++ (o7 ++ o2 ++ (o3 ++ oba))) (fun w hO => (hO.past 1 (([⟨b11, #[.string (mkS (nmF k)), .slice Aa (yT lst ([63] ++ md.opt)).length ca], 63⟩, ⟨b8, #[.string (mkS dfl), .string (mkS [120]), .string (mkS [121]), .string (mkS [122])], 95⟩, ⟨b0, #[.string (mkS nm), YI a1, YI a2, YI a3, .string (mkS pre), .string (mkS bld), .slice nA needs.length nc, vb, vf], 28⟩] ++ (o7 ++ o2 ++ o3)) ++ oba)).cast (by simp only [List.append_assoc, List.cons_append, List.nil_append])) (nx2 (1, (yT lst ([63] ++ md.opt)), Aa, ca, (o3 ++ oba)) 1 [] Om ⟨by omega, rfl, hfa, hga.more Om⟩ Kr Kr)
    ·exact yG [] ([⟨b11, #[.string (mkS (nmF k)), .slice Aa (yT lst ([63] ++ md.opt)).length ca], 63⟩, ⟨b8, #[.string (mkS dfl), .string (mkS [120]), .string (mkS [121]), .string (mkS [122])], 95⟩, ⟨b0, #[.string (mkS nm), YI a1, YI a2, YI a3, .string (mkS pre), .string (mkS bld), .slice nA needs.length nc, vb, vf], 28⟩] ++ (o7 ++ o2 ++ (o3 ++ oba))) (fun w hO => (hO.past 1 (([⟨b11, #[.string (mkS (nmF k)), .slice Aa (yT lst ([63] ++ md.opt)).length ca], 63⟩, ⟨b8, #[.string (mkS dfl), .string (mkS [120]), .string (mkS [121]), .string (mkS [122])], 95⟩, ⟨b0, #[.string (mkS nm), YI a1, YI a2, YI a3, .string (mkS pre), .string (mkS bld), .slice nA needs.length nc, vb, vf], 28⟩] ++ (o7 ++ o2 ++ o3)) ++ oba)).cast (by simp only [List.append_assoc, List.cons_append, List.nil_append])) (nx2 (1, (yT lst ([63] ++ md.opt)), Aa, ca, (o3 ++ oba)) 1 [] Om ⟨by omega, rfl, hfa, hga.more Om⟩ Kr Kr)
   ·refine y8 69 [0] ((md.any.length : Int) = 1) (fun h69 => x_tst 77 [] ?_ ?_) (fun h69 => ?_)
    ·obtain ⟨wd, hwd⟩ : ∃ w, md.any = [w] := List.length_eq_one_iff.1 Om
     obtain ⟨wb, wo, hwA, hwl⟩ := (hWs md hmm).elem dY 0 Om
     obtain ⟨q0, hs0, hb0⟩ := hf0.ex
     have hwn : wd.name.length ≤ 1000 := hnm md hmm wd (by simp [hwd])
     have hw0 : md.any[0]'Om = wd := by simp [hwd]
     refine pQ 10 [] (qL 50083 [1, 0] 4 hwA md.any.length md.cap 0 4 Om (gX 50085 [] 6 9 wb (wo + 0 * 4 + 0) (.string (mkS wd.name)) (fun w hO => hwl w hO.below _ 0 _ (by rw [hw0]; kernel_rfl)) (dP 50086 [] 7 wd.name [47] (dP 50087 [] 8 (wd.name ++ [47]) [120] (yH [] 9 (kS (R := PutR (.slice A lst.length c) lst (wd.name ++ [47] ++ [120])) (fun w hO => qV (ob := q0) (wd.name ++ [47] ++ [120]) w hs0 hf0.bare (hO.past 4 (o7 ++ o2 ++ o3)) (fun b hb => by have := hb0 b hb; simp only [List.mem_append] at this ⊢; grind) (by have := hg0.len; omega)) ?_))))))
     rintro _ ob0b hp0b
     obtain ⟨A0b, c0b, rfl, hf0b⟩ := hf0.put hp0b
     have hg0b := hg0.put (.inr (.inl ⟨md, hmm, wd, hwd, rfl⟩))
     exact yG [1] ([⟨b11, #[.string (mkS (nmF k)), .slice A0b (yT lst (wd.name ++ [47] ++ [120])).length c0b], 63⟩, ⟨b8, #[.string (mkS dfl), .string (mkS [120]), .string (mkS [121]), .string (mkS [122])], 95⟩, ⟨b0, #[.string (mkS nm), YI a1, YI a2, YI a3, .string (mkS pre), .string (mkS bld), .slice nA needs.length nc, vb, vf], 28⟩] ++ (o7 ++ o2 ++ (o3 ++ ob0b))) (fun w hO => (hO.past 1 (([⟨b11, #[.string (mkS (nmF k)), .slice A0b (yT lst (wd.name ++ [47] ++ [120])).length c0b], 63⟩, ⟨b8, #[.string (mkS dfl), .string (mkS [120]), .string (mkS [121]), .string (mkS [122])], 95⟩, ⟨b0, #[.string (mkS nm), YI a1, YI a2, YI a3, .string (mkS pre), .string (mkS bld), .slice nA needs.length nc, vb, vf], 28⟩] ++ (o7 ++ o2 ++ o3)) ++ ob0b)).cast (by simp only [List.append_assoc, List.cons_append, List.nil_append])) (nx2 (1, (yT lst (wd.name ++ [47] ++ [120])), A0b, c0b, (o3 ++ ob0b)) 1 [] Om ⟨by omega, rfl, hf0b, hg0b.more Om⟩ Kr Kr)
    ·exact yG [] ([⟨b11, #[.string (mkS (nmF k)), .slice A lst.length c], 63⟩, ⟨b8, #[.string (mkS dfl), .string (mkS [120]), .string (mkS [121]), .string (mkS [122])], 95⟩, ⟨b0, #[.string (mkS nm), YI a1, YI a2, YI a3, .string (mkS pre), .string (mkS bld), .slice nA needs.length nc, vb, vf], 28⟩] ++ (o7 ++ o2 ++ o3)) (fun w hO => (hO.past 1 ([⟨b11, #[.string (mkS (nmF k)), .slice A lst.length c], 63⟩, ⟨b8, #[.string (mkS dfl), .string (mkS [120]), .string (mkS [121]), .string (mkS [122])], 95⟩, ⟨b0, #[.string (mkS nm), YI a1, YI a2, YI a3, .string (mkS pre), .string (mkS bld), .slice nA needs.length nc, vb, vf], 28⟩] ++ (o7 ++ o2 ++ o3))).cast (by simp only [List.append_assoc, List.cons_append, List.nil_append])) (nx2 (1, lst, A, c, o3) 1 [] Om ⟨by omega, rfl, hf0, hg0.more Om⟩ Kr Kr)
    ·exact yG [] ([⟨b11, #[.string (mkS (nmF k)), .slice A lst.length c], 63⟩, ⟨b8, #[.string (mkS dfl), .string (mkS [120]), .string (mkS [121]), .string (mkS [122])], 95⟩, ⟨b0, #[.string (mkS nm), YI a1, YI a2, YI a3, .string (mkS pre), .string (mkS bld), .slice nA needs.length nc, vb, vf], 28⟩] ++ (o7 ++ o2 ++ o3)) (fun w hO => (hO.past 1 ([⟨b11, #[.string (mkS (nmF k)), .slice A lst.length c], 63⟩, ⟨b8, #[.string (mkS dfl), .string (mkS [120]), .string (mkS [121]), .string (mkS [122])], 95⟩, ⟨b0, #[.string (mkS nm), YI a1, YI a2, YI a3, .string (mkS pre), .string (mkS bld), .slice nA needs.length nc, vb, vf], 28⟩] ++ (o7 ++ o2 ++ o3))).cast (by simp only [List.append_assoc, List.cons_append, List.nil_append])) (nx2 (1, lst, A, c, o3) 1 [] Om ⟨by omega, rfl, hf0, hg0.more Om⟩ Kr Kr)
  ·have hJ : 1 < needs.length := by omega
   obtain ⟨nb, no, hnA, hnl⟩ := hN.elem bZ 1 hJ
   have hmm : needs[1] ∈ needs := List.getElem_mem hJ
   generalize needs[1] = md at hnl hmm
   have hol := hopt md hmm
   refine kH 45 [2] hnA needs.length nc 1 3 hJ (kB 46 [] 57 nb (no + 1 * 3 + 0) (nvV md) (fun w hO => hnl w hO.below _ 0 _ Kr) (zV [] fun b13 => wI 49 [0, 0] md.opt [] (fun h49 => ?_) (fun h49 => x_tst 57 [] ?_ ?_)))
   ·refine y8 69 [0] ((md.any.length : Int) = 1) (fun h69 => x_tst 77 [] ?_ ?_) (fun h69 => ?_)
    ·obtain ⟨wd, hwd⟩ : ∃ w, md.any = [w] := List.length_eq_one_iff.1 Om
     obtain ⟨wb, wo, hwA, hwl⟩ := (hWs md hmm).elem dY 0 Om
     obtain ⟨q0, hs0, hb0⟩ := hf0.ex
     have hwn : wd.name.length ≤ 1000 := hnm md hmm wd (by simp [hwd])
     have hw0 : md.any[0]'Om = wd := by simp [hwd]
     refine pQ 10 [] (qL 50083 [1, 0] 4 hwA md.any.length md.cap 0 4 Om (gX 50085 [] 6 9 wb (wo + 0 * 4 + 0) (.string (mkS wd.name)) (fun w hO => hwl w hO.below _ 0 _ (by rw [hw0]; kernel_rfl)) (dP 50086 [] 7 wd.name [47] (dP 50087 [] 8 (wd.name ++ [47]) [120] (yH [] 9 (kS (R := PutR (.slice A lst.length c) lst (wd.name ++ [47] ++ [120])) (fun w hO => qV (ob := q0) (wd.name ++ [47] ++ [120]) w hs0 hf0.bare (hO.past 4 (o7 ++ o2 ++ o3)) (fun b hb => by have := hb0 b hb; simp only [List.mem_append] at this ⊢; grind) (by have := hg0.len; omega)) ?_))))))
     rintro _ ob0b hp0b
     obtain ⟨A0b, c0b, rfl, hf0b⟩ := hf0.put hp0b
     have hg0b := hg0.put (.inr (.inl ⟨md, hmm, wd, hwd, rfl⟩))
     exact yG [1] ([⟨b11, #[.string (mkS (nmF k)), .slice A0b (yT lst (wd.name ++ [47] ++ [120])).length c0b], 63⟩, ⟨b8, #[.string (mkS dfl), .string (mkS [120]), .string (mkS [121]), .string (mkS [122])], 95⟩, ⟨b0, #[.string (mkS nm), YI a1, YI a2, YI a3, .string (mkS pre), .string (mkS bld), .slice nA needs.length nc, vb, vf], 28⟩] ++ (o7 ++ o2 ++ (o3 ++ ob0b))) (fun w hO => (hO.past 1 (([⟨b11, #[.string (mkS (nmF k)), .slice A0b (yT lst (wd.name ++ [47] ++ [120])).length c0b], 63⟩, ⟨b8, #[.string (mkS dfl), .string (mkS [120]), .string (mkS [121]), .string (mkS [122])], 95⟩, ⟨b0, #[.string (mkS nm), YI a1, YI a2, YI a3, .string (mkS pre), .string (mkS bld), .slice nA needs.length nc, vb, vf], 28⟩] ++ (o7 ++ o2 ++ o3)) ++ ob0b)).cast (by simp only [List.append_assoc, List.cons_append, List.nil_append])) (nx2 (2, (yT lst (wd.name ++ [47] ++ [120])), A0b, c0b, (o3 ++ ob0b)) 0 [] Om ⟨by omega, rfl, hf0b, hg0b.more Om⟩ Kr Kr)
    ·exact yG [] ([⟨b11, #[.string (mkS (nmF k)), .slice A lst.length c], 63⟩, ⟨b8, #[.string (mkS dfl), .string (mkS [120]), .string (mkS [121]), .string (mkS [122])], 95⟩, ⟨b0, #[.string (mkS nm), YI a1, YI a2, YI a3, .string (mkS pre), .string (mkS bld), .slice nA needs.length nc, vb, vf], 28⟩] ++ (o7 ++ o2 ++ o3)) (fun w hO => (hO.past 1 ([⟨b11, #[.string (mkS (nmF k)), .slice A lst.length c], 63⟩, ⟨b8, #[.string (mkS dfl), .string (mkS [120]), .string (mkS [121]), .string (mkS [122])], 95⟩, ⟨b0, #[.string (mkS nm), YI a1, YI a2, YI a3, .string (mkS pre), .string (mkS bld), .slice nA needs.length nc, vb, vf], 28⟩] ++ (o7 ++ o2 ++ o3))).cast (by simp only [List.append_assoc, List.cons_append, List.nil_append])) (nx2 (2, lst, A, c, o3) 0 [] Om ⟨by omega, rfl, hf0, hg0.more Om⟩ Kr Kr)
    ·exact yG [] ([⟨b11, #[.string (mkS (nmF k)), .slice A lst.length c], 63⟩, ⟨b8, #[.string (mkS dfl), .string (mkS [120]), .string (mkS [121]), .string (mkS [122])], 95⟩, ⟨b0, #[.string (mkS nm), YI a1, YI a2, YI a3, .string (mkS pre), .string (mkS bld), .slice nA needs.length nc, vb, vf], 28⟩] ++ (o7 ++ o2 ++ o3)) (fun w hO => (hO.past 1 ([⟨b11, #[.string (mkS (nmF k)), .slice A lst.length c], 63⟩, ⟨b8, #[.string (mkS dfl), .string (mkS [120]), .string (mkS [121]), .string (mkS [122])], 95⟩, ⟨b0, #[.string (mkS nm), YI a1, YI a2, YI a3, .string (mkS pre), .string (mkS bld), .slice nA needs.length nc, vb, vf], 28⟩] ++ (o7 ++ o2 ++ o3))).cast (by simp only [List.append_assoc, List.cons_append, List.nil_append])) (nx2 (2, lst, A, c, o3) 0 [] Om ⟨by omega, rfl, hf0, hg0.more Om⟩ Kr Kr)
   ·obtain ⟨q0, hs0, hb0⟩ := hf0.ex
    refine bF 63 [1, 0] [63] md.opt (qP (R := PutR (.slice A lst.length c) lst ([63] ++ md.opt)) [] (fun w hO => qV (ob := q0) ([63] ++ md.opt) w hs0 hf0.bare (hO.past 4 (o7 ++ o2 ++ o3)) (fun b hb => by have := hb0 b hb; simp only [List.mem_append] at this ⊢; grind) (by have := hg0.len; omega)) ?_)
    rintro _ oba hpa
    obtain ⟨Aa, ca, rfl, hfa⟩ := hf0.put hpa
    have hga := hg0.put (.inl ⟨md, hmm, h49, rfl⟩)
    refine y8 69 [1, 0] ((md.any.length : Int) = 1) (fun h69 => x_tst 77 [] ?_ ?_) (fun h69 => ?_)
    ·obtain ⟨wd, hwd⟩ : ∃ w, md.any = [w] := List.length_eq_one_iff.1 Om
     obtain ⟨wb, wo, hwA, hwl⟩ := (hWs md hmm).elem dY 0 Om
     obtain ⟨qa, hsa, hba⟩ := hfa.ex
     have hwn : wd.name.length ≤ 1000 := hnm md hmm wd (by simp [hwd])
     have hw0 : md.any[0]'Om = wd := by simp [hwd]
     refine pQ 10 [] (qL 50083 [1, 0] 4 hwA md.any.length md.cap 0 4 Om (gX 50085 [] 6 9 wb (wo + 0 * 4 + 0) (.string (mkS wd.name)) (fun w hO => hwl w hO.below _ 0 _ (by rw [hw0]; kernel_rfl)) (dP 50086 [] 7 wd.name [47] (dP 50087 [] 8 (wd.name ++ [47]) [120] (yH [] 9 (kS (R := PutR (.slice Aa (yT lst ([63] ++ md.opt)).length ca) (yT lst ([63] ++ md.opt)) (wd.name ++ [47] ++ [120])) (fun w hO => qV (ob := qa) (wd.name ++ [47] ++ [120]) w hsa hfa.bare (hO.past 4 ((o7 ++ o2 ++ o3) ++ oba)) (fun b hb => by have := hba b hb; simp only [List.mem_append] at this ⊢; grind) (by have := hga.len; omega)) ?_))))))
     rintro _ obab hpab
     obtain ⟨Aab, cab, rfl, hfab⟩ := hfa.put hpab
     have hgab := hga.put (.inr (.inl ⟨md, hmm, wd, hwd, rfl⟩))
     exact yG [1] ([⟨b11, #[.string (mkS (nmF k)), .slice Aab (yT (yT lst ([63] ++ md.opt)) (wd.name ++ [47] ++ [120])).length cab], 63⟩, ⟨b8, #[.string (mkS dfl), .string (mkS [120]), .string (mkS [121]), .string (mkS [122])], 95⟩, ⟨b0, #[.string (mkS nm), YI a1, YI a2, YI a3, .string (mkS pre), .string (mkS bld), .slice nA needs.length nc, vb, vf], 28⟩] ++ (o7 ++ o2 ++ ((o3 ++ oba) ++ obab))) (fun w hO => (hO.past 1 ((([⟨b11, #[.string (mkS (nmF k)), .slice Aab (yT (yT lst ([63] ++ md.opt)) (wd.name ++ [47] ++ [120])).length cab], 63⟩, ⟨b8, #[.string (mkS dfl), .string (mkS [120]), .string (mkS [121]), .string (mkS [122])], 95⟩, ⟨b0, #[.string (mkS nm), YI a1, YI a2, YI a3, .string (mkS pre), .string (mkS bld), .slice nA needs.length nc, vb, vf], 28⟩] ++ (o7 ++ o2 ++ o3)) ++ oba) ++ obab)).cast (by simp only [List.append_assoc, List.cons_append, List.nil_append])) (nx2 (2, (yT (yT lst ([63] ++ md.opt)) (wd.name ++ [47] ++ [120])), Aab, cab, ((o3 ++ oba) ++ obab)) 0 [] Om ⟨by omega, rfl, hfab, hgab.more Om⟩ Kr Kr)
    ·exact yG [] ([⟨b11, #[.string (mkS (nmF k)), .slice Aa (yT lst ([63] ++ md.opt)).length ca], 63⟩, ⟨b8, #[.string (mkS dfl), .string (mkS [120]), .string (mkS [121]), .string (mkS [122])], 95⟩, ⟨b0, #[.string (mkS nm), YI a1, YI a2, YI a3, .string (mkS pre), .string (mkS bld), .slice nA needs.length nc, vb, vf], 28⟩] ++ (o7 ++ o2 ++ (o3 ++ oba))) (fun w hO => (hO.past 1 (([⟨b11, #[.string (mkS (nmF k)), .slice Aa (yT lst ([63] ++ md.opt)).length ca], 63⟩, ⟨b8, #[.string (mkS dfl), .string (mkS [120]), .string (mkS [121]), .string (mkS [122])], 95⟩, ⟨b0, #[.string (mkS nm), YI a1, YI a2, YI a3, .string (mkS pre), .string (mkS bld), .slice nA needs.length nc, vb, vf], 28⟩] ++ (o7 ++ o2 ++ o3)) ++ oba)).cast (by simp only [List.append_assoc, List.cons_append, List.nil_append])) (nx2 (2, (yT lst ([63] ++ md.opt)), Aa, ca, (o3 ++ oba)) 0 [] Om ⟨by omega, rfl, hfa, hga.more Om⟩ Kr Kr)
    ·exact yG [] ([⟨b11, #[.string (mkS (nmF k)), .slice Aa (yT lst ([63] ++ md.opt)).length ca], 63⟩, ⟨b8, #[.string (mkS dfl), .string (mkS [120]), .string (mkS [121]), .string (mkS [122])], 95⟩, ⟨b0, #[.string (mkS nm), YI a1, YI a2, YI a3, .string (mkS pre), .string (mkS bld), .slice nA needs.length nc, vb, vf], 28⟩] ++ (o7 ++ o2 ++ (o3 ++ oba))) (fun w hO => (hO.past 1 (([⟨b11, #[.string (mkS (nmF k)), .slice Aa (yT lst ([63] ++ md.opt)).length ca], 63⟩, ⟨b8, #[.string (mkS dfl), .string (mkS [120]), .string (mkS [121]), .string (mkS [122])], 95⟩, ⟨b0, #[.string (mkS nm), YI a1, YI a2, YI a3, .string (mkS pre), .string (mkS bld), .slice nA needs.length nc, vb, vf], 28⟩] ++ (o7 ++ o2 ++ o3)) ++ oba)).cast (by simp only [List.append_assoc, List.cons_append, List.nil_append])) (nx2 (2, (yT lst ([63] ++ md.opt)), Aa, ca, (o3 ++ oba)) 0 [] Om ⟨by omega, rfl, hfa, hga.more Om⟩ Kr Kr)
   ·refine y8 69 [0] ((md.any.length : Int) = 1) (fun h69 => x_tst 77 [] ?_ ?_) (fun h69 => ?_)
    ·obtain ⟨wd, hwd⟩ : ∃ w, md.any = [w] := List.length_eq_one_iff.1 Om
     obtain ⟨wb, wo, hwA, hwl⟩ := (hWs md hmm).elem dY 0 Om
     obtain ⟨q0, hs0, hb0⟩ := hf0.ex
     have hwn : wd.name.length ≤ 1000 := hnm md hmm wd (by simp [hwd])
     have hw0 : md.any[0]'Om = wd := by simp [hwd]
     refine pQ 10 [] (qL 50083 [1, 0] 4 hwA md.any.length md.cap 0 4 Om (gX 50085 [] 6 9 wb (wo + 0 * 4 + 0) (.string (mkS wd.name)) (fun w hO => hwl w hO.below _ 0 _ (by rw [hw0]; kernel_rfl)) (dP 50086 [] 7 wd.name [47] (dP 50087 [] 8 (wd.name ++ [47]) [120] (yH [] 9 (kS (R := PutR (.slice A lst.length c) lst (wd.name ++ [47] ++ [120])) (fun w hO => qV (ob := q0) (wd.name ++ [47] ++ [120]) w hs0 hf0.bare (hO.past 4 (o7 ++ o2 ++ o3)) (fun b hb => by have := hb0 b hb; simp only [List.mem_append] at this ⊢; grind) (by have := hg0.len; omega)) ?_))))))
     rintro _ ob0b hp0b
     obtain ⟨A0b, c0b, rfl, hf0b⟩ := hf0.put hp0b
     have hg0b := hg0.put (.inr (.inl ⟨md, hmm, wd, hwd, rfl⟩))
     exact yG [1] ([⟨b11, #[.string (mkS (nmF k)), .slice A0b (yT lst (wd.name ++ [47] ++ [120])).length c0b], 63⟩, ⟨b8, #[.string (mkS dfl), .string (mkS [120]), .string (mkS [121]), .string (mkS [122])], 95⟩, ⟨b0, #[.string (mkS nm), YI a1, YI a2, YI a3, .string (mkS pre), .string (mkS bld), .slice nA needs.length nc, vb, vf], 28⟩] ++ (o7 ++ o2 ++ (o3 ++ ob0b))) (fun w hO => (hO.past 1 (([⟨b11, #[.string (mkS (nmF k)), .slice A0b (yT lst (wd.name ++ [47] ++ [120])).length c0b], 63⟩, ⟨b8, #[.string (mkS dfl), .string (mkS [120]), .string (mkS [121]), .string (mkS [122])], 95⟩, ⟨b0, #[.string (mkS nm), YI a1, YI a2, YI a3, .string (mkS pre), .string (mkS bld), .slice nA needs.length nc, vb, vf], 28⟩] ++ (o7 ++ o2 ++ o3)) ++ ob0b)).cast (by simp only [List.append_assoc, List.cons_append, List.nil_append])) (nx2 (2, (yT lst (wd.name ++ [47] ++ [120])), A0b, c0b, (o3 ++ ob0b)) 0 [] Om ⟨by omega, rfl, hf0b, hg0b.more Om⟩ Kr Kr)
    ·exact yG [] ([⟨b11, #[.string (mkS (nmF k)), .slice A lst.length c], 63⟩, ⟨b8, #[.string (mkS dfl), .string (mkS [120]), .string (mkS [121]), .string (mkS [122])], 95⟩, ⟨b0, #[.string (mkS nm), YI a1, YI a2, YI a3, .string (mkS pre), .string (mkS bld), .slice nA needs.length nc, vb, vf], 28⟩] ++ (o7 ++ o2 ++ o3)) (fun w hO => (hO.past 1 ([⟨b11, #[.string (mkS (nmF k)), .slice A lst.length c], 63⟩, ⟨b8, #[.string (mkS dfl), .string (mkS [120]), .string (mkS [121]), .string (mkS [122])], 95⟩, ⟨b0, #[.string (mkS nm), YI a1, YI a2, YI a3, .string (mkS pre), .string (mkS bld), .slice nA needs.length nc, vb, vf], 28⟩] ++ (o7 ++ o2 ++ o3))).cast (by simp only [List.append_assoc, List.cons_append, List.nil_append])) (nx2 (2, lst, A, c, o3) 0 [] Om ⟨by omega, rfl, hf0, hg0.more Om⟩ Kr Kr)
    ·exact yG [] ([⟨b11, #[.string (mkS (nmF k)), .slice A lst.length c], 63⟩, ⟨b8, #[.string (mkS dfl), .string (mkS [120]), .string (mkS [121]), .string (mkS [122])], 95⟩, ⟨b0, #[.string (mkS nm), YI a1, YI a2, YI a3, .string (mkS pre), .string (mkS bld), .slice nA needs.length nc, vb, vf], 28⟩] ++ (o7 ++ o2 ++ o3)) (fun w hO => (hO.past 1 ([⟨b11, #[.string (mkS (nmF k)), .slice A lst.length c], 63⟩, ⟨b8, #[.string (mkS dfl), .string (mkS [120]), .string (mkS [121]), .string (mkS [122])], 95⟩, ⟨b0, #[.string (mkS nm), YI a1, YI a2, YI a3, .string (mkS pre), .string (mkS bld), .slice nA needs.length nc, vb, vf], 28⟩] ++ (o7 ++ o2 ++ o3))).cast (by simp only [List.append_assoc, List.cons_append, List.nil_append])) (nx2 (2, lst, A, c, o3) 0 [] Om ⟨by omega, rfl, hf0, hg0.more Om⟩ Kr Kr)
 ·rintro ⟨lst, A, c, o3⟩ g2 ⟨hf0, hg0⟩
  refine y8 91 [] ((k : Int) < 3) (fun h91 => x_tst 96 [] (x_i 102 [] ((i + k : Nat) : Int) (x_i 103 [] ((i + (k + 1) : Nat) : Int) (zE [] (fun w hO => fa (k + 1) (by omega) w hO.below) (zE [] (fun w hO => fp (atL l (i + (k + 1))) w) (x_bn 106 [] (plc (atL l (i + (k + 1))) 3 = 0) (fun h5 => ?_) (fun h5 => ?_)))))) ?_) (fun h91 => ?_)
  ·refine wJ [0] 1 63 #[.string (mkS (nmF k)), .slice A lst.length c] (fun b12 => pG [] [⟨b12, #[.string (mkS (nmF k)), .slice A lst.length c], 63⟩, ⟨b11, #[.string (mkS (nmF k)), .slice A lst.length c], 63⟩, ⟨b8, #[.string (mkS dfl), .string (mkS [120]), .string (mkS [121]), .string (mkS [122])], 95⟩, ⟨b0, #[.string (mkS nm), YI a1, YI a2, YI a3, .string (mkS pre), .string (mkS bld), .slice nA needs.length nc, vb, vf], 28⟩] o7 (o2 ++ o3) 0 (⟨b12, #[.string (mkS (nmF k)), .slice A lst.length c], 63⟩ :: ([⟨b11, #[.string (mkS (nmF k)), .slice A lst.length c], 63⟩, ⟨b8, #[.string (mkS dfl), .string (mkS [120]), .string (mkS [121]), .string (mkS [122])], 95⟩, ⟨b0, #[.string (mkS nm), YI a1, YI a2, YI a3, .string (mkS pre), .string (mkS bld), .slice nA needs.length nc, vb, vf], 28⟩] ++ (o7 ++ o2 ++ o3))) (fun w hO => hO.cast (by simp only [List.append_assoc, List.cons_append, List.nil_append])) hO7.top (m := 1) (cp := 1) Om fun v' o7' hS => ?_)
   obtain ⟨A8, c8, rfl⟩ := Sl.form hS
   obtain ⟨q0, hs0, hb0⟩ := hf0.ex
   exact jO 7 [] (.slice A8 (xs.length + 1) c8) (.slice A8 (xs ++ [(⟨nmF k, A, lst, c⟩ : Fv)]).length c8) (by simp) (x_i 18 [] ((k + 1 : Nat) : Int) (yG [] ([⟨b8, #[.string (mkS dfl), .string (mkS [120]), .string (mkS [121]), .string (mkS [122])], 95⟩, ⟨b0, #[.string (mkS nm), YI a1, YI a2, YI a3, .string (mkS pre), .string (mkS bld), .slice nA needs.length nc, vb, vf], 28⟩] ++ (o7' ++ (o2 ++ o3))) (fun w hO => (hO.past 2 ([⟨b8, #[.string (mkS dfl), .string (mkS [120]), .string (mkS [121]), .string (mkS [122])], 95⟩, ⟨b0, #[.string (mkS nm), YI a1, YI a2, YI a3, .string (mkS pre), .string (mkS bld), .slice nA needs.length nc, vb, vf], 28⟩] ++ o7' ++ (o2 ++ o3))).cast (by simp only [List.append_assoc, List.cons_append, List.nil_append])) (nx (k + 1, xs ++ [⟨nmF k, A, lst, c⟩], A8, c8, o7', (o2 ++ o3)) (4 - (k + 1)) [] Om ⟨by omega, rfl, (hO7.more (o2' := (o2 ++ o3)) (fun b hb => by simp [hb])).add (x := ⟨nmF k, A, lst, c⟩) hS ⟨q0, hs0, fun b hb => by have := hb0 b hb; simp only [List.mem_append] at this ⊢; grind⟩, hG.add (hk2 k h3) rfl (hg0.more Om)⟩ Kr Kr)))
  ·obtain ⟨q0, hs0, hb0⟩ := hf0.ex
   refine pQ 7 [] (x_i 111 [0] ((k + 1 : Nat) : Int) (xh_ixa 50112 [] 4 4 (k + 1) 1 Om (xh_ldk 50113 [] 5 1 _ _ 9 _ (nmF_rd (k + 1) Om) (yH [] 6 (kS (R := PutR (.slice A lst.length c) lst (nmF (k + 1))) (fun w hO => qV (ob := q0) (nmF (k + 1)) w hs0 hf0.bare (hO.past 3 (o7 ++ o2 ++ o3)) (fun b hb => by have := hb0 b hb; simp only [List.mem_append] at this ⊢; grind) (by have := hg0.len; omega)) ?_)))))
   rintro _ oba hpa
   obtain ⟨Aa, ca, rfl, hfa⟩ := hf0.put hpa
   have hga := hg0.put (.inr (.inr ⟨k + 1, by omega, hk2 (k + 1) h5, rfl⟩))
   refine wJ [0, 0] 1 63 #[.string (mkS (nmF k)), .slice Aa (yT lst (nmF (k + 1))).length ca] (fun b12 => pG [] [⟨b12, #[.string (mkS (nmF k)), .slice Aa (yT lst (nmF (k + 1))).length ca], 63⟩, ⟨b11, #[.string (mkS (nmF k)), .slice Aa (yT lst (nmF (k + 1))).length ca], 63⟩, ⟨b8, #[.string (mkS dfl), .string (mkS [120]), .string (mkS [121]), .string (mkS [122])], 95⟩, ⟨b0, #[.string (mkS nm), YI a1, YI a2, YI a3, .string (mkS pre), .string (mkS bld), .slice nA needs.length nc, vb, vf], 28⟩] o7 (o2 ++ o3 ++ oba) 0 (⟨b12, #[.string (mkS (nmF k)), .slice Aa (yT lst (nmF (k + 1))).length ca], 63⟩ :: (([⟨b11, #[.string (mkS (nmF k)), .slice Aa (yT lst (nmF (k + 1))).length ca], 63⟩, ⟨b8, #[.string (mkS dfl), .string (mkS [120]), .string (mkS [121]), .string (mkS [122])], 95⟩, ⟨b0, #[.string (mkS nm), YI a1, YI a2, YI a3, .string (mkS pre), .string (mkS bld), .slice nA needs.length nc, vb, vf], 28⟩] ++ (o7 ++ o2 ++ o3)) ++ oba)) (fun w hO => hO.cast (by simp only [List.append_assoc, List.cons_append, List.nil_append])) hO7.top (m := 1) (cp := 1) Om fun v' o7' hS => ?_)
   obtain ⟨A8, c8, rfl⟩ := Sl.form hS
   obtain ⟨qa, hsa, hba⟩ := hfa.ex
   exact jO 7 [] (.slice A8 (xs.length + 1) c8) (.slice A8 (xs ++ [(⟨nmF k, Aa, (yT lst (nmF (k + 1))), ca⟩ : Fv)]).length c8) (by simp) (x_i 18 [] ((k + 1 : Nat) : Int) (yG [] ([⟨b8, #[.string (mkS dfl), .string (mkS [120]), .string (mkS [121]), .string (mkS [122])], 95⟩, ⟨b0, #[.string (mkS nm), YI a1, YI a2, YI a3, .string (mkS pre), .string (mkS bld), .slice nA needs.length nc, vb, vf], 28⟩] ++ (o7' ++ (o2 ++ o3 ++ oba))) (fun w hO => (hO.past 2 ([⟨b8, #[.string (mkS dfl), .string (mkS [120]), .string (mkS [121]), .string (mkS [122])], 95⟩, ⟨b0, #[.string (mkS nm), YI a1, YI a2, YI a3, .string (mkS pre), .string (mkS bld), .slice nA needs.length nc, vb, vf], 28⟩] ++ o7' ++ (o2 ++ o3 ++ oba))).cast (by simp only [List.append_assoc, List.cons_append, List.nil_append])) (nx (k + 1, xs ++ [⟨nmF k, Aa, (yT lst (nmF (k + 1))), ca⟩], A8, c8, o7', (o2 ++ o3 ++ oba)) (4 - (k + 1)) [] Om ⟨by omega, rfl, (hO7.more (o2' := (o2 ++ o3 ++ oba)) (fun b hb => by simp [hb])).add (x := ⟨nmF k, Aa, (yT lst (nmF (k + 1))), ca⟩) hS ⟨qa, hsa, fun b hb => by have := hba b hb; simp only [List.mem_append] at this ⊢; grind⟩, hG.add (hk2 k h3) rfl (hga.more Om)⟩ Kr Kr)))
  ·refine wJ [0] 1 63 #[.string (mkS (nmF k)), .slice A lst.length c] (fun b12 => pG [] [⟨b12, #[.string (mkS (nmF k)), .slice A lst.length c], 63⟩, ⟨b11, #[.string (mkS (nmF k)), .slice A lst.length c], 63⟩, ⟨b8, #[.string (mkS dfl), .string (mkS [120]), .string (mkS [121]), .string (mkS [122])], 95⟩, ⟨b0, #[.string (mkS nm), YI a1, YI a2, YI a3, .string (mkS pre), .string (mkS bld), .slice nA needs.length nc, vb, vf], 28⟩] o7 (o2 ++ o3) 0 (⟨b12, #[.string (mkS (nmF k)), .slice A lst.length c], 63⟩ :: ([⟨b11, #[.string (mkS (nmF k)), .slice A lst.length c], 63⟩, ⟨b8, #[.string (mkS dfl), .string (mkS [120]), .string (mkS [121]), .string (mkS [122])], 95⟩, ⟨b0, #[.string (mkS nm), YI a1, YI a2, YI a3, .string (mkS pre), .string (mkS bld), .slice nA needs.length nc, vb, vf], 28⟩] ++ (o7 ++ o2 ++ o3))) (fun w hO => hO.cast (by simp only [List.append_assoc, List.cons_append, List.nil_append])) hO7.top (m := 1) (cp := 1) Om fun v' o7' hS => ?_)
   obtain ⟨A8, c8, rfl⟩ := Sl.form hS
   obtain ⟨q0, hs0, hb0⟩ := hf0.ex
   exact jO 7 [] (.slice A8 (xs.length + 1) c8) (.slice A8 (xs ++ [(⟨nmF k, A, lst, c⟩ : Fv)]).length c8) (by simp) (x_i 18 [] ((k + 1 : Nat) : Int) (yG [] ([⟨b8, #[.string (mkS dfl), .string (mkS [120]), .string (mkS [121]), .string (mkS [122])], 95⟩, ⟨b0, #[.string (mkS nm), YI a1, YI a2, YI a3, .string (mkS pre), .string (mkS bld), .slice nA needs.length nc, vb, vf], 28⟩] ++ (o7' ++ (o2 ++ o3))) (fun w hO => (hO.past 2 ([⟨b8, #[.string (mkS dfl), .string (mkS [120]), .string (mkS [121]), .string (mkS [122])], 95⟩, ⟨b0, #[.string (mkS nm), YI a1, YI a2, YI a3, .string (mkS pre), .string (mkS bld), .slice nA needs.length nc, vb, vf], 28⟩] ++ o7' ++ (o2 ++ o3))).cast (by simp only [List.append_assoc, List.cons_append, List.nil_append])) (nx (k + 1, xs ++ [⟨nmF k, A, lst, c⟩], A8, c8, o7', (o2 ++ o3)) (4 - (k + 1)) [] Om ⟨by omega, rfl, (hO7.more (o2' := (o2 ++ o3)) (fun b hb => by simp [hb])).add (x := ⟨nmF k, A, lst, c⟩) hS ⟨q0, hs0, fun b hb => by have := hb0 b hb; simp only [List.mem_append] at this ⊢; grind⟩, hG.add (hk2 k h3) rfl (hg0.more Om)⟩ Kr Kr)))
  ·refine wJ [0] 1 63 #[.string (mkS (nmF k)), .slice A lst.length c] (fun b12 => pG [] [⟨b12, #[.string (mkS (nmF k)), .slice A lst.length c], 63⟩, ⟨b11, #[.string (mkS (nmF k)), .slice A lst.length c], 63⟩, ⟨b8, #[.string (mkS dfl), .string (mkS [120]), .string (mkS [121]), .string (mkS [122])], 95⟩, ⟨b0, #[.string (mkS nm), YI a1, YI a2, YI a3, .string (mkS pre), .string (mkS bld), .slice nA needs.length nc, vb, vf], 28⟩] o7 (o2 ++ o3) 0 (⟨b12, #[.string (mkS (nmF k)), .slice A lst.length c], 63⟩ :: ([⟨b11, #[.string (mkS (nmF k)), .slice A lst.length c], 63⟩, ⟨b8, #[.string (mkS dfl), .string (mkS [120]), .string (mkS [121]), .string (mkS [122])], 95⟩, ⟨b0, #[.string (mkS nm), YI a1, YI a2, YI a3, .string (mkS pre), .string (mkS bld), .slice nA needs.length nc, vb, vf], 28⟩] ++ (o7 ++ o2 ++ o3))) (fun w hO => hO.cast (by simp only [List.append_assoc, List.cons_append, List.nil_append])) hO7.top (m := 1) (cp := 1) Om fun v' o7' hS => ?_)
   obtain ⟨A8, c8, rfl⟩ := Sl.form hS
   obtain ⟨q0, hs0, hb0⟩ := hf0.ex
   exact jO 7 [] (.slice A8 (xs.length + 1) c8) (.slice A8 (xs ++ [(⟨nmF k, A, lst, c⟩ : Fv)]).length c8) (by simp) (x_i 18 [] ((k + 1 : Nat) : Int) (yG [] ([⟨b8, #[.string (mkS dfl), .string (mkS [120]), .string (mkS [121]), .string (mkS [122])], 95⟩, ⟨b0, #[.string (mkS nm), YI a1, YI a2, YI a3, .string (mkS pre), .string (mkS bld), .slice nA needs.length nc, vb, vf], 28⟩] ++ (o7' ++ (o2 ++ o3))) (fun w hO => (hO.past 2 ([⟨b8, #[.string (mkS dfl), .string (mkS [120]), .string (mkS [121]), .string (mkS [122])], 95⟩, ⟨b0, #[.string (mkS nm), YI a1, YI a2, YI a3, .string (mkS pre), .string (mkS bld), .slice nA needs.length nc, vb, vf], 28⟩] ++ o7' ++ (o2 ++ o3))).cast (by simp only [List.append_assoc, List.cons_append, List.nil_append])) (nx (k + 1, xs ++ [⟨nmF k, A, lst, c⟩], A8, c8, o7', (o2 ++ o3)) (4 - (k + 1)) [] Om ⟨by omega, rfl, (hO7.more (o2' := (o2 ++ o3)) (fun b hb => by simp [hb])).add (x := ⟨nmF k, A, lst, c⟩) hS ⟨q0, hs0, fun b hb => by have := hb0 b hb; simp only [List.mem_append] at this ⊢; grind⟩, hG.add (hk2 k h3) rfl (hg0.more Om)⟩ Kr Kr)))
end
section
structure Bv where
 name : List UInt8
 rng : List UInt8
 wh : List UInt8
def bvC (x : Bv) : List Value := [.string (mkS x.name), .string (mkS x.rng), .string (mkS x.wh)]
structure BarG (own : Nat) (x : Bv) : Prop where
 name : ∃ k, k < 4 ∧ x.name = yP ((own + 1 + k) % 5)
 rng : FewT x.rng
 wh : WhenT x.wh
structure NsO (A : Option Addr) (c : Nat) (xs : List Nv) (o1 o2 : List Blk) : Prop where
 top : Sl 57 3 (.slice A xs.length c) xs.length (xs.flatMap nvC) o1
 each : ∀ x ∈ xs, ∃ o, WsO x.A x.cap x.any o ∧ ∀ b ∈ o, b ∈ o2
theorem NsO.nil : NsO none 0 [] [] [] := ⟨Sl.nil _ _, fun x h => by simp at h⟩
theorem NsO.add {A A' : Option Addr} {c c' : Nat} {xs : List Nv} {o1 o1' o2 ob : List Blk} {x : Nv} (h : NsO A c xs o1 o2) (ht : Sl 57 3 (.slice A' (xs.length + 1) c') (xs.length + 1) (xs.flatMap nvC ++ nvC x) o1') (hx : WsO x.A x.cap x.any ob) : NsO A' c' (xs ++ [x]) o1' (o2 ++ ob) :=
 ⟨by rw [List.length_append, List.length_singleton, List.flatMap_append, List.flatMap_singleton]; exact ht, fun y hy => by
  rcases List.mem_append.1 hy with hy | hy
  ·obtain ⟨o, h1, h2⟩ := h.each y hy
   exact ⟨o, h1, fun b hb => List.mem_append_left _ (h2 b hb)⟩
  ·rw [List.mem_singleton.1 hy]; exact ⟨ob, hx, fun b hb => List.mem_append_right _ hb⟩⟩
structure Rv where
 name : List UInt8
 maj : Int
 min : Int
 pat : Int
 pre : List UInt8
 bld : List UInt8
 nA : Option Addr
 nc : Nat
 needs : List Nv
 bA : Option Addr
 bc : Nat
 bars : List Bv
 fA : Option Addr
 fc : Nat
 fts : List Fv
def rvC (x : Rv) : List Value := [.string (mkS x.name), YI x.maj, YI x.min, YI x.pat, .string (mkS x.pre), .string (mkS x.bld), .slice x.nA x.needs.length x.nc, .slice x.bA x.bars.length x.bc, .slice x.fA x.fts.length x.fc]
def rvV (x : Rv) : Value := .agg #[.string (mkS x.name), YI x.maj, YI x.min, YI x.pat, .string (mkS x.pre), .string (mkS x.bld), .slice x.nA x.needs.length x.nc, .slice x.bA x.bars.length x.bc, .slice x.fA x.fts.length x.fc]
def PbG (pre bld : List UInt8) : Prop := (pre = [] ∧ bld = []) ∨ (pre = [114, 99, 46, 49] ∧ bld = []) ∨ (pre = [] ∧ bld = [55])
structure RecG (own : Nat) (keep : Nat → Bool) (x : Rv) : Prop where
 name : x.name = yP (own % 5)
 ver : ∃ a b : Nat, a < 3 ∧ b < 2 ∧ x.maj = a ∧ x.min = b ∧ x.pat = 0
 pb : PbG x.pre x.bld
 nlen : x.needs.length ≤ 2
 needs : ∀ m ∈ x.needs, NeedG own m
 blen : x.bars.length ≤ 1
 bars : ∀ b ∈ x.bars, BarG own b
 fts : FeatsG x.needs keep 4 x.fts
structure RecO (x : Rv) (ob : List Blk) : Prop where
 ex : ∃ o1 o2 o4 o7 o8, ob = o4 ++ (o1 ++ o2) ++ (o7 ++ o8) ∧ NsO x.nA x.nc x.needs o1 o2 ∧ Sl 54 3 (.slice x.bA x.bars.length x.bc) x.bars.length (x.bars.flatMap bvC) o4 ∧ FtO x.fA x.fc x.fts o7 o8
theorem nameT_len (k : Nat) : (yP k).length ≤ 3 := by unfold yP; split <;> (try split) <;> (try split) <;> (try split) <;> simp
theorem NsO.reads {A : Option Addr} {c : Nat} {xs : List Nv} {o1 o2 L : List Blk} {M : List Nat} {W w : World} (h : NsO A c xs o1 o2) (hO : Own M W w L) (h1 : ∀ b ∈ o1, b ∈ L) (h2 : ∀ b ∈ o2, b ∈ L) : Reads nvC w w.heap.size A xs ∧ ∀ m ∈ xs, Reads wvC w w.heap.size m.A m.any :=
 ⟨Sl.reads h.top rfl hO h1, fun m hm => by
  obtain ⟨o, ⟨⟨p1, p2, rfl, hp, _⟩⟩, ho⟩ := h.each m hm
  exact Sl.reads hp rfl hO fun b hb => h2 b (ho b (List.mem_append_left _ hb))⟩
theorem need_short {own : Nat} {x : Nv} (h : NeedG own x) : x.opt.length ≤ 1000 ∧ ∀ w ∈ x.any, w.name.length ≤ 1000 := by
 refine ⟨?_, fun w hw => ?_⟩
 ·rcases h.opt with e | ⟨j, _, e⟩
  ·rw [e]; simp
  ·rw [e]; have := wordT_four j; omega
 ·have key : ∀ (a : Bool) (u : Wv), WishG own a u → u.name.length ≤ 1000 := fun a u hu => by
   obtain ⟨k, _, e⟩ := hu.name
   rw [e]; have := nameT_len ((own + 1 + k) % 5); omega
  rcases h.any with ⟨u, e, hu⟩ | ⟨u, z, e, hu, hz⟩
  ·rw [e] at hw; rw [List.mem_singleton.1 hw]; exact key _ _ hu
  ·rw [e] at hw
   rcases List.mem_cons.1 hw with rfl | hw
   ·exact key _ _ hu
   ·rw [List.mem_singleton.1 hw]; exact key _ _ hz
def NeedR (own : Nat) (v : Value) (ob : List Blk) : Prop := ∃ x, v = nvV x ∧ NeedG own x ∧ WsO x.A x.cap x.any ob
theorem record_gen (v : Value) (l : List Int) (i own : Nat) (W : World) (hv : ReadsI W W.heap.size v l) (hl : l.length ≤ 9223372036854775807) (hi : i ≤ 1000) (ho : own ≤ 1000) : YC 23 #[v, YI (i : Int), YI (own : Int)] W fun e w' => ∃ x ob, e = .returned (rvV x) ∧ (RecG own (fun j => decide (plc (atL l (i + 52 + j)) 3 ≠ 0)) x ∧ RecO x ob) ∧ Own [] W w' ob := by
 obtain ⟨a, ha, ha3⟩ := xR (atL l i) 3 (by decide)
 obtain ⟨b, hb, hb2⟩ := xR (atL l (i + 1)) 2 (by decide)
 obtain ⟨p, hp, hp9⟩ := xR (atL l (i + 2)) 9 (by decide)
 obtain ⟨n4, hn, hn4⟩ := xR (atL l (i + 3)) 4 (by decide)
 obtain ⟨m5, hm, hm5⟩ := xR (atL l (i + 45)) 5 (by decide)
 obtain ⟨q4, hq, hq4⟩ := xR (atL l (i + 46)) 4 (by decide)
 have f1 := gN hv hl i 3 Om (by decide) (by decide) ha
 have f2 := gN hv hl (i + 1) 2 Om (by decide) (by decide) hb
 have f3 := gN hv hl (i + 2) 9 Om (by decide) (by decide) hp
 have f4 := gN hv hl (i + 3) 4 Om (by decide) (by decide) hn
 have f5 := gN hv hl (i + 45) 5 Om (by decide) (by decide) hm
 have f6 := gN hv hl (i + 46) 4 Om (by decide) (by decide) hq
 refine zQ Tryz.func23 (zV [] fun b1 => zE [] (fun w hO => name_at own w) (zE [] (fun w hO => f1 w hO.below) (x_i 16 [] ((i + 1 : Nat) : Int) (zE [] (fun w hO => f2 w hO.below) (zV [] fun b2 => x_i 22 [0] ((i + 2 : Nat) : Int) (zE [] (fun w hO => f3 w hO.below) ?_))))))
 refine m7 (α := List UInt8) 24 (fun _ => [(0, v), (1, YI (i : Int)), (2, YI (own : Int)), (6, Zp b1 0), (7, Zp b2 0)]) (fun pre => [⟨b2, #[.string (mkS (yP (own % 5))), YI a, YI b, YI 0, .string (mkS pre), .string (mkS []), .slice none 0 0, .slice none 0 0, .slice none 0 0], 28⟩, ⟨b1, ZE, 28⟩]) (fun pre => (pre = [] ∧ ¬ (p : Int) = 1) ∨ (pre = [114, 99, 46, 49] ∧ (p : Int) = 1)) [] (fun nj => x_now 24 ((p : Int) = 1) (fun h => nj [114, 99, 46, 49] [0] (.inr ⟨rfl, h⟩) Kr) (fun h => nj [] [] (.inl ⟨rfl, h⟩) Kr)) ?_
 rintro pre g hpre
 refine x_i 29 [] ((i + 2 : Nat) : Int) (zE [] (fun w hO => f3 w hO.below) ?_)
 refine m7 (α := List UInt8) 31 (fun _ => [(0, v), (1, YI (i : Int)), (2, YI (own : Int)), (6, Zp b1 0), (7, Zp b2 0)]) (fun bld => [⟨b2, #[.string (mkS (yP (own % 5))), YI a, YI b, YI 0, .string (mkS pre), .string (mkS bld), .slice none 0 0, .slice none 0 0, .slice none 0 0], 28⟩, ⟨b1, ZE, 28⟩]) (fun bld => PbG pre bld) [] (fun nj => x_now 31 ((p : Int) = 2) (fun h => nj [55] [0] (hpre.elim (fun q => .inr (.inr ⟨q.1, rfl⟩)) (fun q => absurd q.2 Om)) Kr) (fun h => nj [] [] (hpre.elim (fun q => .inl ⟨q.1, rfl⟩) (fun q => .inr (.inl ⟨q.1, rfl⟩))) Kr)) ?_
 rintro bld g2 hpb
 refine x_i 36 [] ((i + 3 : Nat) : Int) (zE [] (fun w hO => f4 w hO.below) (pF 38 [] (YI ((n4 % 3 : Nat) : Int)) Kr ?_))
 refine yG [] ([⟨b2, #[.string (mkS (yP (own % 5))), YI a, YI b, YI 0, .string (mkS pre), .string (mkS bld), .slice none 0 0, .slice none 0 0, .slice none 0 0], 28⟩, ⟨b1, ZE, 28⟩] ++ ([] ++ [])) (fun w hO => hO.past 0 _) ?_
 refine x_loopE (α := Nat × List Nv × Option Addr × Nat × List Blk × List Blk) (β := List Nv × Option Addr × Nat × List Blk × List Blk) (fun (k, _, _, _, _, _) => [(0, v), (1, YI (i : Int)), (2, YI (own : Int)), (6, Zp b1 0), (7, Zp b2 0), (8, YI (k : Int))]) (fun (_, ns, A, c, o1, o2) => [⟨b2, #[.string (mkS (yP (own % 5))), YI a, YI b, YI 0, .string (mkS pre), .string (mkS bld), .slice A ns.length c, .slice none 0 0, .slice none 0 0], 28⟩, ⟨b1, ZE, 28⟩] ++ (o1 ++ o2)) (fun (k, ns, A, c, o1, o2) m => m = k ∧ ns.length + k ≤ 2 ∧ NsO A c ns o1 o2 ∧ ∀ x ∈ ns, NeedG own x) (n4 % 3, [], none, 0, [], []) (n4 % 3)
  (fun _ => [(0, v), (1, YI (i : Int)), (2, YI (own : Int)), (6, .pointer (some ⟨b1, 0, none⟩)), (7, .pointer (some ⟨b2, 0, none⟩))]) (fun (ns, A, c, o1, o2) => [⟨b2, #[.string (mkS (yP (own % 5))), YI a, YI b, YI 0, .string (mkS pre), .string (mkS bld), .slice A ns.length c, .slice none 0 0, .slice none 0 0], 28⟩, ⟨b1, ZE, 28⟩] ++ (o1 ++ o2)) (fun (ns, A, c, o1, o2) => ns.length ≤ 2 ∧ NsO A c ns o1 o2 ∧ ∀ x ∈ ns, NeedG own x) [] ⟨rfl, by simp; omega, NsO.nil, fun x h => by simp at h⟩ ?_ ?_
 ·rintro ⟨k, ns, A, c, o1, o2⟩ mk g3 ⟨rfl, hlen, hO1, hG⟩ nx nex
  refine y8 40 [] ((0 : Int) < mk) (fun h40 => ?_) (fun h40 => nex (ns, A, c, o1, o2) [] ⟨by omega, hO1, hG⟩ Kr)
  obtain ⟨k, rfl⟩ : ∃ k, mk = k + 1 := ⟨mk - 1, by omega⟩
  refine xB 13 [] [⟨b2, #[.string (mkS (yP (own % 5))), YI a, YI b, YI 0, .string (mkS pre), .string (mkS bld), .slice A ns.length c, .slice none 0 0, .slice none 0 0], 28⟩] (fun w hO => hO.nth 0 _) (x_i 47 [0] ((i + 4 : Nat) : Int) (x_i 49 [] ((20 * (k + 1) : Nat) : Int) (x_i 50 [] ((i + 4 + 20 * (k + 1) : Nat) : Int) (jO 51 [] (YI (IntKind.i64.wrap (((i + 4 + 20 * (k + 1) : Nat) : Int) - 20))) (YI ((i + 4 + 20 * k : Nat) : Int)) (by rw [IntWalk.i64_in _ Om]; congr 1; omega) (yH [] 10 (kS (R := NeedR own) (fun w hO => (need_gen v l (i + 4 + 20 * k) own w ((hv.below hO.below).more hO.size) hl Om Om).mono fun e w' ⟨x, ob, h1, h2, h3⟩ => ⟨_, ob, h1, ⟨x, rfl, h2⟩, h3⟩) ?_))))))
  rintro _ ob ⟨x, rfl, hx, hxo⟩
  refine yH [] 11 (gY 1 57 (nvV x).cells fun b3 => yH [] 12 (qM [⟨b3, (nvV x).cells, 57⟩, ⟨b2, #[.string (mkS (yP (own % 5))), YI a, YI b, YI 0, .string (mkS pre), .string (mkS bld), .slice A ns.length c, .slice none 0 0, .slice none 0 0], 28⟩, ⟨b1, ZE, 28⟩] o1 (o2 ++ ob) 0 (⟨b3, (nvV x).cells, 57⟩ :: (([⟨b2, #[.string (mkS (yP (own % 5))), YI a, YI b, YI 0, .string (mkS pre), .string (mkS bld), .slice A ns.length c, .slice none 0 0, .slice none 0 0], 28⟩, ⟨b1, ZE, 28⟩] ++ (o1 ++ o2)) ++ ob)) [⟨b2, #[.string (mkS (yP (own % 5))), YI a, YI b, YI 0, .string (mkS pre), .string (mkS bld), .slice A ns.length c, .slice none 0 0, .slice none 0 0], 28⟩] (fun w hO => hO.cast (by simp only [List.append_assoc, List.cons_append, List.nil_append])) (fun o w hO => hO.nth 1 _) hO1.top (m := 1) (cp := 1) Om fun v' o1' hS => ?_))
  obtain ⟨A', c', rfl⟩ := Sl.form hS
  refine jO 42 [1] (YI (IntKind.i64.wrap (((k + 1 : Nat) : Int) - 1))) (YI (k : Int)) (by rw [IntWalk.i64_in _ Om]; congr 1; omega) (yG [] ([⟨b2, #[.string (mkS (yP (own % 5))), YI a, YI b, YI 0, .string (mkS pre), .string (mkS bld), .slice A' (ns ++ [x]).length c', .slice none 0 0, .slice none 0 0], 28⟩, ⟨b1, ZE, 28⟩] ++ (o1' ++ (o2 ++ ob))) (fun w hO => (hO.past 1 ([⟨b2, #[.string (mkS (yP (own % 5))), YI a, YI b, YI 0, .string (mkS pre), .string (mkS bld), .slice A' (ns.length + 1) c', .slice none 0 0, .slice none 0 0], 28⟩, ⟨b1, ZE, 28⟩] ++ o1' ++ (o2 ++ ob))).cast (by simp only [List.append_assoc, List.cons_append, List.nil_append, List.length_append, List.length_cons, List.length_nil])) ?_)
  exact nx (k, ns ++ [x], A', c', o1', o2 ++ ob) k [] Om ⟨rfl, by simp; omega, hO1.add hS hxo, fun y hy => by
   rcases List.mem_append.1 hy with hy | hy
   ·exact hG y hy
   ·rw [List.mem_singleton.1 hy]; exact hx⟩ Kr Kr
 ·rintro ⟨ns, A, c, o1, o2⟩ g3 ⟨hlen, hO1, hG⟩
  refine x_i 59 [] ((i + 45 : Nat) : Int) (zE [] (fun w hO => f5 w hO.below) ?_)
  refine m7 (α := List Bv × Option Addr × Nat × List Blk) 61 (fun _ => [(0, v), (1, YI (i : Int)), (2, YI (own : Int)), (6, Zp b1 0), (7, Zp b2 0)]) (fun (bs, bA, bc, o4) => [⟨b2, #[.string (mkS (yP (own % 5))), YI a, YI b, YI 0, .string (mkS pre), .string (mkS bld), .slice A ns.length c, .slice bA bs.length bc, .slice none 0 0], 28⟩, ⟨b1, ZE, 28⟩] ++ (o4 ++ (o1 ++ o2))) (fun (bs, bA, bc, o4) => bs.length ≤ 1 ∧ (∀ y ∈ bs, BarG own y) ∧ Sl 54 3 (.slice bA bs.length bc) bs.length (bs.flatMap bvC) o4) [] (fun nj => x_now 61 ((m5 : Int) = 1) (fun h61 => ?_) (fun h61 => nj ([], none, 0, []) [] ⟨by simp, fun y h => by simp at h, Sl.nil _ _⟩ Kr)) ?_
  ·refine xB 21 [] [⟨b2, #[.string (mkS (yP (own % 5))), YI a, YI b, YI 0, .string (mkS pre), .string (mkS bld), .slice A ns.length c, .slice none 0 0, .slice none 0 0], 28⟩] (fun w hO => hO.nth 0 _) (x_i 65 [0] ((own + 1 : Nat) : Int) (x_i 68 [] ((i + 46 : Nat) : Int) (x_i 74 [] ((i + 47 : Nat) : Int) (x_i 78 [] ((i + 50 : Nat) : Int) (yH [] 7 (zE [] (fun w hO => f6 w hO.below) (x_i 70 [] ((own + 1 + q4 : Nat) : Int) (yH [] 9 (zE [] (fun w hO => name_at (own + 1 + q4) w) (yH [] 13 (m8 (R := fun v => ∃ t, FewT t ∧ v = .string (mkS t)) [] (fun w hO => (few_gen v l (i + 47) w ((hv.below hO.below).more hO.size) hl Om).mono fun e w' ⟨t, h1, h2, h3⟩ => ⟨_, h2, ⟨t, h1, rfl⟩, h3⟩) ?_)))))))))))
   rintro _ ⟨t, ht, rfl⟩
   refine yH [] 17 (m8 (R := fun v => ∃ t, WhenT t ∧ v = .string (mkS t)) [] (fun w hO => (when_gen v l (i + 50) w ((hv.below hO.below).more hO.size) hl Om).mono fun e w' ⟨t, h1, h2, h3⟩ => ⟨_, h2, ⟨t, h1, rfl⟩, h3⟩) ?_)
   rintro _ ⟨u, hu, rfl⟩
   refine yH [] 19 (gY 1 54 #[.string (mkS (yP ((own + 1 + q4) % 5))), .string (mkS t), .string (mkS u)] fun b3 => yH [] 20 (qM [⟨b3, #[.string (mkS (yP ((own + 1 + q4) % 5))), .string (mkS t), .string (mkS u)], 54⟩, ⟨b2, #[.string (mkS (yP (own % 5))), YI a, YI b, YI 0, .string (mkS pre), .string (mkS bld), .slice A ns.length c, .slice none 0 0, .slice none 0 0], 28⟩, ⟨b1, ZE, 28⟩] [] (o1 ++ o2) 0 (⟨b3, #[.string (mkS (yP ((own + 1 + q4) % 5))), .string (mkS t), .string (mkS u)], 54⟩ :: ([⟨b2, #[.string (mkS (yP (own % 5))), YI a, YI b, YI 0, .string (mkS pre), .string (mkS bld), .slice A ns.length c, .slice none 0 0, .slice none 0 0], 28⟩, ⟨b1, ZE, 28⟩] ++ (o1 ++ o2))) [⟨b2, #[.string (mkS (yP (own % 5))), YI a, YI b, YI 0, .string (mkS pre), .string (mkS bld), .slice A ns.length c, .slice none 0 0, .slice none 0 0], 28⟩] (fun w hO => hO.cast (by simp only [List.append_assoc, List.cons_append, List.nil_append])) (fun o w hO => hO.nth 1 _) (Sl.nil 54 3) (m := 1) (cp := 1) Om fun v' o4 hS => ?_))
   obtain ⟨bA, bc, rfl⟩ := Sl.form hS
   exact yG [1] ([⟨b2, #[.string (mkS (yP (own % 5))), YI a, YI b, YI 0, .string (mkS pre), .string (mkS bld), .slice A ns.length c, .slice bA (0 + 1) bc, .slice none 0 0], 28⟩, ⟨b1, ZE, 28⟩] ++ (o4 ++ (o1 ++ o2))) (fun w hO => (hO.past 1 ([⟨b2, #[.string (mkS (yP (own % 5))), YI a, YI b, YI 0, .string (mkS pre), .string (mkS bld), .slice A ns.length c, .slice bA (0 + 1) bc, .slice none 0 0], 28⟩, ⟨b1, ZE, 28⟩] ++ o4 ++ (o1 ++ o2))).cast (by simp only [List.append_assoc, List.cons_append, List.nil_append])) (nj ([⟨yP ((own + 1 + q4) % 5), t, u⟩], bA, bc, o4) [] ⟨by simp, fun y hy => by rw [List.mem_singleton.1 hy]; exact ⟨⟨q4, hq4, rfl⟩, ht, hu⟩, hS⟩ Kr)
  rintro ⟨bs, bA, bc, o4⟩ g4 ⟨hbl, hbG, hbS⟩
  refine x_i 86 [] ((i + 52 : Nat) : Int) (qP (R := fun v ob => ∃ Af cf xs o7 o8, v = .slice Af xs.length cf ∧ ob = o7 ++ o8 ∧ FtO Af cf xs o7 o8 ∧ FeatsG ns (fun j => decide (plc (atL l (i + 52 + j)) 3 ≠ 0)) 4 xs) [0] (fun w hO => have hr := hO1.reads (hO.past 2 (o4 ++ (o1 ++ o2))) (fun b hb => by simp [hb]) (fun b hb => by simp [hb]); (features_gen v l (i + 52) (yP (own % 5)) pre bld a b 0 A c ns (.slice bA bs.length bc) (.slice none 0 0) w ((hv.below hO.below).more hO.size) hl Om hr.1 hr.2 Om (fun m hm => (need_short (hG m hm)).1) (fun m hm => (need_short (hG m hm)).2)).mono fun e w' ⟨Af, cf, xs, o7, o8, h1, h2, h3⟩ => ⟨_, _, h1, ⟨Af, cf, xs, o7, o8, rfl, rfl, h2⟩, h3⟩) ?_)
  rintro _ _ ⟨Af, cf, xs, o7, o8, rfl, rfl, hF, hFG⟩
  exact nO [0, 0, 1] 1 (rvV ⟨yP (own % 5), a, b, 0, pre, bld, A, c, ns, bA, bc, bs, Af, cf, xs⟩) fun w hO => ⟨_, _, rfl, ⟨⟨rfl, ⟨a, b, ha3, hb2, rfl, rfl, rfl⟩, hpb, hlen, hG, hbl, hbG, hFG⟩, ⟨o1, o2, o4, o7, o8, rfl, hO1, hbS, hF⟩⟩, hO.past 2 _⟩
end
section
def Wv.wt (x : Wv) : Wt := ⟨x.name, x.rng, x.fs, x.bare⟩
def Nv.nt (x : Nv) : Nt := ⟨x.any.map Wv.wt, x.wh, x.opt⟩
theorem bvC_len (x : Bv) : (bvC x).length = 3 := rfl
def bvV (x : Bv) : Value := .agg #[.string (mkS x.name), .string (mkS x.rng), .string (mkS x.wh)]
def Bv.bt (x : Bv) : Bt := ⟨x.name, x.rng, x.wh⟩
def Rv.ver (x : Rv) : Ver := ⟨x.maj, x.min, x.pat, x.pre, x.bld⟩
def Rv.rt (x : Rv) : Rt := ⟨x.name, x.ver, x.needs.map Nv.nt, x.bars.map Bv.bt, kA x.fts⟩
structure RcIn (w : World) (B : Nat) (x : Rv) : Prop where
 needs : Reads nvC w B x.nA x.needs
 any : ∀ n ∈ x.needs, Reads wvC w B n.A n.any
 wfs : ∀ n ∈ x.needs, ∀ u ∈ n.any, Reads y9 w B u.A u.fs
 bars : Reads bvC w B x.bA x.bars
 fts : FtIn w B x.fA x.fts
 nn : x.needs.length ≤ 5000
 na : ∀ n ∈ x.needs, n.any.length ≤ 5000
 nf : ∀ n ∈ x.needs, ∀ u ∈ n.any, u.fs.length ≤ 5000
 nb : x.bars.length ≤ 5000
 sn : x.name.length ≤ 1000000 ∧ x.pre.length ≤ 1000000 ∧ x.bld.length ≤ 1000000
 sw : ∀ n ∈ x.needs, n.wh.length ≤ 1000000 ∧ n.opt.length ≤ 1000000
 su : ∀ n ∈ x.needs, ∀ u ∈ n.any, u.name.length ≤ 1000000 ∧ u.rng.length ≤ 1000000 ∧ ∀ s ∈ u.fs, s.length ≤ 1000000
 sb : ∀ b ∈ x.bars, b.name.length ≤ 1000000 ∧ b.rng.length ≤ 1000000 ∧ b.wh.length ≤ 1000000
theorem RcIn.on {w w' : World} {B B' : Nat} {x : Rv} (h : RcIn w B x) (hb : Below B w w') (hB : B ≤ B') : RcIn w' B' x :=
 ⟨h.needs.on hb hB, fun n hn => (h.any n hn).on hb hB, fun n hn u hu => (h.wfs n hn u hu).on hb hB, h.bars.on hb hB, h.fts.on hb hB, h.nn, h.na, h.nf, h.nb, h.sn, h.sw, h.su, h.sb⟩
structure RcSm (w : World) (B : Nat) (x : Rv) : Prop where
 needs : Reads nvC w B x.nA x.needs
 any : ∀ n ∈ x.needs, Reads wvC w B n.A n.any
 wfs : ∀ n ∈ x.needs, ∀ u ∈ n.any, Reads y9 w B u.A u.fs
 bars : Reads bvC w B x.bA x.bars
 fts : FtIn w B x.fA x.fts
 nn : x.needs.length ≤ 5000
 na : ∀ n ∈ x.needs, n.any.length ≤ 5000
 nf : ∀ n ∈ x.needs, ∀ u ∈ n.any, u.fs.length ≤ 5000
 nb : x.bars.length ≤ 5000
end
section
set_option linter.unnecessarySimpa false
theorem reads_t {w : World} {A : Option Addr} {cap : Nat} {l : List (List UInt8)} {B : Nat} (h : Reads y9 w B A l) (hB : B ≤ B) : ReadsT w B (.slice A l.length cap) l :=
 ⟨A, cap, rfl, fun h0 => by
  obtain ⟨b, off, e, hlt, hc⟩ := h h0
  refine ⟨⟨b, off, none⟩, e, hlt, fun j hj => ?_⟩
  rw [x3]
  refine hc j _ ?_
  rw [← x1]
  unfold gI
  rw [List.getElem?_map, List.getElem?_eq_getElem hj]; rfl⟩
end
section
theorem d7 (b : UInt8) : ∀ (k : Nat) (s : List UInt8), Lib.splitK [b] 0 k s = wW b k s
 | 0, s => rfl
 | k + 1, s => by
  have hc := cutAt_cut b s
  have hge := Lib.index_ge s [b]
  unfold Lib.splitK wW
  rw [← hc]
  unfold Lib.cut
  by_cases h : Lib.index s [b] = -1
  ·have h2 : ¬ 0 ≤ Lib.index s [b] := by omega
   simp [h]
  ·have h2 : 0 ≤ Lib.index s [b] := by omega
   simp [h, h2, d7 b k]
theorem pcsB_more (b : UInt8) : ∀ (k : Nat) (s : List UInt8), s.length ≤ k → wW b k s = wW b (k + 1) s
 | 0, s, h => by
  obtain rfl := List.eq_nil_of_length_eq_zero (Nat.le_zero.1 h)
  rfl
 | k + 1, s, h => by
  have hl := wP b s
  rw [wW]
  conv => rhs; rw [wW]
  cases hq : (z8 b s).2.2 with
  | false => rw [if_neg Bool.false_ne_true, if_neg Bool.false_ne_true]
  | true =>
   rw [hq, if_pos rfl] at hl
   rw [if_pos rfl, if_pos rfl, pcsB_more b k _ Om]
theorem pcsB_min (b : UInt8) (s : List UInt8) : ∀ k : Nat, wW b (min k s.length) s = wW b k s
 | 0 => by rw [Nat.zero_min]
 | k + 1 => by
  by_cases h : s.length ≤ k
  ·rw [Nat.min_eq_right Om, ← pcsB_more b k s h, ← pcsB_min b s k, Nat.min_eq_right h]
  ·rw [Nat.min_eq_left Om]
theorem dC (b : UInt8) : ∀ (k : Nat) (s : List UInt8), 1 ≤ (wW b k s).length ∧ (wW b k s).length ≤ k + 1
 | 0, s => ⟨Nat.le_refl _, Nat.le_refl _⟩
 | k + 1, s => by
  have h := dC b k (z8 b s).2.1
  unfold wW
  split
  ·simp only [List.length_cons]; omega
  ·simp
theorem pV (b : UInt8) (s : List UInt8) : (zB b [] s).length ≤ s.length + 1 := by
 rw [← nQ b s, d7]
 have h := (dC b (min (Lib.count s [b]) s.length) s).2
 rw [pcsB_min] at h
 omega
theorem split32_any (s : List UInt8) (n : Int) (W : World) (hs : s.length ≤ 1000000) (hn : n = -1 ∨ 1 ≤ n ∧ n ≤ 1000) :
  YC 173 #[.string (mkS s), .string ⟨#[32]⟩, YI 0, YI n] W fun e w' => ∃ v' ob', e = .returned v' ∧ SlT v' (if n < 0 then zB 32 [] s else wW 32 (n.toNat - 1) s) ob' ∧ Own [] W w' ob' := by
 have hsz := yD s
 have hI : ∀ (x : ByteArray) (c : Array Value), x.size ≤ (mkS s).size → YC 210 #[.string x, .string ⟨#[32]⟩] (W.alloc (.cells c 9)) fun e w' => e = .returned (YI (Lib.indexB x ⟨#[32]⟩)) ∧ w' = W.alloc (.cells c 9) :=
  fun x c _ => (Tryz.strings_Index_one x 32 _).mono fun e w' ⟨he, hw⟩ => ⟨by rw [he, d2]; try rfl, hw⟩
 have hC : YC 209 #[.string (mkS s), .string ⟨#[32]⟩] W fun e w' => e = .returned (YI (Lib.countB (mkS s) ⟨#[32]⟩)) ∧ w' = W :=
  (Tryz.strings_Count_one (mkS s) 32 W).mono fun e w' ⟨he, hw⟩ => ⟨by rw [he]; show _ = Ending.returned (Value.int .i64 ((Lib.count (mkS s).data.toList [32] : Nat) : Int)); rw [Lib.count_one]; rfl, hw⟩
 obtain ⟨cn, hcn⟩ : ∃ cn, Lib.count s [32] = cn := ⟨_, rfl⟩
 have hcB : Lib.countB (mkS s) ⟨#[32]⟩ = cn := by unfold Lib.countB; rw [mk_data, show (⟨#[32]⟩ : ByteArray).data.toList = [32] from rfl, hcn]
 have hcl : cn ≤ s.length := by rw [← hcn, Lib.count_one]; exact List.count_le_length
 obtain ⟨N, hN⟩ : ∃ N : Nat, (N : Int) = min (if n < 0 then (Lib.countB (mkS s) ⟨#[32]⟩ : Int) + 1 else n) (((mkS s).size : Int) + 1) := by
  refine ⟨(min (if n < 0 then (Lib.countB (mkS s) ⟨#[32]⟩ : Int) + 1 else n) (((mkS s).size : Int) + 1)).toNat, Int.toNat_of_nonneg ?_⟩
  split <;> omega
 have c := Any.strings_genSplit_core Tryz.lays221 Kr (mkS s) ⟨#[32]⟩ 0 n N W Om (by decide) (Nat.zero_le _) hI hC Om Om hN
 rw [hcB, hsz] at hN
 have hB : Lib.splitB ⟨#[32]⟩ 0 (N - 1) (mkS s) = (if n < 0 then zB 32 [] s else wW 32 (n.toNat - 1) s).map mkS := by
  have h := pX [32] (N - 1) s
  rw [show (mkS [32] : ByteArray) = ⟨#[32]⟩ from rfl] at h
  rw [h, d7]
  congr 1
  split
  ·rename_i h0
   rw [if_pos h0] at hN
   rw [show N - 1 = cn by omega, ← d7, ← hcn, nQ]
  ·rename_i h0
   rw [if_neg h0] at hN
   rw [← pcsB_min 32 s (n.toNat - 1)]
   congr 1
   omega
 rw [hB] at c
 generalize hl : (if n < 0 then zB 32 [] s else wW 32 (n.toNat - 1) s) = l at c ⊢
 have hle : l.length ≤ N := by
  rw [← hl]
  split
  ·rename_i h0
   rw [if_pos h0] at hN
   rw [← nQ 32 s, d7, hcn]
   have := (dC 32 cn s).2
   omega
  ·rename_i h0
   rw [if_neg h0] at hN
   have h1 := (dC 32 (n.toNat - 1) s).2
   have h2 := (dC 32 (min (n.toNat - 1) s.length) s).2
   rw [pcsB_min] at h2
   omega
 have hNm : N ≤ 1000001 := by omega
 rw [List.length_map] at c
 refine Calls.mono c fun e w' ⟨he, hw⟩ => ?_
 subst hw
 refine ⟨_, _, he, ⟨by rw [vT]; omega, .inr ⟨W.heap.size, N, _, rfl, rfl, hle, by unfold maxLen; omega, by rw [Lib.cellsOf_size (by rw [List.length_map]; exact hle), Nat.mul_one], ?_⟩⟩, (Own.start [] W).alloc _ _⟩
 unfold Lib.cellsOf
 rw [List.map_map, List.take_append_of_le_length (by rw [List.length_map]; omega), List.take_of_length_le (by rw [List.length_map]; omega)]
 rfl
theorem splitN32_any (s : List UInt8) (n : Int) (W : World) (hs : s.length ≤ 1000000) (hn : n = -1 ∨ 1 ≤ n ∧ n ≤ 1000) : YC 141 #[.string (mkS s), .string ⟨#[32]⟩, YI n] W fun e w' => ∃ v' ob', e = .returned v' ∧ SlT v' (if n < 0 then zB 32 [] s else wW 32 (n.toNat - 1) s) ob' ∧ Own [] W w' ob' := by
 have hc : ∀ w, Below W.heap.size W w → YC 173 #[.string (mkS s), .string ⟨#[32]⟩, YI 0, YI n] w fun e w' => ∃ v ob, e = .returned v ∧ SlT v (if n < 0 then zB 32 [] s else wW 32 (n.toNat - 1) s) ob ∧ Own [] w w' ob := fun w _ => split32_any s n w hs hn
 generalize (if n < 0 then zB 32 [] s else wW 32 (n.toNat - 1) s) = l at hc ⊢
 refine zQ Tryz.func141 (qP (R := fun v ob => SlT v l ob) [] (fun w hO => hc w hO.below) fun v ob hR => ?_)
 exact zF [] v fun w hO => ⟨v, ob, rfl, hR, hO.past 0 _⟩
theorem qHole_any (A : Option Addr) (cap : Nat) (l : List (List UInt8)) (W : World) (hv : Reads y9 W W.heap.size A l) (hn : l.length ≤ 2000000) : YC 142 #[.slice A l.length cap, .string ⟨#[]⟩] W (YR (.bool (!noE l)) W) := by
 have key : ∀ w, Below W.heap.size W w → YC 174 #[.slice A l.length cap, .string ⟨#[]⟩] w fun e w' => ∃ v, e = .returned v ∧ (∃ z : Int, v = YI z ∧ decide (0 ≤ z) = !noE l) ∧ Below w.heap.size w w' := fun w0 hb0 => by
  have hv0 := hv.on hb0 hb0.size
  refine zQ Tryz.func174 (qO (α := Nat) (fun i => [(0, .slice A l.length cap), (1, .string (mkS [])), (7, YI (l.length : Int)), (8, YI (i : Int))]) (fun _ => []) (fun i m => (i ≤ l.length ∧ ∀ y ∈ l.take i, y ≠ []) ∧ m = l.length - i) 0 l.length [] ⟨⟨Nat.zero_le _, fun y h => by simp at h⟩, rfl⟩ ?_)
  rintro i mm g kk ⟨⟨hi, hno⟩, hmm⟩ nx hkk
  subst hkk
  refine y8 9 [] ((i : Int) < (l.length : Int)) (fun h9 => ?_) (fun h9 => ?_)
  rotate_left
  ·refine zF [] (YI (-1)) fun w hO => ⟨_, rfl, ⟨-1, rfl, ?_⟩, hO.below⟩
   have hall := jK (p := fun y : List UInt8 => y ≠ []) (show l.length ≤ i by omega) hno
   rw [show noE l = true from List.all_eq_true.2 fun y hy => by simpa using hall y hy]; rfl
  have hj : i < l.length := by omega
  obtain ⟨eb, eo, hA, hel⟩ := hv0.elem zZ i hj
  have hgo := gL (p := fun y : List UInt8 => y ≠ []) hj hno
  have hsm : l[i] ∈ l := List.getElem_mem hj
  have hel0 : ∀ w, Below w0.heap.size w0 w → (loadVar 9 ⟨eb, eo + i * 1 + 0, none⟩).run Tryz.prog w = .ok (.string (mkS l[i])) w := fun w hw => hel w hw _ 0 _ Kr
  generalize l[i] = y at hel0 hgo hsm
  refine kH 14 [] hA l.length cap i 1 hj (kB 15 [] 9 eb (eo + i * 1 + 0) (.string (mkS y)) (fun w hO => hel0 w hO.below) (qH 16 [] [] y (fun h16 => ?_) (fun h16 => ?_)))
  ·refine zF [] (YI (i : Int)) fun w hO => ⟨_, rfl, ⟨(i : Int), rfl, ?_⟩, hO.below⟩
   rw [show noE l = false from List.all_eq_false.2 ⟨y, hsm, by simp [← h16]⟩, decide_eq_true Om]; rfl
  ·exact x_i 18 [] ((i + 1 : Nat) : Int) (nx (i + 1) (l.length - (i + 1)) [] Om ⟨⟨hj, hgo (fun e => h16 e.symm)⟩, rfl⟩ Kr Kr)
 refine zQ Tryz.func142 (m8 (R := fun v => ∃ z : Int, v = YI z ∧ decide (0 ≤ z) = !noE l) [] (fun w hO => key w hO.below) ?_)
 rintro v ⟨z, rfl, hz⟩
 exact zF [] (.bool (decide (0 ≤ z))) fun w hO => ⟨by rw [hz], hO.below⟩
end
section
theorem grow_inner (B b n : Nat) (w : World) (hB : B ≤ b) (hbk : w.heap[b]? = some (.cells #[.pointer (some ⟨b, 0, none⟩), .slice none 0 0] 107 (0, 0))) (hBw : B ≤ w.heap.size) (hn : n ≤ 281474976710656) :
  YC 264 #[.pointer (some ⟨b, 0, none⟩), YI n] w fun e w' => e = .returned (.tuple #[]) ∧ (Lib.BuilderAt 107 5 B b (.pointer (some ⟨b, 0, none⟩)) [] w' ∧ Below B w w') := by
 obtain ⟨cs, hrun, hle, hmax⟩ := Lib.run_makeNoZero (P := Tryz.prog) w.drew #[3] 52 5 Tryz.underlying52 n hn
 have hlt : b < w.heap.size := by
  rcases Nat.lt_or_ge b w.heap.size with h | h
  ·exact h
  ·simp [Array.getElem?_eq_none h] at hbk
 have hw : IntKind.i64.wrap (IntKind.i64.wrap 0 + (n : Int)) = n := by
  rw [IntKind.wrap_i64, IntKind.wrap_i64]; omega
 have hcall : (callFunc 274 #[YI (IntKind.i64.wrap (IntKind.i64.wrap 0 + (n : Int)))]).run Tryz.prog w.drew = .ok (.value (.slice (some ⟨w.drew.heap.size, 0, none⟩) n cs.size)) (w.drew.drew.drew.alloc (.cells cs 5)) := by
  rw [hw, run_callFunc_extern Tryz.func274 Kr Kr Kr (e := Extern.BytealgMakeNoZero.makeNoZero #[3] #[52]) Kr, hrun]
  rfl
 have c1 : w.drew.cell? ⟨b, 1, none⟩ = some (.slice none 0 0) := by
  have : w.drew.heap[b]? = _ := hbk
  rw [Lib.cell_of_heap this]; rfl
 have hb2 : (w.alloc (.cells cs 5)).heap[b]? = _ := (Lib.alloc_old w _ b hlt).trans hbk
 have c2 : (w.alloc (.cells cs 5)).cell? ⟨b, 1, none⟩ = some (.slice none 0 0) := by rw [Lib.cell_of_heap hb2]; rfl
 have f2 : (w.alloc (.cells cs 5)).frozen? ⟨b, 1, none⟩ = false := Lib.frozen_of_heap hb2 1
 have hcopy : ∀ W : World, (Builtin.copy_ #[52, 52] 3 #[.slice (some ⟨w.heap.size, 0, none⟩) 0 cs.size, .slice none 0 0]).run Tryz.prog W = .ok (goInt 0) W :=
  fun W => run_copy_none W 52 52 3 5 _ _ 0 cs.size 0 0 Tryz.underlying52 Kr rfl
 clear hw hlt hb2
 have mixed : Tryz.prog.follows .mixedOrders = true := by kernel_rfl
 go_enter Tryz.func264, Tryz.ntmps264
 go_wp2
 have hfin := Lib.grown_fresh (T := 107) (e := 5) (cs := cs) hB hbk hBw (hmax (by unfold maxLen; omega)) (by decide)
 have hbel : Below B w ((w.alloc (.cells cs 5)).setCell ⟨b, 1, none⟩ (.slice (some ⟨w.heap.size, 0, none⟩) 0 cs.size)).drew.drew.drew := ((((Below.refl B w).alloc hBw _).setCell (p := ⟨b, 1, none⟩) hB _).drew).drew.drew
 go_region_o
 all_goals (go_wp2; go_end0; exact ⟨rfl, hfin.1, hbel⟩)
theorem grow_fresh (B b n : Nat) (w : World) (hB : B ≤ b) (hbk : w.heap[b]? = some (.cells #[.pointer none, .slice none 0 0] 107 (0, 0))) (hBw : B ≤ w.heap.size) (hn : n ≤ 281474976710656) :
  YC 249 #[.pointer (some ⟨b, 0, none⟩), YI n] w fun e w' => e = .returned (.tuple #[]) ∧ (Lib.BuilderAt 107 5 B b (.pointer (some ⟨b, 0, none⟩)) [] w' ∧ Below B w w') := by
 obtain ⟨w1, hw1⟩ : ∃ x, x = w.setCell ⟨b, 0, none⟩ (.pointer (some ⟨b, 0, none⟩)) := ⟨_, rfl⟩
 have hbk1 : w1.heap[b]? = some (.cells #[.pointer (some ⟨b, 0, none⟩), .slice none 0 0] 107 (0, 0)) := by
  rw [hw1]; simp [World.setCell, Array.getElem?_modify, hbk]
 have hs1 : B ≤ w1.heap.size := by rw [hw1]; simpa [World.setCell] using hBw
 have hb1 : Below B w w1 := by rw [hw1]; exact (Below.refl B w).setCell (p := ⟨b, 0, none⟩) hB _
 have hc : YC 161 #[.pointer (some ⟨b, 0, none⟩)] w fun e w' => e = .returned (.tuple #[]) ∧ w' = w1 := by
  rw [hw1]
  exact pM b w (by rw [Lib.cell_of_heap hbk]; rfl) (by simp [World.shape?, hbk]) (Lib.frozen_of_heap hbk 0)
 clear hw1
 have c1 : w1.cell? ⟨b, 1, none⟩ = some (.slice none 0 0) := by rw [Lib.cell_of_heap hbk1]; rfl
 have c1' : w1.drew.cell? ⟨b, 1, none⟩ = some (.slice none 0 0) := c1
 have hU : Lib.BuilderAt 107 5 B b (.pointer (some ⟨b, 0, none⟩)) [] w1 := ⟨hB, .slice none 0 0, hbk1, World.ownsRow_nil _ _ _ _, by simp [Value.ownBlock]⟩
 have mixed : Tryz.prog.follows .mixedOrders = true := by kernel_rfl
 go_enter Tryz.func249, Tryz.ntmps249
 go_wp2_with (go_at_call 161; refine hc.mono ?_; rintro e w' ⟨rfl, hw⟩; rw [hw])
 go_region_o
 all_goals go_wp2_with (go_at_call 264; refine (grow_inner B b n w1.drew hB hbk1 hs1 hn).mono ?_; rintro e w' ⟨rfl, h1, h2⟩)
 all_goals first
  | (go_end0; exact ⟨rfl, h1, hb1.drew.trans h2⟩)
  | (go_end0; exact ⟨rfl, hU.drew, hb1.drew⟩)
end
section
structure HasLib (w : World) : Prop where
 tab : HasTab w
 max : ∃ m, w.cell? ⟨1, 0, none⟩ = some (YI m)
theorem HasLib.on {w w' : World} (h : HasLib w) (hb : Below w.heap.size w w') : HasLib w' :=
 ⟨h.tab.on hb, let ⟨m, hm⟩ := h.max; ⟨m, (hb.cell (World.block_lt_of_cell? _ _ hm)).trans hm⟩⟩
theorem hasLib_of {W : World} (ht : HasTab W) (hS : W.ShapedOpen Tryz.prog) : HasLib W := ⟨ht, Tryz.laysM143.s1_3 W hS⟩
theorem split_own (s sep : List UInt8) (l : List (List UInt8)) (W : World) (h0 : 1 ≤ sep.length) (hs : s.length ≤ 1000000) (hl : Lib.splitB (mkS sep) 0 (Lib.countB (mkS s) (mkS sep)) (mkS s) = l.map mkS) (ht : HasLib W) :
  YC 177 #[.string (mkS s), .string (mkS sep)] W fun e w' => ∃ v' ob', e = .returned v' ∧ SlT v' l ob' ∧ Own [] W w' ob' := by
 obtain ⟨m, hm⟩ := ht.max
 have hz : (mkS sep).size = sep.length := yD sep
 have hlen := Lib.splitB_all (mkS sep) Om 0 _ (mkS s) rfl
 have hle := Lib.countB_le (mkS sep) Om (mkS s).size (mkS s) (Nat.le_refl _)
 rw [yD] at hle
 rw [hl, List.length_map] at hlen
 refine (Tryz.strings_Split (mkS s) (mkS sep) m W (by rw [yD]; omega) hm Om).mono fun e w' ⟨he, hw⟩ => ?_
 subst hw
 rw [hl, List.map_map] at *
 rw [← hlen] at he
 refine ⟨_, _, he, slt_lit l W.heap.size _ (by unfold gI; rfl) (by unfold maxLen; omega), (Own.start [] W).alloc _ _⟩
theorem split_bars (s : List UInt8) (W : World) (hs : s.length ≤ 1000000) (ht : HasLib W) :
  YC 177 #[.string (mkS s), .string ⟨#[124, 124]⟩] W fun e w' => ∃ v' ob', e = .returned v' ∧ SlT v' (kW [] s) ob' ∧ Own [] W w' ob' :=
 split_own s [124, 124] (kW [] s) W (by decide) hs (splitB_alts s) ht
theorem split_comma (s : List UInt8) (W : World) (hs : s.length ≤ 1000000) (ht : HasLib W) :
  YC 177 #[.string (mkS s), .string ⟨#[44]⟩] W fun e w' => ∃ v' ob', e = .returned v' ∧ SlT v' (zB 44 [] s) ob' ∧ Own [] W w' ob' :=
 split_own s [44] (zB 44 [] s) W (by decide) hs (splitB_cuts 44 s) ht
theorem trim_any (s : List UInt8) (W : World) (hs : s.length ≤ 1000000) :
  YC 182 #[.string (mkS s), .string ⟨#[32]⟩] W (YR (.string (mkS (x6 s))) W) :=
 (Tryz.strings_Trim_one (mkS s) 32 (by decide) W (by rw [yD]; omega)).mono fun e w' ⟨he, hw⟩ =>
  ⟨by rw [he, mk_data, trim_bare]; rfl, hw.elim (fun q => q ▸ Below.refl _ _) (fun q => q ▸ (Below.refl _ _).drew)⟩
def jT (sep : List UInt8) : List (List UInt8) → List UInt8
 | [] => []
 | x :: r => sep ++ x ++ jT sep r
theorem joinB_T (sep : List UInt8) : ∀ (r : List (List UInt8)) (x : List UInt8), jU sep (x :: r) = x ++ jT sep r
 | [], x => by simp [jU, jT]
 | y :: r, x => by rw [fI, joinB_T sep r y, jT]; simp only [List.append_assoc]
theorem joinT_snoc (sep x : List UInt8) : ∀ (r : List (List UInt8)), jT sep (r ++ [x]) = jT sep r ++ (sep ++ x)
 | [] => by simp [jT]
 | y :: r => by rw [List.cons_append, jT, jT, joinT_snoc sep x r]; simp only [List.append_assoc]
theorem joinT_len {sep : List UInt8} (hs : sep.length ≤ 100) : ∀ {r : List (List UInt8)}, (∀ x ∈ r, x.length ≤ 1000000) → (jT sep r).length ≤ r.length * 1000100
 | [], _ => by simp [jT]
 | y :: r, h => by
  have h1 := joinT_len hs (r := r) fun x hx => h x (List.mem_cons_of_mem _ hx)
  have h2 := h y (List.mem_cons_self ..)
  rw [jT]; simp only [List.length_append, List.length_cons]; omega
theorem bc_two (x y z : List UInt8) : Lib.byteCells (x ++ (y ++ z)) = Lib.byteCells x ++ Lib.strCells (mkS y) ++ Lib.strCells (mkS z) := by
 rw [d4, d4, ← Lib.byteCells_append, ← Lib.byteCells_append, List.append_assoc]
theorem join_many (sep x0 : List UInt8) (r : List (List UInt8)) (b off cap : Nat) (w : World) (hc : ∀ j (h : j < (x0 :: r).length), w.cell? ⟨b, off + j, none⟩ = some (.string (mkS ((x0 :: r)[j]))))
  (hb : b < w.heap.size) (hr : 1 ≤ r.length) (hn : r.length ≤ 1000) (h0 : sep ≠ []) (hs : sep.length ≤ 100) (hx : ∀ x ∈ x0 :: r, x.length ≤ 1000000) (hcap : r.length + 1 ≤ cap) :
  YC 224 #[.slice (some ⟨b, off, none⟩) (r.length + 1) cap, .string (mkS sep)] w (YR (.string (mkS (jU sep (x0 :: r)))) w) := by
 have HT := Lib.hid (show ∀ k, (x0 ++ jT sep (r.take k)).length ≤ 2000000000 from fun k => by
  have h1 := joinT_len hs (r := r.take k) fun x hm => hx x (List.mem_cons_of_mem _ (List.mem_of_mem_take hm))
  have h2 := hx x0 (List.mem_cons_self ..)
  have h3 : (r.take k).length ≤ 1000 := Nat.le_trans (by rw [List.length_take]; exact Nat.min_le_right ..) hn
  rw [List.length_append]; omega)
 have HC := Lib.hid hc
 have HX := Lib.hid hx
 have HJ := Lib.hid (joinB_T sep r x0)
 have hx0 : (mkS x0).size ≤ 1000000 := by rw [yD]; exact hx x0 (List.mem_cons_self ..)
 obtain ⟨S, hS⟩ : ∃ q, q = mkS sep := ⟨_, rfl⟩
 have hSz : S.size = sep.length := by rw [hS, yD]
 have hS1 : 1 ≤ S.size := by cases sep with
  | nil => exact absurd rfl h0
  | cons _ _ => rw [hSz]; simp
 have hS9 : S.size ≤ 100 := by omega
 rw [← hS]
 have HS := Lib.hid hS
 obtain ⟨N, hN⟩ : ∃ q, q = r.length + 1 := ⟨_, rfl⟩
 rw [← hN] at hcap ⊢
 have hcast : ((N : Int) - 1) = (r.length : Int) := by omega
 have hmul : S.size * r.length ≤ 100000 := Nat.le_trans (Nat.mul_le_mul hS9 hn) (by decide)
 have hdv : ¬ (9223372036854775807 / ((N : Int) - 1) ≤ (S.size : Int)) := by
  rw [hcast]
  intro q
  have h1 : (9223372036854775807 : Int) < ((S.size : Int) + 1) * (r.length : Int) :=
   Int.lt_mul_of_ediv_lt Om (Int.lt_add_one_of_le q)
  have h2 : ((S.size : Int) + 1) * (r.length : Int) = ((S.size * r.length + r.length : Nat) : Int) := by rw [Int.add_mul, Int.one_mul]; push_cast; rfl
  omega
 have hprod : wrap64 ((S.size : Int) * ((N : Int) - 1)) = ((S.size * r.length : Nat) : Int) := by
  rw [hcast, show (S.size : Int) * (r.length : Int) = ((S.size * r.length : Nat) : Int) from by push_cast; rfl]
  exact IntWalk.wrap64_in _ ⟨by omega, by omega⟩
 generalize S.size * r.length = M at hmul hprod
 have hne0 : ((N : Int) == 0) = false := beq_eq_false_iff_ne.2 Om
 have hne1 : ((N : Int) == 1) = false := beq_eq_false_iff_ne.2 Om
 have hN2 : 2 ≤ N := by omega
 have hN9 : N ≤ 1001 := by omega
 have HN := Lib.hid hN
 have H0 := Lib.hid h0
 clear hc hx hs h0 hS hSz hcast hN hr hn
 go_enter Tryz.func224, Tryz.ntmps224
 go_wp2
 go_loop [5, 41] (fun n i => ∃ (k t : Nat), k ≤ N ∧ i = YI k ∧ n = YI t ∧ t ≤ 100000 + k * 1000000) (fun _ i => N - (intOf i).toNat)
 case atStart => exact ⟨0, M, Nat.zero_le _, rfl, rfl, by omega⟩
 case round =>
  obtain ⟨k, t, hk, rfl, rfl, ht⟩ := hrel
  by_cases hkn : k < N
  ·have hkl : k < (x0 :: r).length := by have := HN.out; rw [List.length_cons]; omega
   obtain ⟨y, hy⟩ : ∃ q, q = mkS ((x0 :: r)[k]) := ⟨_, rfl⟩
   have hyz : y.size ≤ 1000000 := by rw [hy, yD]; exact HX.out _ (List.getElem_mem hkl)
   have hck : w.cell? ⟨b, off + k, none⟩ = some (.string y) := by rw [hy]; exact HC.out k hkl
   clear hy hkl
   go_wp2
   exact ⟨⟨k + 1, t + y.size, by omega, by go_num, by go_num, by omega⟩, by simp [intOf]; omega⟩
  ·obtain rfl : k = N := by omega
   go_wp2_with (go_at_call 249; refine (grow_fresh w.heap.size w.heap.size t _ (Nat.le_refl _) (heap_alloc_new w _) (by simp) Om).mono ?_)
   rintro e w1 rfl h1 hb1
   have hb1' : Below w.heap.size w w1 := ((Below.refl w.heap.size w).alloc (Nat.le_refl _) _).trans hb1
   have hsz1 := hb1'.size
   have hc0 : w1.cell? ⟨b, off, none⟩ = some (.string (mkS x0)) := by
    rw [hb1'.cell (p := ⟨b, off, none⟩) hb]
    exact HC.out 0 (by simp)
   have H1 := Lib.hid (Or.inr h1 : Lib.IsBuilder 107 5 w.heap.size w.heap.size [] w1)
   have HB1 := Lib.hid hb1'
   clear h1 hb1 hb1' ht hprod hmul hdv hkn hk
   obtain ⟨X, hX⟩ : ∃ q, q = mkS x0 := ⟨_, rfl⟩
   rw [← hX] at hc0 hx0
   have HX0 := Lib.hid hX
   clear hX
   go_wp2_with (go_at_call 122; refine (qY w.heap.size w.heap.size [] X w1 H1.out ?_ hsz1).mono ?_)
   ·simp; omega
   rintro e w2 ⟨rfl, h2, hb2⟩
   have H2 := Lib.hid (show Lib.IsBuilder 107 5 w.heap.size w.heap.size (Lib.byteCells (x0 ++ jT sep (r.take 0))) w2 from by
    rw [HX0.out, d4, List.nil_append] at h2
    rw [List.take_zero, jT, List.append_nil]; exact Or.inr h2)
   have HB2 := Lib.hid (HB1.out.trans hb2)
   clear h2 hb2 hsz1 hc0
   have hrk : k - 1 = r.length := by have := HN.out; omega
   go_wp2
   go_loopw [65] (fun i wr => ∃ j : Nat, j ≤ r.length ∧ i = YI j ∧ Hid (Lib.IsBuilder 107 5 w.heap.size w.heap.size (Lib.byteCells (x0 ++ jT sep (r.take j))) wr) ∧ Hid (Below w.heap.size w wr)) (fun i _ => r.length - (intOf i).toNat)
   case atStart => exact ⟨0, Nat.zero_le _, rfl, H2, HB2⟩
   case round =>
    obtain ⟨j, hj, rfl, HB, HW⟩ := hrel
    have hsz := HW.out.size
    by_cases hjr : j < r.length
    ·obtain ⟨y, hy⟩ : ∃ q, q = mkS r[j] := ⟨_, rfl⟩
     have hyz : y.size ≤ 1000000 := by rw [hy, yD]; exact HX.out _ (List.mem_cons_of_mem _ (List.getElem_mem hjr))
     have hck : wr.cell? ⟨b, off + 1 + j, none⟩ = some (.string y) := by
      rw [HW.out.cell (p := ⟨b, off + 1 + j, none⟩) hb, hy, show off + 1 + j = off + (j + 1) from by omega]
      exact HC.out (j + 1) (by simp; omega)
     have HY := Lib.hid hy
     have hlen : (Lib.byteCells (x0 ++ jT sep (r.take j))).length ≤ 2000000000 := by rw [Lib.byteCells_length]; exact HT.out j
     have HE := Lib.hid (show Lib.byteCells (x0 ++ jT sep (r.take j)) ++ Lib.strCells S ++ Lib.strCells y = Lib.byteCells (x0 ++ jT sep (r.take (j + 1))) from by
      rw [HS.out, HY.out, List.take_succ_eq_append_getElem hjr, joinT_snoc, ← List.append_assoc, bc_two])
     clear hy
     go_wp2_with (go_at_call 122; refine (qY w.heap.size w.heap.size _ S wr HB.out ?_ hsz).mono ?_)
     ·omega
     rintro e w3 ⟨rfl, h3, hb3⟩
     have hsz3 := Nat.le_trans hsz hb3.size
     have H3 := Lib.hid h3
     have HB3 := Lib.hid hb3
     clear h3 hb3
     go_wp2_with (go_at_call 122; refine (qY w.heap.size w.heap.size _ y w3 (Or.inr H3.out) ?_ hsz3).mono ?_)
     ·rw [List.length_append, Lib.strCells_length]; omega
     rintro e w4 ⟨rfl, h4, hb4⟩
     rw [HE.out] at h4
     have H4 := Lib.hid (Or.inr h4 : Lib.IsBuilder 107 5 w.heap.size w.heap.size (Lib.byteCells (x0 ++ jT sep (r.take (j + 1)))) w4)
     have HB4 := Lib.hid ((HW.out.trans HB3.out).trans hb4)
     clear h4 hb4
     go_wp2
     go_roundw
     case rel => exact ⟨j + 1, by omega, by go_num, H4, HB4⟩
     case measure => simp [intOf]; omega
    ·obtain rfl : j = r.length := by omega
     have HB' := HB.out
     rw [List.take_length, ← HJ.out] at HB'
     have hne : jU sep (x0 :: r) ≠ [] := by
      rw [HJ.out]
      cases r with
      | nil => simp at hrk; omega
      | cons y r => rw [jT]; intro q; exact H0.out (List.append_eq_nil_iff.1 (List.append_eq_nil_iff.1 (List.append_eq_nil_iff.1 q).2).1).1
     have HBF := Lib.hid HB'
     clear HB'
     go_wp2_with (go_at_call 78; refine (string_any w.heap.size w.heap.size _ _ HBF.out hne).mono ?_)
     rintro e w5 ⟨rfl, hb5⟩
     go_wp2
     go_ret
     exact ⟨rfl, HW.out.trans hb5⟩
theorem join_one (sep x : List UInt8) (A : Option Addr) (cap : Nat) (w : World) (hv : Reads y9 w w.heap.size A [x]) (hcap : 1 ≤ cap) :
  YC 224 #[.slice A 1 cap, .string (mkS sep)] w (YR (.string (mkS x)) w) := by
 obtain ⟨b, off, rfl, hb, hcell⟩ := hv (by simp)
 have hc : w.cell? ⟨b, off, none⟩ = some (.string (mkS x)) := hcell 0 _ rfl
 go_enter Tryz.func224, Tryz.ntmps224
 go_wp2
 go_ret
 exact ⟨rfl, Below.refl _ _⟩
theorem join_none (sep : List UInt8) (A : Option Addr) (cap : Nat) (w : World) :
  YC 224 #[.slice A 0 cap, .string (mkS sep)] w (YR (.string (mkS [])) w) := by
 go_enter Tryz.func224, Tryz.ntmps224
 go_wp2
 go_ret
 exact ⟨rfl, Below.refl _ _⟩
theorem sjoin_any (sep : List UInt8) (l : List (List UInt8)) (A : Option Addr) (cap : Nat) (w : World) (hv : Reads y9 w w.heap.size A l) (h0 : sep ≠ []) (hs : sep.length ≤ 100) (hn : l.length ≤ 1000) (hx : ∀ x ∈ l, x.length ≤ 1000000) (hcap : l.length ≤ cap) :
  YC 224 #[.slice A l.length cap, .string (mkS sep)] w (YR (.string (mkS (jU sep l))) w) := by
 match l, hv, hn, hx, hcap with
 | [], _, _, _, _ => exact join_none sep A cap w
 | [x], hv, _, _, hcap => exact join_one sep x A cap w hv hcap
 | x :: y :: r, hv, hn, hx, hcap =>
  obtain ⟨b, off, rfl, hb, hcell⟩ := hv (by simp)
  refine join_many sep x (y :: r) b off cap w (fun j hj => ?_) hb (by simp) (by simp at hn ⊢; omega) h0 hs hx hcap
  refine hcell j _ ?_
  rw [← x1]; unfold gI
  rw [List.getElem?_map, List.getElem?_eq_getElem hj]; rfl
theorem SlT.caps {A : Option Addr} {n cap : Nat} {l : List (List UInt8)} {ob : List Blk} (h : SlT (.slice A n cap) l ob) : n = l.length ∧ l.length ≤ cap := by
 rcases h.2 with ⟨h1, h2, _⟩ | ⟨g, c, cur, h1, _, h3, _⟩
 ·injection h1 with q1 q2 q3
  exact ⟨by omega, by omega⟩
 ·injection h1 with q1 q2 q3
  exact ⟨q2, by omega⟩
end
section
structure SetIn (w : World) (B : Nat) (A A' : Option Addr) (a : St) : Prop where
 rel : Reads spanC w B A a.rel
 pre : Reads spanC w B A' a.pre
 lr : a.rel.length ≤ 100000
 lp : a.pre.length ≤ 100000
 sr : ShortL a.rel
 sp : ShortL a.pre
end
section
end
section
def numsOk (l : List (List UInt8)) : Bool := decide (l.length ≤ 3) && l.all j0
def numsVal (l : List (List UInt8)) : Ver := if numsOk l then ⟨zK (tg l 0), zK (tg l 1), zK (tg l 2), [], []⟩ else Ver.zero
theorem tgi_get {l : List (List UInt8)} {i : Nat} (h : i < l.length) : l[i] = tg l i := by
 unfold tg
 rw [List.getElem?_eq_getElem h]; rfl
end
section
end
section
def pcV (s : List UInt8) : Co := (qB s).getD ⟨0, 0, Ver.zero⟩
def pcE (s : List UInt8) : Int := if (qB s).isSome then 0 else 6
theorem pc_none {s : List UInt8} (h : qB s = none) : pcV s = ⟨0, 0, Ver.zero⟩ ∧ pcE s = 6 := by unfold pcV pcE; rw [h]; exact ⟨rfl, rfl⟩
theorem pc_some {s : List UInt8} {c : Co} (h : qB s = some c) : pcV s = c ∧ pcE s = 0 := by unfold pcV pcE; rw [h]; exact ⟨rfl, rfl⟩
end
section
def coC (c : Co) : List Value := (coV c).cells.toList
theorem coC_len (c : Co) : (coC c).length = 7 := rfl
theorem co_cells (c : Co) : ∀ u ∈ coC c, u.oneCell' = true := by
 intro u hu
 unfold coC coV at hu
 simp only [Value.cells, List.mem_cons, List.not_mem_nil, or_false] at hu
 rcases hu with rfl | rfl | rfl | rfl | rfl | rfl | rfl <;> rfl
structure Al where
 A : Option Addr
 l : List Co
 cap : Nat
def alC (x : Al) : List Value := [.slice x.A x.l.length x.cap]
theorem alC_len (x : Al) : (alC x).length = 1 := rfl
theorem al_cells (x : Al) : ∀ u ∈ alC x, u.oneCell' = true := fun u hu => by rw [List.mem_singleton.1 hu]; rfl
def gU (xs : List Al) : List (List Co) := xs.map Al.l
theorem vV (xs : List Al) : (gU xs).length = xs.length := List.length_map ..
theorem rgOf_get {xs : List Al} {i : Nat} (hi : i < xs.length) {x : Al} (h : xs[i] = x) : (gU xs)[i]'(by rw [vV]; exact hi) = x.l := by
 unfold gU; rw [List.getElem_map, h]
def ShortA (l : List Co) : Prop := ∀ c ∈ l, c.short
structure RgIn (w : World) (B : Nat) (A : Option Addr) (xs : List Al) : Prop where
 top : Reads alC w B A xs
 each : ∀ x ∈ xs, Reads coC w B x.A x.l
 n : xs.length ≤ 1000
 m : ∀ x ∈ xs, x.l.length ≤ 1000
 short : ∀ x ∈ xs, ShortA x.l
theorem RgIn.on {w w' : World} {B B' : Nat} {A : Option Addr} {xs : List Al} (h : RgIn w B A xs) (hb : Below B w w') (hB : B ≤ B') : RgIn w' B' A xs := ⟨h.top.on hb hB, fun x hx => (h.each x hx).on hb hB, h.n, h.m, h.short⟩
theorem take_all {α : Type} {p : α → Prop} {l : List α} {i : Nat} (h : ∀ x ∈ l.take i, p x) (hi : i < l.length) {x : α} (hx : l[i] = x) (hp : p x) : ∀ y ∈ l.take (i + 1), p y := fun y hy => by
 rw [List.take_succ_eq_append_getElem hi] at hy
 rcases List.mem_append.1 hy with hy | hy
 ·exact h y hy
 ·rw [List.mem_singleton.1 hy, hx]; exact hp
theorem fewA_len {l : List Co} (h : ¬ (1 ≤ l.length ∧ l.length ≤ 6)) : fewA l = false := by unfold fewA; rw [decide_eq_false h]; rfl
theorem fewA_one {l : List Co} {c : Co} (hm : c ∈ l) (h : c.may = false) : fewA l = false := by
 cases hf : fewA l with
 | false => rfl
 | true => rw [(fewA.facts hf).2 c hm] at h; cases h
theorem fewA_all {l : List Co} (h1 : 1 ≤ l.length ∧ l.length ≤ 6) (h : ∀ c ∈ l, c.may = true) : fewA l = true := by
 unfold fewA; rw [decide_eq_true h1, List.all_eq_true.2 h]; rfl
theorem few_len {xs : List Al} (h : ¬ (1 ≤ xs.length ∧ xs.length ≤ 6)) : fewR (gU xs) = false := by unfold fewR; rw [vV, decide_eq_false h]; rfl
theorem few_one {xs : List Al} {x : Al} (hm : x ∈ xs) (h : fewA x.l = false) : fewR (gU xs) = false := by
 cases hf : fewR (gU xs) with
 | false => rfl
 | true => rw [(fewR.facts hf).2 x.l (List.mem_map.2 ⟨x, hm, rfl⟩)] at h; cases h
theorem few_all {xs : List Al} (h1 : 1 ≤ xs.length ∧ xs.length ≤ 6) (h : ∀ x ∈ xs, fewA x.l = true) : fewR (gU xs) = true := by
 unfold fewR; rw [vV, decide_eq_true h1, List.all_eq_true.2 fun a ha => by obtain ⟨x, hx, rfl⟩ := List.mem_map.1 ha; exact h x hx]; rfl
theorem co_len {c : Co} (h : c.may = true) : c.print.length ≤ 300 := by
 obtain ⟨_, hv, _⟩ := Co.facts h
 have hp := preOk_short (may_pre hv)
 rw [qF h]
 unfold Co.text Co.rest
 rw [List.length_append]
 have h1 : (zN c.op).length ≤ 2 := by
  unfold zN
  repeat' split
  all_goals decide
 split
 ·have := bK hv c.parts.toNat; omega
 ·rw [List.length_append]
  have := vF hv c.parts.toNat
  have : (kD 45 c.v.pre).length ≤ 37 := by
   unfold kD
   split
   ·exact Nat.zero_le _
   ·rw [List.length_cons]; omega
  omega
end
section
theorem coInfo : (Tryz.prog.info? 142).map (fun i => (i.zero.map (·.cells.size), i.size, i.bytes)) = some (some 7, 7, 72) := by kernel_rfl
theorem co_info : ∃ i z, Tryz.prog.info? 142 = some i ∧ i.zero = some z ∧ i.size = 7 ∧ z.cells.size = 7 ∧ i.bytes = 72 := by
 have h := coInfo
 cases hi : Tryz.prog.info? 142 with
 | none => rw [hi] at h; cases h
 | some i =>
  rw [hi] at h
  simp only [Option.map_some, Option.some.injEq, Prod.mk.injEq] at h
  cases hz : i.zero with
  | none => rw [hz] at h; simp at h
  | some z => rw [hz] at h; simp at h; exact ⟨i, z, rfl, hz, h.2.1, h.1, h.2.2⟩
theorem alInfo : (Tryz.prog.info? 209).map (fun i => (i.zero.map (·.cells.size), i.size, i.bytes)) = some (some 1, 1, 24) := by kernel_rfl
theorem al_info : ∃ i z, Tryz.prog.info? 209 = some i ∧ i.zero = some z ∧ i.size = 1 ∧ z.cells.size = 1 ∧ i.bytes = 24 := by
 have h := alInfo
 cases hi : Tryz.prog.info? 209 with
 | none => rw [hi] at h; cases h
 | some i =>
  rw [hi] at h
  simp only [Option.map_some, Option.some.injEq, Prod.mk.injEq] at h
  cases hz : i.zero with
  | none => rw [hz] at h; simp at h
  | some z => rw [hz] at h; simp at h; exact ⟨i, z, rfl, hz, h.2.1, h.1, h.2.2⟩
def SlCo (v : Value) (l : List Co) (ob : List Blk) : Prop := Sl 142 7 v l.length (l.flatMap coC) ob
structure RgA (u : Value) (xs : List Al) (o1 o2 : List Blk) : Prop where
 top : Sl 209 1 u xs.length (xs.flatMap alC) o1
 each : ∀ x ∈ xs, ∃ o, (∀ b ∈ o, b ∈ o2) ∧ SlCo (.slice x.A x.l.length x.cap) x.l o
def RgO (v : Value) (r : List (List Co)) (ob : List Blk) : Prop := ∃ xs u o1 o2, v = .agg #[u] ∧ ob = o1 ++ o2 ∧ gU xs = r ∧ RgA u xs o1 o2
theorem RgA.nil : RgA (.slice none 0 0) [] [] [] := ⟨Sl.nil _ _, fun x hx => by simp at hx⟩
theorem RgO.nil : RgO (.agg #[.slice none 0 0]) [] [] := ⟨[], _, [], [], rfl, rfl, rfl, RgA.nil⟩
theorem RgA.add {u u2 : Value} {xs : List Al} {o1 o2 o3 oa : List Blk} {A : Option Addr} {cap : Nat} {a : List Co} (h : RgA u xs o1 o2) (h2 : Sl 209 1 u2 (xs.length + 1) (xs.flatMap alC ++ alC ⟨A, a, cap⟩) o3) (ha : SlCo (.slice A a.length cap) a oa) : RgA u2 (xs ++ [⟨A, a, cap⟩]) o3 (oa ++ o2) :=
 ⟨h2.to (by simp) (by simp), fun x hx => by
  rcases List.mem_append.1 hx with hx | hx
  ·obtain ⟨o, k1, k2⟩ := h.each x hx
   exact ⟨o, fun b hb => List.mem_append_right _ (k1 b hb), k2⟩
  ·obtain rfl := List.mem_singleton.1 hx
   exact ⟨oa, fun b hb => List.mem_append_left _ hb, ha⟩⟩
structure FineR (r : List (List Co)) : Prop where
 n : r.length ≤ 1000
 m : ∀ a ∈ r, a.length ≤ 1000 ∧ ShortA a
theorem RgA.inn {A : Option Addr} {n cap : Nat} {xs : List Al} {o1 o2 L : List Blk} {M : List Nat} {W w : World} (h : RgA (.slice A n cap) xs o1 o2) (hn : xs.length = n) (hO : Own M W w L) (h1 : ∀ x ∈ o1, x ∈ L) (h2 : ∀ x ∈ o2, x ∈ L) (hf : FineR (gU xs)) : RgIn w w.heap.size A xs := by
 subst hn
 refine ⟨Sl.reads h.top rfl hO h1, fun x hx => ?_, by have := hf.n; rwa [vV] at this, fun x hx => (hf.m x.l (List.mem_map.2 ⟨x, hx, rfl⟩)).1, fun x hx => (hf.m x.l (List.mem_map.2 ⟨x, hx, rfl⟩)).2⟩
 obtain ⟨o, k1, k2⟩ := h.each x hx
 exact Sl.reads k2 rfl hO fun b hb => h2 b (k1 b hb)
theorem SlT.blk {v : Value} {l : List (List UInt8)} {ob : List Blk} (h : SlT v l ob) (hn : l ≠ []) : ∃ g cur cap, v = .slice (some ⟨g, 0, none⟩) l.length cap ∧ ob = [⟨g, cur, 9⟩] ∧ cur.toList.take (l.length * 1) = l.flatMap y9 := by
 obtain ⟨A, cap, rfl⟩ := h.form
 have h0 : 0 < l.length := by cases l with
  | nil => exact absurd rfl hn
  | cons _ _ => simp
 obtain ⟨g, cur, rfl, e, _, _, _, e2⟩ := Sl.block h h0
 exact ⟨g, cur, cap, rfl, e, by rw [e2, x1]⟩
theorem pc_ok {s : List UInt8} (h : pcE s = 0) : qB s = some (pcV s) := by
 cases hp : qB s with
 | none => rw [(pc_none hp).2] at h; exact absurd h (by decide)
 | some c => rw [(pc_some hp).1]
theorem pc_err {s : List UInt8} (h : ¬ pcE s = 0) : qB s = none := by
 cases hp : qB s with
 | none => rfl
 | some c => exact absurd (pc_some hp).2 h
theorem parseP_may {s : List UInt8} {c : Co} (h : parseP s = some c) : c.may = true := ((nY _ c).1 h).1
theorem co_short {c : Co} (h : c.may = true) : c.short := by
 obtain ⟨_, hv, hb, _⟩ := Co.facts h
 exact may_short hv hb
theorem parseA_fine {s : List UInt8} {a : List Co} (h : parseA s = some a) (hs : s.length ≤ 100) : a.length ≤ 1000 ∧ ∀ c ∈ a, c.may = true := by
 refine ⟨?_, fun c hc => ?_⟩
 ·rw [nM h, split_len]
  have := List.length_filter_le (fun x : UInt8 => x == 44) s
  omega
 ·obtain ⟨x, _, e⟩ := allO_back h c hc
  exact parseP_may e
theorem fine_part {s : List UInt8} (hs : s.length ≤ 96) {l : List (List UInt8)} (hl : ∀ x ∈ l, x ∈ kW [] s) (hn : l.length ≤ 97) {r : List (List Co)} (h : fG parseA l = some r) : FineR r := by
 refine ⟨by rw [nM h]; omega, fun a ha => ?_⟩
 obtain ⟨x, hx, e⟩ := allO_back h a ha
 have := altsL_le s [] x (hl x hx)
 have := parseA_fine e (by simp at this; omega)
 exact ⟨this.1, fun c hc => co_short (this.2 c hc)⟩
theorem fine_few {r : List (List Co)} (h : fewR r = true) : FineR r := by
 obtain ⟨h1, h2⟩ := fewR.facts h
 refine ⟨by omega, fun a ha => ?_⟩
 obtain ⟨k1, k2⟩ := fewA.facts (h2 a ha)
 exact ⟨by omega, fun c hc => co_short (k2 c hc)⟩
theorem allO_next {α β : Type} {f : α → Option β} {l : List α} {i : Nat} (hi : i < l.length) {y : α} (hy : l[i] = y) {m : List β} {z : β} (h : fG f (l.take i) = some m) (hz : f y = some z) : fG f (l.take (i + 1)) = some (m ++ [z]) := by
 rw [List.take_succ_eq_append_getElem hi, hy]
 exact allO_snoc h hz
theorem all_fails {s : List UInt8} {l m : List (List UInt8)} (hl : l = kW [] s) {i k : Nat} (hi : i < l.length) {y z : List UInt8} (hy : l[i] = y) (hm : m = zB 44 [] y) (hk : k < m.length) (hz : m[k] = z) (h : ¬ pcE (x6 z) = 0) : v7 s = none := by
 have h1 : parseA y = none := allO_none (x := z) (by rw [← hm, ← hz]; exact List.getElem_mem hk) (pc_err h)
 exact allO_none (x := y) (by rw [← hl, ← hy]; exact List.getElem_mem hi) h1
theorem errG_none {s : List UInt8} (hs : s.length ≤ 96) (h : v7 s = none) : hZ s = 6 ∧ gQ s = none := by
 unfold hZ gQ
 rw [if_neg Om, if_neg Om, h]; exact ⟨rfl, rfl⟩
theorem errG_few {s : List UInt8} (hs : s.length ≤ 96) {r : List (List Co)} (h : v7 s = some r) (hf : fewR r = false) : hZ s = 6 ∧ gQ s = none := by
 unfold hZ gQ
 rw [if_neg Om, if_neg Om, h]
 simp [hf, rgMay, Option.filter]
theorem errG_big {s : List UInt8} (hs : s.length ≤ 96) {r : List (List Co)} (h : v7 s = some r) (hf : fewR r = true) (hb : 96 < (vU r).length) : hZ s = 3 ∧ gQ s = none := by
 unfold hZ gQ
 rw [if_neg Om, if_neg Om, h]
 simp [hf, rgMay, Option.filter]; omega
theorem errG_fine {s : List UInt8} (hs : s.length ≤ 96) {r : List (List Co)} (h : v7 s = some r) (hf : fewR r = true) (hb : (vU r).length ≤ 96) : hZ s = 0 ∧ gQ s = some r := by
 unfold hZ gQ
 rw [if_neg Om, if_neg Om, h]
 simp [hf, rgMay, Option.filter, hb]
theorem errG_long {s : List UInt8} (hs : 96 < s.length) : hZ s = 3 ∧ gQ s = none := by
 unfold hZ gQ
 rw [if_pos hs, if_pos hs]; exact ⟨rfl, rfl⟩
theorem bareF_len : ∀ (s : List UInt8), (xY s).length ≤ s.length
 | [] => Nat.le_refl _
 | c :: l => by
  rw [xY]
  split
  ·have := bareF_len l; rw [List.length_cons]; omega
  ·exact Nat.le_refl _
theorem bareL_len (s : List UInt8) : (x6 s).length ≤ s.length := by
 unfold x6
 rw [List.length_reverse]
 have h1 := bareF_len (xY s).reverse
 rw [List.length_reverse] at h1
 have := bareF_len s
 omega
theorem pieces_len {y : List UInt8} (h : y.length ≤ 96) : (zB 44 [] y).length ≤ 97 ∧ ∀ z ∈ zB 44 [] y, z.length ≤ 96 := by
 refine ⟨?_, fun z hz => by have := mZ 44 y [] z hz; simp at this; omega⟩
 rw [split_len]
 have := List.length_filter_le (fun x : UInt8 => x == 44) y
 omega
section
variable {M : List Nat} {W w : World}
theorem own_two {x y : Blk} {A : List Blk} (h : Own M W w (x :: y :: A)) : Own M W w A := h.sublist ((List.sublist_cons_self y A).trans (List.sublist_cons_self x (y :: A)))
theorem own_turn {x y r t g : Blk} {oa o1 o2 : List Blk} (h : Own M W w (([x, y, g, r, t] ++ oa) ++ o1 ++ o2)) : Own M W w (g :: r :: t :: (o1 ++ (oa ++ o2))) := by
 have h1 : Own M W w (x :: y :: g :: r :: t :: ((oa ++ o1) ++ o2)) := by simpa [List.append_assoc] using h
 refine (own_two h1).perm (List.Perm.cons _ (List.Perm.cons _ (List.Perm.cons _ ?_)))
 rw [← List.append_assoc]
 exact List.Perm.append_right _ List.perm_append_comm
end
end
section
def dX (v : Ver) : Array Value := #[YI v.maj, YI v.min, YI v.pat]
theorem rd_nums (v : Ver) : ∀ (k : Nat), k < 3 → yO Tryz.prog 3 (dX v) k = some (YI (jJ v.maj v.min v.pat k))
 | 0, _ => by kernel_rfl
 | 1, _ => by kernel_rfl
 | 2, _ => by kernel_rfl
theorem cnums_any (v : Ver) (W : World) : YC 245 #[jC v] W fun e w' => ∃ v' ob', e = .returned v' ∧ (∃ g, v' = .slice (some ⟨g, 0, none⟩) 3 3 ∧ ob' = [⟨g, dX v, 3⟩]) ∧ Own [] W w' ob' := by
 exact zQ Tryz.func245 (wK [] fun b1 => wJ [0, 0, 0] 3 3 #[YI v.maj, YI v.min, YI v.pat] fun b2 => zF [] (.slice (some ⟨b2, 0, none⟩) 3 3) fun w hO => ⟨_, _, rfl, ⟨b2, rfl, rfl⟩, Own.nth 0 ⟨b2, dX v, 3⟩ hO⟩)
theorem cMay_any (c : Co) (W : World) (hc : c.short) : YC 223 #[coV c] W (YR (.bool c.may) W) := by
 obtain ⟨op, parts, v⟩ := c
 have hm := @Co.may_iff ⟨op, parts, v⟩
 simp only at hm
 have no : ∀ w, Below W.heap.size W w → ¬ (Co.may ⟨op, parts, v⟩ = true) → Ending.returned (.bool false) = .returned (.bool (Co.may ⟨op, parts, v⟩)) ∧ Below W.heap.size W w := fun w hb h => ⟨by rw [Bool.eq_false_iff.2 h], hb⟩
 have hmay : ∀ w, YC 30 #[jC v] w (YR (.bool v.may) w) := fun w => may_any v w (Nat.lt_of_le_of_lt hc.1 (by decide)) (Nat.lt_of_le_of_lt hc.2 (by decide))
 have hnum : ∀ w, YC 245 #[jC v] w fun e w' => ∃ v' ob', e = .returned v' ∧ (∃ g, v' = .slice (some ⟨g, 0, none⟩) 3 3 ∧ ob' = [⟨g, dX v, 3⟩]) ∧ Own [] w w' ob' := fun w => cnums_any v w
 refine zQ Tryz.func223 (wK [] fun b1 => m7 9 (α := Int × Int) (fun q => [(1, Zp b1 0), (3, YI q.1), (4, YI q.2)]) (fun _ => [⟨b1, (coV ⟨op, parts, v⟩).cells, 142⟩]) (fun q => (op = 9 → q.1 = 0 ∧ q.2 = 2) ∧ (¬ op = 9 → q.1 = 1 ∧ q.2 = 3)) [0] (fun nj => x_now 9 (op = 9) (fun h => nj (0, 2) [] ⟨fun _ => ⟨rfl, rfl⟩, fun q => absurd h q⟩ Kr) (fun h => nj (1, 3) [] ⟨fun q => absurd q h, fun _ => ⟨rfl, rfl⟩⟩ Kr)) ?_)
 rintro ⟨lo, hi⟩ g hr
 simp only at hr
 refine y8 12 [0] (op < 1) (fun h1 => (zF [] Z5 fun w hO => no w hO.below fun q => by have := hm.1 q; grind)) (fun h1 => y8 16 [0] (op > 9) (fun h2 => (zF [] Z5 fun w hO => no w hO.below fun q => by have := hm.1 q; grind)) (fun h2 => y8 22 [0] (parts < lo) (fun h5 => (zF [] Z5 fun w hO => no w hO.below fun q => by have := hm.1 q; grind)) (fun h5 => y8 28 [0] (parts > hi) (fun h6 => (zF [] Z5 fun w hO => no w hO.below fun q => by have := hm.1 q; grind)) (fun h6 => ?_))))
 rcases (by omega : parts = 0 ∨ parts = 1 ∨ parts = 2 ∨ parts = 3) with rfl | rfl | rfl | rfl
 ·refine x_drawF (.s (.s (.s (.s (.s (.s (.s (.s .z)))))))) 8 [] (yH [0, 0] 2 (kS (R := fun v' ob' => ∃ g, v' = .slice (some ⟨g, 0, none⟩) 3 3 ∧ ob' = [⟨g, dX v, 3⟩]) (fun w hO => hnum w) ?_))
  rintro v' ob' ⟨gb, rfl, rfl⟩
  exact jN 3 [] (x_bn 42 [1] (v.maj = 0) (fun a1 => x_bn 42 [1] (v.min = 0) (fun a2 => x_bn 42 [1] (v.pat = 0) (fun a3 => zE (v := .bool v.may) [0] (fun w hO => hmay w) (xE 46 v.may (fun e3 => qH 51 [0] v.build [] (fun h4 => qH 57 [0] v.pre [] (fun h8 => (zF [] Z4 fun w hO => ⟨by rw [hm.2 ⟨by omega, e3, h4, by omega, by omega, by first | exact .inr h8 | exact .inl Om, by omega, by omega, by omega⟩], hO.below⟩)) (fun h8 => (zF [0] Z5 fun w hO => no w hO.below fun q => by have := hm.1 q; grind))) (fun h4 => (zF [] Z5 fun w hO => no w hO.below fun q => by have := hm.1 q; grind))) (fun e3 => (zF [] Z5 fun w hO => no w hO.below fun q => by have := hm.1 q; grind)))) (fun a3 => (zF [] Z5 fun w hO => no w hO.below fun q => by have := hm.1 q; grind))) (fun a2 => (zF [] Z5 fun w hO => no w hO.below fun q => by have := hm.1 q; grind))) (fun a1 => (zF [] Z5 fun w hO => no w hO.below fun q => by have := hm.1 q; grind)))
 ·refine x_drawF (.s (.s (.s (.s (.s (.s (.s (.s .z)))))))) 8 [] (yH [0, 0] 2 (kS (R := fun v' ob' => ∃ g, v' = .slice (some ⟨g, 0, none⟩) 3 3 ∧ ob' = [⟨g, dX v, 3⟩]) (fun w hO => hnum w) ?_))
  rintro v' ob' ⟨gb, rfl, rfl⟩
  exact jN 3 [] (x_bn 42 [1] (v.min = 0) (fun a2 => x_bn 42 [1] (v.pat = 0) (fun a3 => zE (v := .bool v.may) [0] (fun w hO => hmay w) (xE 46 v.may (fun e3 => qH 51 [0] v.build [] (fun h4 => qH 57 [0] v.pre [] (fun h8 => (zF [] Z4 fun w hO => ⟨by rw [hm.2 ⟨by omega, e3, h4, by omega, by omega, by first | exact .inr h8 | exact .inl Om, by omega, by omega, by omega⟩], hO.below⟩)) (fun h8 => (zF [0] Z5 fun w hO => no w hO.below fun q => by have := hm.1 q; grind))) (fun h4 => (zF [] Z5 fun w hO => no w hO.below fun q => by have := hm.1 q; grind))) (fun e3 => (zF [] Z5 fun w hO => no w hO.below fun q => by have := hm.1 q; grind)))) (fun a3 => (zF [] Z5 fun w hO => no w hO.below fun q => by have := hm.1 q; grind))) (fun a2 => (zF [] Z5 fun w hO => no w hO.below fun q => by have := hm.1 q; grind)))
 ·refine x_drawF (.s (.s (.s (.s (.s (.s (.s (.s .z)))))))) 8 [] (yH [0, 0] 2 (kS (R := fun v' ob' => ∃ g, v' = .slice (some ⟨g, 0, none⟩) 3 3 ∧ ob' = [⟨g, dX v, 3⟩]) (fun w hO => hnum w) ?_))
  rintro v' ob' ⟨gb, rfl, rfl⟩
  exact jN 3 [] (x_bn 42 [1] (v.pat = 0) (fun a3 => zE (v := .bool v.may) [0] (fun w hO => hmay w) (xE 46 v.may (fun e3 => qH 51 [0] v.build [] (fun h4 => qH 57 [0] v.pre [] (fun h8 => (zF [] Z4 fun w hO => ⟨by rw [hm.2 ⟨by omega, e3, h4, by omega, by omega, by first | exact .inr h8 | exact .inl Om, by omega, by omega, by omega⟩], hO.below⟩)) (fun h8 => (zF [0] Z5 fun w hO => no w hO.below fun q => by have := hm.1 q; grind))) (fun h4 => (zF [] Z5 fun w hO => no w hO.below fun q => by have := hm.1 q; grind))) (fun e3 => (zF [] Z5 fun w hO => no w hO.below fun q => by have := hm.1 q; grind)))) (fun a3 => (zF [] Z5 fun w hO => no w hO.below fun q => by have := hm.1 q; grind)))
 ·refine x_drawF (.s (.s (.s (.s (.s (.s (.s (.s .z)))))))) 8 [] (yH [0, 0] 2 (kS (R := fun v' ob' => ∃ g, v' = .slice (some ⟨g, 0, none⟩) 3 3 ∧ ob' = [⟨g, dX v, 3⟩]) (fun w hO => hnum w) ?_))
  rintro v' ob' ⟨gb, rfl, rfl⟩
  exact jN 3 [] (zE (v := .bool v.may) [0] (fun w hO => hmay w) (xE 46 v.may (fun e3 => qH 51 [0] v.build [] (fun h4 => qH 57 [0] v.pre [] (fun h8 => (zF [] Z4 fun w hO => ⟨by rw [hm.2 ⟨by omega, e3, h4, by omega, by omega, by first | exact .inr h8 | exact .inl Om, by omega, by omega, by omega⟩], hO.below⟩)) (fun h8 => (zF [0] Z4 fun w hO => ⟨by rw [hm.2 ⟨by omega, e3, h4, by omega, by omega, by first | exact .inr h8 | exact .inl Om, by omega, by omega, by omega⟩], hO.below⟩))) (fun h4 => (zF [] Z5 fun w hO => no w hO.below fun q => by have := hm.1 q; grind))) (fun e3 => (zF [] Z5 fun w hO => no w hO.below fun q => by have := hm.1 q; grind))))
theorem csign_any (op : Int) (W : World) : YC 244 #[YI op] W (YR (.string (mkS (zN op))) W) := by
 exact zQ Tryz.func244 (y8 7 [] (op = 2) (fun h => bF 24 [] [33] [61] (zF [] (.string (mkS ([33] ++ [61]))) fun w hO => ⟨by subst h; rfl, hO.below⟩)) (fun h2 => y8 9 [] (op = 1) (fun h => bF 24 [] [] [61] (zF [] (.string (mkS ([] ++ [61]))) fun w hO => ⟨by subst h; rfl, hO.below⟩)) (fun h1 => y8 11 [] (op = 4) (fun h => bF 24 [] [60] [61] (zF [] (.string (mkS ([60] ++ [61]))) fun w hO => ⟨by subst h; rfl, hO.below⟩)) (fun h4 => y8 13 [] (op = 3) (fun h => bF 24 [] [60] [] (zF [] (.string (mkS ([60] ++ []))) fun w hO => ⟨by subst h; rfl, hO.below⟩)) (fun h3 => y8 15 [] (op = 6) (fun h => bF 24 [] [62] [61] (zF [] (.string (mkS ([62] ++ [61]))) fun w hO => ⟨by subst h; rfl, hO.below⟩)) (fun h6 => y8 17 [] (op = 5) (fun h => bF 24 [] [62] [] (zF [] (.string (mkS ([62] ++ []))) fun w hO => ⟨by subst h; rfl, hO.below⟩)) (fun h5 => y8 19 [] (op = 7) (fun h => bF 24 [] [94] [] (zF [] (.string (mkS ([94] ++ []))) fun w hO => ⟨by subst h; rfl, hO.below⟩)) (fun h7 => y8 21 [] (op = 8) (fun h => bF 24 [] [126] [] (zF [] (.string (mkS ([126] ++ []))) fun w hO => ⟨by subst h; rfl, hO.below⟩)) (fun h8 => bF 24 [] [] [] (zF [] (.string (mkS ([] ++ []))) fun w hO => ⟨by unfold zN; rw [if_neg h1, if_neg h2, if_neg h3, if_neg h4, if_neg h5, if_neg h6, if_neg h7, if_neg h8]; rfl, hO.below⟩))))))))))
end
section
theorem splitn_any (s : List UInt8) (W : World) (hs : s.length ≤ 1000000) : YC 141 #[.string (mkS s), .string ⟨#[46]⟩, YI 3] W fun e w' => ∃ v' ob', e = .returned v' ∧ SlT v' (dB 2 s) ob' ∧ Own [] W w' ob' := by
 refine Z2 (n := 11) Tryz.func141 rfl (ZO (Zv (.slice none 0 0) (ZR (Zv (.string (mkS s)) (Zv (.string ⟨#[46]⟩) (Zv (YI 3) (Zr (k := 173) (args := #[.string (mkS s), .string ⟨#[46]⟩, YI 0, YI 3]) (fun v' L' => SlT v' (dB 2 s) L') (fun w hO => (split3_any s w hs).mono fun e w' ⟨v', ob', k1, k2, k3⟩ => ⟨v', ob', k1, k2, by simpa using Own.joinN hO k3⟩) (fun v1 o1 hr1 => ?_))))))))
 exact Zv (v1) (ZN (zL (ZF (v1) Tryz.results141 (fun w hO => ⟨v1, o1, rfl, hr1, hO⟩))))
theorem sgo_take {s r : List UInt8} {k : Nat} {op : Int} (h : sgo s k = (op, r)) (hb : yS s (zN ((k + 1 : Nat) : Int)) = true) (hl : ((mkS (cpL s (zN ((k + 1 : Nat) : Int)))).size : Int) < ((mkS r).size : Int)) : sgo s (k + 1) = (((k + 1 : Nat) : Int), cpL s (zN ((k + 1 : Nat) : Int))) := by
 rw [yD, yD] at hl
 unfold cpL at hl ⊢
 rw [if_pos hb] at hl ⊢
 unfold sgo
 rw [h, if_pos ⟨hb, by show _ < r.length; omega⟩]
theorem sgo_not {s r : List UInt8} {k : Nat} {op : Int} (h : sgo s k = (op, r)) (hb : yS s (zN ((k + 1 : Nat) : Int)) = false) : sgo s (k + 1) = (op, r) := by
 unfold sgo
 rw [h, if_neg (fun q => by rw [hb] at q; exact Bool.false_ne_true q.1)]
theorem sgo_long {s r : List UInt8} {k : Nat} {op : Int} (h : sgo s k = (op, r)) (hb : yS s (zN ((k + 1 : Nat) : Int)) = true) (hl : ¬ ((mkS (cpL s (zN ((k + 1 : Nat) : Int)))).size : Int) < ((mkS r).size : Int)) : sgo s (k + 1) = (op, r) := by
 rw [yD, yD] at hl
 unfold cpL at hl
 rw [if_pos hb] at hl
 unfold sgo
 rw [h, if_neg (fun q => hl (by have q2 : _ < r.length := q.2; omega))]
theorem ccut_any (s : List UInt8) (W : World) (hs : s.length ≤ 1000000) : YC 214 #[.string (mkS s)] W (YR (.tuple #[YI (sgo s 8).1, .string (mkS (sgo s 8).2)]) W) := by
 refine Z2 (n := 33) Tryz.func214 rfl (ZO (Zv (YI 0) (Zv (.string ⟨#[]⟩) (ZR (Zv (.string (mkS s)) (Zv (YI 7) (Zv (.string (mkS s)) ?_)))))))
 refine ZN (zH (ZO (Zv (YI 1) (ZN (yN (jY (fun L f m => ∃ (k : Nat) (op : Int) (r : List UInt8) (j : Nat → Value), (k ≤ 8 ∧ sgo s k = (op, r)) ∧ L = [] ∧ f = jR j [(0, .string (mkS s)), (4, YI op), (5, .string (mkS r)), (6, YI ((k + 1 : Nat) : Int))] ∧ m = 8 - k) (8 - 0) ⟨0, _, _, _, ⟨by omega, rfl⟩, rfl, ZU, rfl⟩ ?_))))))
 rintro L f m ⟨k, op, r, j, hrel, rfl, rfl, rfl⟩
 have hkl := hrel.1
 refine zH (ZO (Zv (YI ((k + 1 : Nat) : Int)) ?_))
 by_cases h1 : ((k + 1 : Nat) : Int) < 9
 ·refine Zg h1 (ZY (ZB (zH (yN (ZO (Zv (.string (mkS s)) (Zv (YI ((k + 1 : Nat) : Int)) ?_)))))))
  refine Zc (k := 244) (args := #[YI ((k + 1 : Nat) : Int)]) (.string (mkS (zN ((k + 1 : Nat) : Int)))) (fun w _ => csign_any _ w) (Zc (k := 120) (args := #[.string (mkS s), .string (mkS (zN ((k + 1 : Nat) : Int)))]) (.tuple #[.string (mkS (cpL s (zN ((k + 1 : Nat) : Int)))), .bool (yS s (zN ((k + 1 : Nat) : Int)))]) (fun w _ => cutpre_any s (zN ((k + 1 : Nat) : Int)) w) (Zv (.tuple #[.string (mkS (cpL s (zN ((k + 1 : Nat) : Int)))), .bool (yS s (zN ((k + 1 : Nat) : Int)))]) (Zv (.string (mkS (cpL s (zN ((k + 1 : Nat) : Int))))) (Zv (.bool (yS s (zN ((k + 1 : Nat) : Int)))) (Zv (.string (mkS (cpL s (zN ((k + 1 : Nat) : Int))))) (Zv (.bool (yS s (zN ((k + 1 : Nat) : Int)))) (ZR (Zv (.bool (yS s (zN ((k + 1 : Nat) : Int)))) ?_))))))))
  refine Zv (.bool (yS s (zN ((k + 1 : Nat) : Int)))) ?_
  cases h2 : yS s (zN ((k + 1 : Nat) : Int)) with
  | true =>
   refine Zv (.string (mkS (cpL s (zN ((k + 1 : Nat) : Int))))) (Zv (YI ((mkS (cpL s (zN ((k + 1 : Nat) : Int)))).size)) (Zv (.string (mkS r)) (Zv (YI ((mkS r).size)) ?_)))
   by_cases h3 : ((mkS (cpL s (zN ((k + 1 : Nat) : Int)))).size : Int) < (mkS r).size
   ·refine Zg h3 (Zv Z4 (ZY (zG (Zv (YI ((k + 1 : Nat) : Int)) (Zv (.string (mkS (cpL s (zN ((k + 1 : Nat) : Int))))) (Zv (YI ((k + 1 : Nat) : Int)) (Zv (.string (mkS (cpL s (zN ((k + 1 : Nat) : Int))))) (yC (y7 ?_)))))))))
    exact zJ (zG (Zv (YI ((k + 1 : Nat) : Int)) (Zu (k := .i64) (((k + 1 + 1 : Nat) : Int)) (IntWalk.i64_in _ Om) (Zv (YI ((k + 1 + 1 : Nat) : Int)) (yC (x9 (m' := 8 - (k + 1)) Om ⟨k + 1, ((k + 1 : Nat) : Int), cpL s (zN ((k + 1 : Nat) : Int)), _, ⟨by omega, sgo_take hrel.2 h2 h3⟩, rfl, ZU, rfl⟩))))))
   refine Zh h3 (Zv Z5 (ZX (p6 (y7 (zJ (zG (Zv (YI ((k + 1 : Nat) : Int)) (Zu (k := .i64) (((k + 1 + 1 : Nat) : Int)) (IntWalk.i64_in _ Om) (Zv (YI ((k + 1 + 1 : Nat) : Int)) ?_)))))))))
   exact yC (x9 (m' := 8 - (k + 1)) Om ⟨k + 1, op, r, _, ⟨by omega, sgo_long hrel.2 h2 h3⟩, rfl, ZU, rfl⟩)
  | false =>
   refine Zk (Zk (Zk (Zk (Zk (Zv Z5 (ZX (p6 (y7 (zJ ?_)))))))))
   exact zG (Zv (YI ((k + 1 : Nat) : Int)) (Zu (k := .i64) (((k + 1 + 1 : Nat) : Int)) (IntWalk.i64_in _ Om) (Zv (YI ((k + 1 + 1 : Nat) : Int)) (yC (x9 (m' := 8 - (k + 1)) Om ⟨k + 1, op, r, _, ⟨by omega, sgo_not hrel.2 h2⟩, rfl, ZU, rfl⟩)))))
 refine Zh h1 (ZX (jZ (yV (yQ (yR (zJ (ZO (Zv (YI op) ?_))))))))
 exact Zv (.string (mkS r)) (Zv (YI op) (Zv (.string (mkS r)) (ZN (zL (ZG (YI op) (.string (mkS r)) Tryz.results214 (fun w hO => ⟨by have hk8 : k = 8 := Om; subst hk8; rw [hrel.2], hO.below⟩))))))
theorem nth_ok {v : Ver} (h : v.may = true) {k : Nat} (hk : k < 3) : zU (jJ v.maj v.min v.pat k) = true := by
 obtain ⟨m1, m2, m3⟩ := qD h
 have hj : k = 0 ∨ k = 1 ∨ k = 2 := by omega
 rcases hj with rfl | rfl | rfl
 ·exact m1
 ·exact m2
 ·exact m3
theorem nth_in {v : Ver} (h : v.may = true) {k : Nat} (hk : k < 3) : -9223372036854775808 ≤ jJ v.maj v.min v.pat k ∧ jJ v.maj v.min v.pat k ≤ 9223372036854775807 := by
 have q := nth_ok h hk
 unfold zU at q; simp at q; omega
theorem nums_next (v : Ver) {k : Nat} (hk : k < 3) : zM v (k + 1) = zM v k ++ [Lib.itoa (jJ v.maj v.min v.pat k)] := by
 have hj : k = 0 ∨ k = 1 ∨ k = 2 := by omega
 rcases hj with rfl | rfl | rfl <;> rfl
theorem own_dropP {M : List Nat} {W w : World} {x y z : Blk} {A : List Blk} (h : Own M W w ([x, y, z] ++ A ++ [])) : Own M W w (y :: z :: A) := h.sublist (by rw [List.append_nil]; exact List.sublist_append_right [x] _)
theorem star_ne {l : List (List UInt8)} : zD 46 (l ++ [[42]]) ≠ [] := fun e => by
 have h := last_join [] l
 rw [show ([] : List UInt8) ++ [42] = [42] from rfl, e] at h
 cases h
theorem nums_ne {c : Co} (h : c.may = true) (hn : ¬ c.op = 9) : zD 46 (zM c.v c.parts.toNat) ≠ [] := fun e => by
 obtain ⟨d, r, e2, hd⟩ := n6 h hn
 unfold Co.rest at e2
 rw [if_neg hn, e, List.nil_append] at e2
 unfold kD at e2
 split at e2
 ·cases e2
 ·injection e2 with e3 _
  rw [← e3] at hd
  revert hd; decide
theorem text_pre2 {c : Co} (h9 : ¬ c.op = 9) (hp : ¬ c.v.pre = []) : zN c.op ++ zD 46 (zM c.v c.parts.toNat) ++ ([45] ++ c.v.pre) = c.text := by
 rw [← text_pre h9 hp]; simp
theorem star_text2 {c : Co} (h9 : c.op = 9) : zN c.op ++ zD 46 (zM c.v c.parts.toNat ++ [[42]]) = c.text := by
 rw [← star_text h9, h9]; rfl
theorem star_pre {c : Co} (h : c.may = true) (h9 : c.op = 9) : c.v.pre = [] := by
 obtain ⟨_, _, _, k9, _, hp, _⟩ := Co.facts h
 have := k9 h9
 exact hp.resolve_left Om
theorem cPrint_any (c : Co) (W : World) (hc : c.short) (ht : HasTab W) : YC 215 #[coV c] W (YR (.string (mkS c.print)) W) := by
 refine Z2 (n := 50) Tryz.func215 rfl (ZO (Zb (coV c) (fun b1 => Zv (.string ⟨#[]⟩) (ZN (zH (ZO (Zl 0 ⟨b1, (coV c).cells, 142⟩ (off := 0) (coV c) (Zc (k := 223) (args := #[coV c]) (.bool c.may) (fun w _ => cMay_any c w hc) ?_))))))))
 cases h1 : c.may with
 | true =>
  have hcm := h1
  have hcv := (Co.facts hcm).2.1
  have hpn := parts_nat hcm
  have hpr := hpn.2
  have hpc := hpn.1
  refine Zv Z5 (ZX (ZB (ZO (Zv (.slice none 0 0) (ZN (zH ?_))))))
  refine zH (ok_anyh Kr (ZT 0 [] _ (Zp b1 2) (yW (yW xD)) rfl (ZL 1 [] _ 0 ⟨b1, (coV c).cells, 142⟩ (off := 2) (.agg (ZP c.v)) (yW (yW xD)) rfl rfl (ZT 3 [] _ (Zp b1 1) (yW (yW xD)) rfl (ZL 4 [] _ 0 ⟨b1, (coV c).cells, 142⟩ (off := 1) (YI c.parts) (yW (yW xD)) rfl rfl (ZT 7 [] _ (YI 0) (yW (yW xD)) rfl (Zz 2 (tK _ (k := 245) (args := #[.agg (ZP c.v)]) (fun v' L' => ∃ ob', L' = ob' ++ ([] ++ ([⟨b1, (coV c).cells, 142⟩])) ∧ ∃ g, v' = .slice (some ⟨g, 0, none⟩) 3 3 ∧ ob' = [⟨g, dX c.v, 3⟩]) rfl Kr (fun _ => Kr) (fun w hO => (cnums_any c.v w).mono fun e w' ⟨v', ob', k1, k2, k3⟩ => ⟨v', _, k1, ⟨ob', rfl, k2⟩, Own.joinN hO k3⟩) (fun v' L' ⟨ob', e, _⟩ w hO => by subst e; exact Own.sub [] (Own.sub ob' hO)) (fun v1 L2 hv2 => ?_)))))))))
  obtain ⟨o1, rfl, hr1⟩ := hv2
  obtain ⟨g1, rfl, ho1⟩ := hr1
  refine h_cast (L' := (o1 ++ ([] : List Blk)) ++ ([⟨b1, (coV c).cells, 142⟩])) (List.append_assoc _ _ _).symm (h_take 5 (o1 ++ ([] : List Blk)) _ (.slice (some ⟨g1, 0, none⟩) c.parts.toNat 3) rfl Kr Kr Kr (yW (yW xD)) Kr (fun w _ => run_slhi (b := g1) (off := 0) (n := 3) (c := 3) (k := .i64) (j := c.parts) (e := 3) (sz := 1) rfl Kr Kr Kr Kr Om Om w) (ZT 6 (o1 ++ ([] : List Blk)) _ (YI (c.parts.toNat : Int)) (yW (yW xD)) rfl (ZZ (zJ (yN (jI (L' := ⟨g1, dX c.v, 3⟩ :: ⟨b1, (coV c).cells, 142⟩ :: []) (by rw [ho1]; rfl) (jY (fun L f m => ∃ (k : Nat) (va : Value) (oa : List Blk) (j : Nat → Value), (k ≤ c.parts.toNat ∧ SlT va (zM c.v k) oa) ∧ L = ⟨g1, dX c.v, 3⟩ :: ⟨b1, (coV c).cells, 142⟩ :: oa ∧ f = jR j [(1, Zp b1 0), (3, va), (15, .slice (some ⟨g1, 0, none⟩) c.parts.toNat 3), (16, YI (c.parts.toNat : Int)), (17, YI (k : Int))] ∧ m = c.parts.toNat - k) (c.parts.toNat - 0) ⟨0, _, [], _, ⟨Nat.zero_le _, Sl.nil _ _⟩, rfl, ZU, rfl⟩ ?_)))))))
  rintro L f m ⟨k, va, oa, j, hrel, rfl, rfl, rfl⟩
  have hkl := hrel.1
  refine zH (zG ?_)
  by_cases h2 : (k : Int) < (c.parts.toNat : Int)
  ·refine Zg h2 (ZN (zH (Zt (ZB (zH (yN (ZO (yB (Zp g1 (0 + k)) Kr (ZV (b := g1) (off := 0) (n := c.parts.toNat) (c := 3) (k := .i64) (j := (k : Int)) (e := 3) (sz := 1)) ?_))))))))
   refine nW 0 ⟨g1, dX c.v, 3⟩ (off := 0 + k) (YI (jJ c.v.maj c.v.min c.v.pat k)) Kr rfl Kr Kr (by rw [Nat.zero_add]; exact rd_nums c.v k Om) (Zv (YI (jJ c.v.maj c.v.min c.v.pat k)) (ZN (zG (Zv (va) (Zv (YI (jJ c.v.maj c.v.min c.v.pat k)) (Zc (k := 125) (args := #[YI (jJ c.v.maj c.v.min c.v.pat k)]) (.string (mkS (Lib.itoa (jJ c.v.maj c.v.min c.v.pat k)))) (fun w hO => digits_mk _ (nth_in hcv (show k < 3 by omega)).1 (nth_in hcv (show k < 3 by omega)).2 w (ht.on hO.below)) (s_lit 9 #[.string (mkS (Lib.itoa (jJ c.v.maj c.v.min c.v.pat k)))] Kr rfl (fun _ => Kr) (fun b2 => ?_))))))))
   obtain ⟨i0, z0, e1, e2, e3, e4, e5⟩ := pU
   have hlk : (zM c.v k).length ≤ 3 := by have := dE c.v k; omega
   refine zS (L' := [⟨b2, #[.string (mkS (Lib.itoa (jJ c.v.maj c.v.min c.v.pat k)))], 9⟩, ⟨g1, dX c.v, 3⟩, ⟨b1, (coV c).cells, 142⟩] ++ oa ++ []) (List.append_nil _).symm (dA (sz := 1) Kr rfl Tryz.underlying58 e1 e2 e3 e4 Kr hrel.2 (a := ⟨b2, 0, none⟩) (m := 1) (c := 1) (news := gI [Lib.itoa (jJ c.v.maj c.v.min c.v.pat k)]) Kr rfl (fun w hO j u hj => ?_) (str_cells _) (by unfold maxLen; omega) (by rw [e5]; omega) (fun va2 oa2 hva0 => ?_))
   ·rw [x3, cell_of_row w b2 (0 + j) (gI [Lib.itoa (jJ c.v.maj c.v.min c.v.pat k)]).toArray 9 _ (hO.held ⟨b2, (gI [Lib.itoa (jJ c.v.maj c.v.min c.v.pat k)]).toArray, 9⟩ (List.mem_append_left _ (List.mem_append_left _ (List.mem_cons_self ..))))]; simpa using hj
   have hva2 : SlT va2 ((zM c.v k) ++ [Lib.itoa (jJ c.v.maj c.v.min c.v.pat k)]) oa2 := hva0.to (by rw [List.length_append]; rfl) (by unfold gI; rw [List.map_append])
   exact Zv (va2) (yC (y7 (zJ (zG (Zu (k := .i64) (((k + 1 : Nat) : Int)) (IntWalk.i64_in _ Om) (Zv (YI ((k + 1 : Nat) : Int)) (yC (jV (L' := ⟨g1, dX c.v, 3⟩ :: ⟨b1, (coV c).cells, 142⟩ :: oa2) (fun w hO => own_dropP hO) (x9 (m' := c.parts.toNat - (k + 1)) Om ⟨k + 1, va2, oa2, _, ⟨by omega, by rw [nums_next c.v Om]; exact hva2⟩, rfl, ZU, rfl⟩)))))))))
  have hkq : k = c.parts.toNat := by omega
  have hvk : SlT va (zM c.v c.parts.toNat) oa := hkq ▸ hrel.2
  refine Zh h2 (ZN (zH (Zf (jZ (yV (yQ (yR (zJ (zH (zH ?_))))))))))
  refine zG (Zv (Zp b1 0) (Zl 1 ⟨b1, (coV c).cells, 142⟩ (off := 0) (YI c.op) ?_))
  by_cases h3 : (c.op : Int) = 9
  ·refine Zg h3 (ZY (zG (Zv (va) (s_lit 9 #[.string ⟨#[42]⟩] Kr rfl (fun _ => Kr) (fun b2 => ?_)))))
   obtain ⟨i0, z0, e1, e2, e3, e4, e5⟩ := pU
   have hlk : (zM c.v c.parts.toNat).length ≤ 3 := by have := dE c.v c.parts.toNat; omega
   refine zS (L' := [⟨b2, #[.string ⟨#[42]⟩], 9⟩, ⟨g1, dX c.v, 3⟩, ⟨b1, (coV c).cells, 142⟩] ++ oa ++ []) (List.append_nil _).symm (dA (sz := 1) Kr rfl Tryz.underlying58 e1 e2 e3 e4 Kr hvk (a := ⟨b2, 0, none⟩) (m := 1) (c := 1) (news := gI [[42]]) Kr rfl (fun w hO j u hj => ?_) (str_cells _) (by unfold maxLen; omega) (by rw [e5]; omega) (fun va2 oa2 hva0 => ?_))
   ·rw [x3, cell_of_row w b2 (0 + j) (gI [[42]]).toArray 9 _ (hO.held ⟨b2, (gI [[42]]).toArray, 9⟩ (List.mem_append_left _ (List.mem_append_left _ (List.mem_cons_self ..))))]; simpa using hj
   have hva2 : SlT va2 ((zM c.v c.parts.toNat) ++ [[42]]) oa2 := hva0.to (by rw [List.length_append]; rfl) (by unfold gI; rw [List.map_append])
   refine Zv (va2) (yC (jV (L' := ⟨g1, dX c.v, 3⟩ :: ⟨b1, (coV c).cells, 142⟩ :: oa2) (fun w hO => own_dropP hO) (zJ (ZO (Zv (Zp b1 0) (Zl 1 ⟨b1, (coV c).cells, 142⟩ (off := 0) (YI c.op) (Zc (k := 244) (args := #[YI c.op]) (.string (mkS (zN c.op))) (fun w _ => csign_any c.op w) (Zv (va2) (Zc (k := 123) (args := #[va2, .int .u8 46]) (.string (mkS (zD 46 (zM c.v c.parts.toNat ++ [[42]])))) (fun w hO => wY va2 _ 46 w (SlT.readsT hva2 hO (fun x hx => by simp [hx])) (Nat.le_trans (bK hcv _) (by decide)) (by rw [List.length_append]; have := dE c.v c.parts.toNat; simp; omega) star_ne) (yB (.string (mkS ((zN c.op) ++ (zD 46 (zM c.v c.parts.toNat ++ [[42]]))))) Kr (kY (a := (zN c.op)) (b := (zD 46 (zM c.v c.parts.toNat ++ [[42]]))) rfl Kr Kr (by have q1 := bL c.op; have q2 := vF hcv c.parts.toNat; have q4 := bK hcv c.parts.toNat; have q3 := hc.1; first | omega | (simp only [List.length_append, List.length_cons, List.length_nil]; omega))) ?_))))))))))
   refine Zv (.string (mkS ((zN c.op) ++ (zD 46 (zM c.v c.parts.toNat ++ [[42]]))))) (ZN (zH (ZO (Zv (Zp b1 2) (Zv (Zp b1 5) (Zl 1 ⟨b1, (coV c).cells, 142⟩ (off := 5) (.string (mkS c.v.pre)) (yB Z5 Kr (kX (a := c.v.pre) (b := ([])) rfl Kr Kr (decide_eq_true (star_pre hcm h3))) (yC (zJ ?_)))))))))
   exact Zf (ZB (ZO (Zv (.string (mkS ((zN c.op) ++ (zD 46 (zM c.v c.parts.toNat ++ [[42]]))))) (Zv (.string (mkS ((zN c.op) ++ (zD 46 (zM c.v c.parts.toNat ++ [[42]]))))) (ZN (zL (ZF (.string (mkS ((zN c.op) ++ (zD 46 (zM c.v c.parts.toNat ++ [[42]]))))) Tryz.results215 (fun w hO => ⟨by rw [qF hcm, ← star_text2 h3], hO.below⟩))))))))
  refine Zh h3 (ZX (ZB (ZO (Zv (Zp b1 0) (Zl 1 ⟨b1, (coV c).cells, 142⟩ (off := 0) (YI c.op) (Zc (k := 244) (args := #[YI c.op]) (.string (mkS (zN c.op))) (fun w _ => csign_any c.op w) (Zv (va) ?_)))))))
  refine Zc (k := 123) (args := #[va, .int .u8 46]) (.string (mkS (zD 46 (zM c.v c.parts.toNat)))) (fun w hO => wY va _ 46 w (SlT.readsT hvk hO (fun x hx => by simp [hx])) (Nat.le_trans (vF hcv _) (by decide)) (Nat.le_trans (dE _ _) (by decide)) (nums_ne hcm h3)) (yB (.string (mkS ((zN c.op) ++ (zD 46 (zM c.v c.parts.toNat))))) Kr (kY (a := (zN c.op)) (b := (zD 46 (zM c.v c.parts.toNat))) rfl Kr Kr (by have q1 := bL c.op; have q2 := vF hcv c.parts.toNat; have q4 := bK hcv c.parts.toNat; have q3 := hc.1; first | omega | (simp only [List.length_append, List.length_cons, List.length_nil]; omega))) (Zv (.string (mkS ((zN c.op) ++ (zD 46 (zM c.v c.parts.toNat))))) (ZN (zH (ZO (Zv (Zp b1 2) (Zv (Zp b1 5) (Zl 1 ⟨b1, (coV c).cells, 142⟩ (off := 5) (.string (mkS c.v.pre)) ?_))))))))
  by_cases h4 : (c.v.pre : List UInt8) = []
  ·refine yB Z5 Kr (kX (a := c.v.pre) (b := ([])) rfl Kr Kr (decide_eq_true (h4))) (ZX (ZB (ZO (Zv (.string (mkS ((zN c.op) ++ (zD 46 (zM c.v c.parts.toNat))))) (Zv (.string (mkS ((zN c.op) ++ (zD 46 (zM c.v c.parts.toNat))))) (yC (zJ ?_)))))))
   exact zL (ZF (.string (mkS ((zN c.op) ++ (zD 46 (zM c.v c.parts.toNat))))) Tryz.results215 (fun w hO => ⟨by rw [qF hcm, ← text_bare h3 h4], hO.below⟩))
  refine yB Z4 Kr (kX (a := c.v.pre) (b := ([])) rfl Kr Kr (decide_eq_false (h4))) (ZY (zG (Zv (.string (mkS ((zN c.op) ++ (zD 46 (zM c.v c.parts.toNat))))) (Zv (Zp b1 2) (Zv (Zp b1 5) (Zl 1 ⟨b1, (coV c).cells, 142⟩ (off := 5) (.string (mkS c.v.pre)) (yB (.string (mkS ([45] ++ c.v.pre))) Kr (kY (a := [45]) (b := c.v.pre) rfl Kr Kr (by have q1 := bL c.op; have q2 := vF hcv c.parts.toNat; have q4 := bK hcv c.parts.toNat; have q3 := hc.1; first | omega | (simp only [List.length_append, List.length_cons, List.length_nil]; omega))) (yB (.string (mkS (((zN c.op) ++ (zD 46 (zM c.v c.parts.toNat))) ++ ([45] ++ c.v.pre)))) Kr (kY (a := ((zN c.op) ++ (zD 46 (zM c.v c.parts.toNat)))) (b := ([45] ++ c.v.pre)) rfl Kr Kr (by have q1 := bL c.op; have q2 := vF hcv c.parts.toNat; have q4 := bK hcv c.parts.toNat; have q3 := hc.1; first | omega | (simp only [List.length_append, List.length_cons, List.length_nil]; omega))) (Zv (.string (mkS (((zN c.op) ++ (zD 46 (zM c.v c.parts.toNat))) ++ ([45] ++ c.v.pre)))) ?_)))))))))
  exact ZR (Zv (.string (mkS (((zN c.op) ++ (zD 46 (zM c.v c.parts.toNat))) ++ ([45] ++ c.v.pre)))) (Zv (.string (mkS (((zN c.op) ++ (zD 46 (zM c.v c.parts.toNat))) ++ ([45] ++ c.v.pre)))) (ZN (zL (ZF (.string (mkS (((zN c.op) ++ (zD 46 (zM c.v c.parts.toNat))) ++ ([45] ++ c.v.pre)))) Tryz.results215 (fun w hO => ⟨by rw [qF hcm, ← text_pre2 h3 h4], hO.below⟩))))))
 | false =>
  refine Zv Z4 (ZY (ZO (Zv (.string ⟨#[]⟩) (ZN (zL (z7 (ZF (.string ⟨#[]⟩) Tryz.results215 ?_)))))))
  exact fun w hO => ⟨by unfold Co.print; simp [h1]; rfl, hO.below⟩
end
section
theorem last_pl {l : List (List UInt8)} (h : 1 ≤ l.length) {x : List UInt8} (hx : tg l (l.length - 1) = x) : l.getLast? = some x := by
 rw [List.getLast?_eq_getElem?, List.getElem?_eq_getElem (by omega), tgi_get (by omega), hx]
theorem guess_is {s r ah tl : List UInt8} {op : Int} {pl : List (List UInt8)} (h1 : (sgo s 8).1 = op) (h2 : (sgo s 8).2 = r) (h3 : (z8 45 r).1 = ah) (h4 : (z8 45 r).2.1 = tl) (h5 : dB 2 ah = pl) {x : List UInt8} (hx : tg pl (pl.length - 1) = x) (hl : 1 ≤ pl.length) :
  jM s = if x = [42] then (⟨9, ((pl.length : Int) - 1), ⟨zK (tg pl 0), zK (tg pl 1), zK (tg pl 2), tl, []⟩⟩ : Co) else (⟨op, (pl.length : Int), ⟨zK (tg pl 0), zK (tg pl 1), zK (tg pl 2), tl, []⟩⟩ : Co) := by
 have hp : bY s = pl := by unfold bY; rw [h2, h3, h5]
 unfold jM starP
 rw [hp, h2, h4, h1, last_pl hl hx]
 by_cases q : x = [42]
 ·rw [if_pos q, q, decide_eq_true rfl]; rfl
 ·rw [if_neg q, decide_eq_false (fun e => q (Option.some.inj e))]; rfl
theorem dT {s pt : List UInt8} {c : Co} (hg : jM s = c) (hp : c.print = pt) (h : pt = s ∨ pt = [94] ++ s) : pcV s = c ∧ pcE s = 0 := by
 have h2 := prog_some (s := s) (by rw [hg, hp]; exact h)
 rw [hg] at h2
 exact pc_some h2
theorem fit_no {s pt : List UInt8} {c : Co} (hg : jM s = c) (hp : c.print = pt) (h1 : ¬ pt = s) (h2 : ¬ pt = [94] ++ s) : pcV s = ⟨0, 0, Ver.zero⟩ ∧ pcE s = 6 :=
 pc_none (prog_none (by rw [hg, hp]; exact fun q => q.elim h1 h2))
theorem cParse_any (s : List UInt8) (W : World) (hs : s.length ≤ 1000000) (ht : HasTab W) : YC 181 #[.string (mkS s)] W (YR (.tuple #[coV (pcV s), YI (pcE s)]) W) := by
 obtain ⟨op, hop⟩ : ∃ x, (sgo s 8).1 = x := ⟨_, rfl⟩
 obtain ⟨r, hr⟩ : ∃ x, (sgo s 8).2 = x := ⟨_, rfl⟩
 obtain ⟨ah, hah⟩ : ∃ x, (z8 45 r).1 = x := ⟨_, rfl⟩
 obtain ⟨tl, htl⟩ : ∃ x, (z8 45 r).2.1 = x := ⟨_, rfl⟩
 obtain ⟨fd, hfd⟩ : ∃ x, (z8 45 r).2.2 = x := ⟨_, rfl⟩
 obtain ⟨pl, hpl⟩ : ∃ x, dB 2 ah = x := ⟨_, rfl⟩
 have hrl : r.length ≤ s.length := hr ▸ sgo_le s 8
 have hal : ah.length + tl.length ≤ r.length := by rw [← hah, ← htl]; exact dO 45 r
 obtain ⟨hp1, hp3⟩ : 1 ≤ pl.length ∧ pl.length ≤ 3 := hpl ▸ pcsK_len 2 ah
 have htp : ∀ x ∈ pl, x.length ≤ 1000000 := fun x hx => by rw [← hpl] at hx; exact Nat.le_trans (pcsK_mem 2 ah x hx) Om
 have hgu := fun {x} (hx : tg pl (pl.length - 1) = x) => guess_is hop hr hah htl hpl hx Om
 have hcs : ∀ w, YC 214 #[.string (mkS s)] w (YR (.tuple #[YI op, .string (mkS r)]) w) := fun w => by have := ccut_any s w hs; rw [hop, hr] at this; exact this
 have hct : ∀ w, YC 112 #[.string (mkS r), .string ⟨#[45]⟩] w (YR (.tuple #[.string (mkS ah), .string (mkS tl), .bool fd]) w) := fun w => ret_v (by rw [hah, htl, hfd]) (dN r 45 w Om)
 have hsp : ∀ w, YC 141 #[.string (mkS ah), .string ⟨#[46]⟩, YI 3] w fun e w' => ∃ v' ob', e = .returned v' ∧ SlT v' pl ob' ∧ Own [] w w' ob' := fun w => by have := splitn_any ah w Om; rw [hpl] at this; exact this
 have hnu : ∀ x ∈ pl, ∀ w, YC 114 #[.string (mkS x)] w (YR (.tuple #[YI (zK x), .bool (j0 x)]) w) := fun x hx w => nB x _ rfl w (Nat.le_trans (htp x hx) (by decide))
 have hcl : ∀ w, YC 42 #[.string (mkS tl)] w (YR (.string (mkS tl)) w) := fun w => nL (mkS tl) w (by rw [yD]; omega)
 have hpr : ∀ (c : Co) w, c.short → Below W.heap.size W w → YC 215 #[coV c] w (YR (.string (mkS c.print)) w) := fun c w hc hb => cPrint_any c w hc (ht.on hb)
 have hsh : ∀ a b c d e, (⟨a, b, ⟨c, d, e, tl, []⟩⟩ : Co).short := fun a b c d e => ⟨by show tl.length ≤ _; omega, Nat.zero_le _⟩
 refine zQ Tryz.func181 (zV [] fun b2 => zE (v := .tuple #[YI op, .string (mkS r)]) [] (fun w _ => hcs w) (zE (v := .tuple #[.string (mkS ah), .string (mkS tl), .bool fd]) [] (fun w _ => hct w) (zV [] fun b8 => qP (R := fun v ob => SlT v pl ob) [] (fun w _ => hsp w) ?_)))
 rintro v ob hsl
 obtain ⟨A1, c1, rfl⟩ := hsl.form
 obtain ⟨g1, cur1, rfl, rfl, hc1, hm1, hz1, ht1⟩ := Sl.block hsl Om
 rw [x1] at ht1
 have hrd : ∀ i x, i < pl.length → tg pl i = x → yO Tryz.prog 9 cur1 (i * 1 + 0) = some (.string (mkS x)) := fun i x hi hx => read_part zZ ht1 i 0 hi (by decide) _ (by rw [tgi_get hi, hx]; kernel_rfl)
 clear hcs hct hsp ht1 hsl
 obtain ⟨p0, rfl⟩ | ⟨p0, p1, rfl⟩ | ⟨p0, p1, p2, rfl⟩ : (∃ p0, pl = [p0]) ∨ (∃ p0 p1, pl = [p0, p1]) ∨ ∃ p0 p1 p2, pl = [p0, p1, p2] := by
  match pl, hp1, hp3 with
  | [p0], _, _ => exact .inl ⟨p0, rfl⟩
  | [p0, p1], _, _ => exact .inr (.inl ⟨p0, p1, rfl⟩)
  | [p0, p1, p2], _, _ => exact .inr (.inr ⟨p0, p1, p2, rfl⟩)
 ·refine jN 3 [] (x_ldk 33 [] 2 cur1 (0 * 1 + 0) 9 (.string (mkS p0)) (hrd 0 _ (by simp) rfl) (zE (v := .tuple #[YI (zK p0), .bool (j0 p0)]) [] (fun w _ => hnu p0 (by simp) w) (zV [0] fun b12 => x_ldk 51 [0] 3 cur1 (0 * 1 + 0) 9 (.string (mkS p0)) (hrd 0 _ (by simp) rfl) (qH 52 [] p0 [42] (fun h3 => ?_) (fun h3 => ?_)))))
  ·obtain ⟨pt, hpt⟩ : ∃ x, Co.print ⟨9, 0, ⟨zK p0, 0, 0, tl, []⟩⟩ = x := ⟨_, rfl⟩
   have hp := fun w hb => hpt ▸ hpr ⟨9, 0, ⟨zK p0, 0, 0, tl, []⟩⟩ w (hsh _ _ _ _ _) hb
   refine zE (v := .string (mkS pt)) [0, 0, 0, 1, 1, 1, 0, 0] (fun w hO => hp w hO.below) (wI 71 [] pt s (fun h4 => ?_) (fun h4 => bF 75 [] [94] s (wI 76 [] pt ([94] ++ s) (fun h5 => ?_) (fun h5 => ?_))))
   ·exact zE (v := .string (mkS tl)) [] (fun w _ => hcl w) (gA [0, 0, 2] 2 (coV (⟨9, 0, ⟨zK p0, 0, 0, tl, []⟩⟩ : Co)) (YI 0) fun w hO => ⟨by have q := dT (c := ⟨9, 0, ⟨zK p0, 0, 0, tl, []⟩⟩) ((hgu (x := p0) rfl).trans (if_pos h3)) hpt (.inl h4); rw [q.1, q.2], hO.below⟩)
   ·exact zE (v := .string (mkS tl)) [] (fun w _ => hcl w) (gA [0, 0, 2] 2 (coV (⟨9, 0, ⟨zK p0, 0, 0, tl, []⟩⟩ : Co)) (YI 0) fun w hO => ⟨by have q := dT (c := ⟨9, 0, ⟨zK p0, 0, 0, tl, []⟩⟩) ((hgu (x := p0) rfl).trans (if_pos h3)) hpt (.inr h5); rw [q.1, q.2], hO.below⟩)
   ·exact gA [2] 2 (coV ⟨0, 0, Ver.zero⟩) (YI 6) fun w hO => ⟨by have q := fit_no (c := ⟨9, 0, ⟨zK p0, 0, 0, tl, []⟩⟩) ((hgu (x := p0) rfl).trans (if_pos h3)) hpt h4 h5; rw [q.1, q.2], hO.below⟩
  obtain ⟨pt, hpt⟩ : ∃ x, Co.print ⟨op, 1, ⟨zK p0, 0, 0, tl, []⟩⟩ = x := ⟨_, rfl⟩
  have hp := fun w hb => hpt ▸ hpr ⟨op, 1, ⟨zK p0, 0, 0, tl, []⟩⟩ w (hsh _ _ _ _ _) hb
  refine zE (v := .string (mkS pt)) [1, 1, 1, 0, 0] (fun w hO => hp w hO.below) (wI 71 [] pt s (fun h4 => ?_) (fun h4 => bF 75 [] [94] s (wI 76 [] pt ([94] ++ s) (fun h5 => ?_) (fun h5 => ?_))))
  ·exact zE (v := .string (mkS tl)) [] (fun w _ => hcl w) (gA [0, 0, 2] 2 (coV (⟨op, 1, ⟨zK p0, 0, 0, tl, []⟩⟩ : Co)) (YI 0) fun w hO => ⟨by have q := dT (c := ⟨op, 1, ⟨zK p0, 0, 0, tl, []⟩⟩) ((hgu (x := p0) rfl).trans (if_neg h3)) hpt (.inl h4); rw [q.1, q.2], hO.below⟩)
  ·exact zE (v := .string (mkS tl)) [] (fun w _ => hcl w) (gA [0, 0, 2] 2 (coV (⟨op, 1, ⟨zK p0, 0, 0, tl, []⟩⟩ : Co)) (YI 0) fun w hO => ⟨by have q := dT (c := ⟨op, 1, ⟨zK p0, 0, 0, tl, []⟩⟩) ((hgu (x := p0) rfl).trans (if_neg h3)) hpt (.inr h5); rw [q.1, q.2], hO.below⟩)
  ·exact gA [2] 2 (coV ⟨0, 0, Ver.zero⟩) (YI 6) fun w hO => ⟨by have q := fit_no (c := ⟨op, 1, ⟨zK p0, 0, 0, tl, []⟩⟩) ((hgu (x := p0) rfl).trans (if_neg h3)) hpt h4 h5; rw [q.1, q.2], hO.below⟩
 ·refine jN 3 [] (x_ldk 33 [] 2 cur1 (0 * 1 + 0) 9 (.string (mkS p0)) (hrd 0 _ (by simp) rfl) (zE (v := .tuple #[YI (zK p0), .bool (j0 p0)]) [] (fun w _ => hnu p0 (by simp) w) (x_ldk 33 [0] 2 cur1 (1 * 1 + 0) 9 (.string (mkS p1)) (hrd 1 _ (by simp) rfl) (zE (v := .tuple #[YI (zK p1), .bool (j0 p1)]) [] (fun w _ => hnu p1 (by simp) w) (zV [0] fun b12 => x_ldk 51 [0] 3 cur1 (1 * 1 + 0) 9 (.string (mkS p1)) (hrd 1 _ (by simp) rfl) (qH 52 [] p1 [42] (fun h3 => ?_) (fun h3 => ?_)))))))
  ·obtain ⟨pt, hpt⟩ : ∃ x, Co.print ⟨9, 1, ⟨zK p0, zK p1, 0, tl, []⟩⟩ = x := ⟨_, rfl⟩
   have hp := fun w hb => hpt ▸ hpr ⟨9, 1, ⟨zK p0, zK p1, 0, tl, []⟩⟩ w (hsh _ _ _ _ _) hb
   refine zE (v := .string (mkS pt)) [0, 0, 0, 1, 1, 1, 0, 0] (fun w hO => hp w hO.below) (wI 71 [] pt s (fun h4 => ?_) (fun h4 => bF 75 [] [94] s (wI 76 [] pt ([94] ++ s) (fun h5 => ?_) (fun h5 => ?_))))
   ·exact zE (v := .string (mkS tl)) [] (fun w _ => hcl w) (gA [0, 0, 2] 2 (coV (⟨9, 1, ⟨zK p0, zK p1, 0, tl, []⟩⟩ : Co)) (YI 0) fun w hO => ⟨by have q := dT (c := ⟨9, 1, ⟨zK p0, zK p1, 0, tl, []⟩⟩) ((hgu (x := p1) rfl).trans (if_pos h3)) hpt (.inl h4); rw [q.1, q.2], hO.below⟩)
   ·exact zE (v := .string (mkS tl)) [] (fun w _ => hcl w) (gA [0, 0, 2] 2 (coV (⟨9, 1, ⟨zK p0, zK p1, 0, tl, []⟩⟩ : Co)) (YI 0) fun w hO => ⟨by have q := dT (c := ⟨9, 1, ⟨zK p0, zK p1, 0, tl, []⟩⟩) ((hgu (x := p1) rfl).trans (if_pos h3)) hpt (.inr h5); rw [q.1, q.2], hO.below⟩)
   ·exact gA [2] 2 (coV ⟨0, 0, Ver.zero⟩) (YI 6) fun w hO => ⟨by have q := fit_no (c := ⟨9, 1, ⟨zK p0, zK p1, 0, tl, []⟩⟩) ((hgu (x := p1) rfl).trans (if_pos h3)) hpt h4 h5; rw [q.1, q.2], hO.below⟩
  obtain ⟨pt, hpt⟩ : ∃ x, Co.print ⟨op, 2, ⟨zK p0, zK p1, 0, tl, []⟩⟩ = x := ⟨_, rfl⟩
  have hp := fun w hb => hpt ▸ hpr ⟨op, 2, ⟨zK p0, zK p1, 0, tl, []⟩⟩ w (hsh _ _ _ _ _) hb
  refine zE (v := .string (mkS pt)) [1, 1, 1, 0, 0] (fun w hO => hp w hO.below) (wI 71 [] pt s (fun h4 => ?_) (fun h4 => bF 75 [] [94] s (wI 76 [] pt ([94] ++ s) (fun h5 => ?_) (fun h5 => ?_))))
  ·exact zE (v := .string (mkS tl)) [] (fun w _ => hcl w) (gA [0, 0, 2] 2 (coV (⟨op, 2, ⟨zK p0, zK p1, 0, tl, []⟩⟩ : Co)) (YI 0) fun w hO => ⟨by have q := dT (c := ⟨op, 2, ⟨zK p0, zK p1, 0, tl, []⟩⟩) ((hgu (x := p1) rfl).trans (if_neg h3)) hpt (.inl h4); rw [q.1, q.2], hO.below⟩)
  ·exact zE (v := .string (mkS tl)) [] (fun w _ => hcl w) (gA [0, 0, 2] 2 (coV (⟨op, 2, ⟨zK p0, zK p1, 0, tl, []⟩⟩ : Co)) (YI 0) fun w hO => ⟨by have q := dT (c := ⟨op, 2, ⟨zK p0, zK p1, 0, tl, []⟩⟩) ((hgu (x := p1) rfl).trans (if_neg h3)) hpt (.inr h5); rw [q.1, q.2], hO.below⟩)
  ·exact gA [2] 2 (coV ⟨0, 0, Ver.zero⟩) (YI 6) fun w hO => ⟨by have q := fit_no (c := ⟨op, 2, ⟨zK p0, zK p1, 0, tl, []⟩⟩) ((hgu (x := p1) rfl).trans (if_neg h3)) hpt h4 h5; rw [q.1, q.2], hO.below⟩
 ·refine jN 3 [] (x_ldk 33 [] 2 cur1 (0 * 1 + 0) 9 (.string (mkS p0)) (hrd 0 _ (by simp) rfl) (zE (v := .tuple #[YI (zK p0), .bool (j0 p0)]) [] (fun w _ => hnu p0 (by simp) w) (x_ldk 33 [0] 2 cur1 (1 * 1 + 0) 9 (.string (mkS p1)) (hrd 1 _ (by simp) rfl) (zE (v := .tuple #[YI (zK p1), .bool (j0 p1)]) [] (fun w _ => hnu p1 (by simp) w) (x_ldk 33 [0] 2 cur1 (2 * 1 + 0) 9 (.string (mkS p2)) (hrd 2 _ (by simp) rfl) (zE (v := .tuple #[YI (zK p2), .bool (j0 p2)]) [] (fun w _ => hnu p2 (by simp) w) (zV [0] fun b12 => x_ldk 51 [0] 3 cur1 (2 * 1 + 0) 9 (.string (mkS p2)) (hrd 2 _ (by simp) rfl) (qH 52 [] p2 [42] (fun h3 => ?_) (fun h3 => ?_)))))))))
  ·obtain ⟨pt, hpt⟩ : ∃ x, Co.print ⟨9, 2, ⟨zK p0, zK p1, zK p2, tl, []⟩⟩ = x := ⟨_, rfl⟩
   have hp := fun w hb => hpt ▸ hpr ⟨9, 2, ⟨zK p0, zK p1, zK p2, tl, []⟩⟩ w (hsh _ _ _ _ _) hb
   refine zE (v := .string (mkS pt)) [0, 0, 0, 1, 1, 1, 0, 0] (fun w hO => hp w hO.below) (wI 71 [] pt s (fun h4 => ?_) (fun h4 => bF 75 [] [94] s (wI 76 [] pt ([94] ++ s) (fun h5 => ?_) (fun h5 => ?_))))
   ·exact zE (v := .string (mkS tl)) [] (fun w _ => hcl w) (gA [0, 0, 2] 2 (coV (⟨9, 2, ⟨zK p0, zK p1, zK p2, tl, []⟩⟩ : Co)) (YI 0) fun w hO => ⟨by have q := dT (c := ⟨9, 2, ⟨zK p0, zK p1, zK p2, tl, []⟩⟩) ((hgu (x := p2) rfl).trans (if_pos h3)) hpt (.inl h4); rw [q.1, q.2], hO.below⟩)
   ·exact zE (v := .string (mkS tl)) [] (fun w _ => hcl w) (gA [0, 0, 2] 2 (coV (⟨9, 2, ⟨zK p0, zK p1, zK p2, tl, []⟩⟩ : Co)) (YI 0) fun w hO => ⟨by have q := dT (c := ⟨9, 2, ⟨zK p0, zK p1, zK p2, tl, []⟩⟩) ((hgu (x := p2) rfl).trans (if_pos h3)) hpt (.inr h5); rw [q.1, q.2], hO.below⟩)
   ·exact gA [2] 2 (coV ⟨0, 0, Ver.zero⟩) (YI 6) fun w hO => ⟨by have q := fit_no (c := ⟨9, 2, ⟨zK p0, zK p1, zK p2, tl, []⟩⟩) ((hgu (x := p2) rfl).trans (if_pos h3)) hpt h4 h5; rw [q.1, q.2], hO.below⟩
  obtain ⟨pt, hpt⟩ : ∃ x, Co.print ⟨op, 3, ⟨zK p0, zK p1, zK p2, tl, []⟩⟩ = x := ⟨_, rfl⟩
  have hp := fun w hb => hpt ▸ hpr ⟨op, 3, ⟨zK p0, zK p1, zK p2, tl, []⟩⟩ w (hsh _ _ _ _ _) hb
  refine zE (v := .string (mkS pt)) [1, 1, 1, 0, 0] (fun w hO => hp w hO.below) (wI 71 [] pt s (fun h4 => ?_) (fun h4 => bF 75 [] [94] s (wI 76 [] pt ([94] ++ s) (fun h5 => ?_) (fun h5 => ?_))))
  ·exact zE (v := .string (mkS tl)) [] (fun w _ => hcl w) (gA [0, 0, 2] 2 (coV (⟨op, 3, ⟨zK p0, zK p1, zK p2, tl, []⟩⟩ : Co)) (YI 0) fun w hO => ⟨by have q := dT (c := ⟨op, 3, ⟨zK p0, zK p1, zK p2, tl, []⟩⟩) ((hgu (x := p2) rfl).trans (if_neg h3)) hpt (.inl h4); rw [q.1, q.2], hO.below⟩)
  ·exact zE (v := .string (mkS tl)) [] (fun w _ => hcl w) (gA [0, 0, 2] 2 (coV (⟨op, 3, ⟨zK p0, zK p1, zK p2, tl, []⟩⟩ : Co)) (YI 0) fun w hO => ⟨by have q := dT (c := ⟨op, 3, ⟨zK p0, zK p1, zK p2, tl, []⟩⟩) ((hgu (x := p2) rfl).trans (if_neg h3)) hpt (.inr h5); rw [q.1, q.2], hO.below⟩)
  ·exact gA [2] 2 (coV ⟨0, 0, Ver.zero⟩) (YI 6) fun w hO => ⟨by have q := fit_no (c := ⟨op, 3, ⟨zK p0, zK p1, zK p2, tl, []⟩⟩) ((hgu (x := p2) rfl).trans (if_neg h3)) hpt h4 h5; rw [q.1, q.2], hO.below⟩
end
section
theorem textR_few {xs : List Al} (h1 : xs.length ≤ 6) (h : ∀ x ∈ xs, fewA x.l = true) : mA (gU xs) = vU (gU xs) := by
 unfold mA
 cases hf : fewR (gU xs) with
 | true => rfl
 | false =>
  cases xs with
  | nil => rfl
  | cons x xs => rw [few_all ⟨by simp, h1⟩ h] at hf; cases hf
theorem textR_bad {xs : List Al} {x : Al} (hm : x ∈ xs) (h : fewA x.l = false) : mA (gU xs) = [] := textR_nil.2 (few_one hm h)
theorem textR_big {xs : List Al} (h : 6 < xs.length) : mA (gU xs) = [] := textR_nil.2 (few_len Om)
theorem own_tx1 {M : List Nat} {W w : World} {x y z : Blk} {A B : List Blk} (h : Own M W w ([x, y, z] ++ A ++ B)) : Own M W w (z :: (A ++ B)) := by
 rw [List.append_assoc] at h
 exact Own.sub [x, y] h
theorem own_tx2 {M : List Nat} {W w : World} {x z : Blk} {A B : List Blk} (h : Own M W w ([x, z] ++ A ++ B)) : Own M W w (z :: A) := by
 exact (Own.sub [x] (by simpa using h : Own M W w (x :: (z :: A ++ B)))).sublist (by simp)
theorem own_tx3 {M : List Nat} {W w : World} {x y : Blk} {A B : List Blk} (h : Own M W w (x :: y :: (A ++ B))) : Own M W w (x :: y :: (B ++ A)) :=
 h.perm (List.Perm.cons x (List.Perm.cons y List.perm_append_comm))
theorem alts_le {l : List (List Co)} {i : Nat} (h : ∀ a ∈ l.take i, fewA a = true) : ∀ t ∈ (l.take i).map xP, t.length ≤ 1000000 := fun t ht => by
 obtain ⟨a, ha, rfl⟩ := List.mem_map.1 ht
 obtain ⟨h1, h2⟩ := fewA.facts (h a ha)
 unfold xP
 rw [joinB_len, List.length_map]
 have : ∀ (l : List Co), (∀ c ∈ l, c.may = true) → sumN ((l.map Co.print).map (·.length)) ≤ l.length * 300 := by
  intro l hl
  induction l with
  | nil => simp [sumN]
  | cons c l ih =>
   have h3 := co_len (hl c (List.mem_cons_self ..))
   have h4 := ih fun d hd => hl d (List.mem_cons_of_mem _ hd)
   rw [List.map_cons, List.map_cons, sumN, List.length_cons]; omega
 have := this a h2
 have h5 : (a.length - 1) * ([44, 32] : List UInt8).length ≤ 5 * 2 := Nat.mul_le_mul Om (by simp)
 omega
theorem gtext_any (A : Option Addr) (cap : Nat) (xs : List Al) (W : World) (hv : RgIn W W.heap.size A xs) (ht : HasLib W) : YC 183 #[.agg #[.slice A xs.length cap]] W (YR (.string (mkS (mA (gU xs)))) W) := by
 have hn := hv.n
 refine Z2 (n := 51) Tryz.func183 rfl (ZO (Zb (.agg #[.slice A xs.length cap]) (fun b1 => Zv (.string ⟨#[]⟩) (ZN (zH (ZO (Zv (Zp b1 0) (Zl 0 ⟨b1, #[.slice A xs.length cap], 185⟩ (off := 0) (.slice A xs.length cap) ?_))))))))
 refine Zv (YI (xs.length : Int)) ?_
 by_cases h1 : (6 : Int) < (xs.length : Int)
 ·refine Zg h1 (ZY (ZO (Zv (.string ⟨#[]⟩) (ZN (zL (z7 (ZF (.string ⟨#[]⟩) Tryz.results183 ?_)))))))
  exact fun w hO => ⟨by rw [textR_big Om]; rfl, hO.below⟩
 refine Zh h1 (ZX (ZB (ZO (Zv (.slice none 0 0) (ZN (zH ?_))))))
 refine ZO (Zv (Zp b1 0) (Zl 0 ⟨b1, #[.slice A xs.length cap], 185⟩ (off := 0) (.slice A xs.length cap) (Zv (YI (xs.length : Int)) (Zv (YI 0) (ZN (yN (jI (L' := ⟨b1, #[.slice A xs.length cap], 185⟩ :: []) rfl (jY (fun L f m => ∃ (i : Nat) (U : Option Addr) (n : Nat) (cu : Nat) (ob : List Blk) (j : Nat → Value), (i ≤ xs.length ∧ (∀ x ∈ xs.take i, fewA x.l = true) ∧ SlT (.slice U n cu) (((gU xs).take i).map xP) ob) ∧ L = ⟨b1, #[.slice A xs.length cap], 185⟩ :: ob ∧ f = jR j [(1, Zp b1 0), (3, .slice U n cu), (14, .slice A xs.length cap), (15, YI (xs.length : Int)), (16, YI (i : Int))] ∧ m = xs.length - i) (xs.length - 0) ⟨0, none, 0, 0, [], _, ⟨Nat.zero_le _, by simp, Sl.nil _ _⟩, rfl, ZU, rfl⟩ ?_))))))))
 rintro L f m ⟨i, U, n, cu, ob, j, hrel, rfl, rfl, rfl⟩
 obtain ⟨hil, hff, hT⟩ := hrel
 refine zH (zG ?_)
 by_cases h2 : (i : Int) < (xs.length : Int)
 ·have hi : i < xs.length := by omega
  obtain ⟨bp, off, hA, hlt, hcell⟩ := hv.top Om
  obtain ⟨x, hx⟩ : ∃ x, xs[i] = x := ⟨_, rfl⟩
  have hxm : x ∈ xs := hx ▸ List.getElem_mem hi
  have hxn := hv.m x hxm
  have hxr : (gU xs)[i]'(by rw [vV]; exact hi) = x.l := rgOf_get hi hx
  refine Zg h2 (ZN (zH (Zt (ZB (zH (yN (ZO (yB (Zp bp (off + i * 1)) Kr (ZA (b := bp) (off := off) (c := cap) (n := xs.length) (k := .i64) (j := (i : Int)) (e := 209) (sz := 1) hA) ?_))))))))
  refine Zo (.slice x.A x.l.length x.cap) (a := ⟨bp, off + i * 1, none⟩) (fun w hO => nJ alC_len (fun j u h => (hO.below.cell (p := ⟨bp, off + j, none⟩) hlt).trans (hcell j u h)) i 0 hi Om _ (by rw [hx]; kernel_rfl)) (Zv (.slice x.A x.l.length x.cap) (ZN (zH (ZO (Zv (.slice x.A x.l.length x.cap) (Zv (YI (x.l.length : Int)) ?_))))))
  by_cases h3 : (x.l.length : Int) = 0
  ·refine Zg h3 (Zv Z4 (Zk (Zk (Zk (Zv Z4 (ZY (ZO (Zv (.string ⟨#[]⟩) ?_))))))))
   exact ZN (zL (z7 (zA (z7 (zR (zA (z7 (ZF (.string ⟨#[]⟩) Tryz.results183 (fun w hO => ⟨by rw [textR_bad hxm (fewA_len Om)]; rfl, hO.below⟩)))))))))
  refine Zh h3 (Zv Z5 (Zv (.slice x.A x.l.length x.cap) (Zv (YI (x.l.length : Int)) ?_)))
  by_cases h4 : (6 : Int) < (x.l.length : Int)
  ·refine Zg h4 (Zv Z4 (ZY (ZO (Zv (.string ⟨#[]⟩) (ZN (zL (z7 ?_)))))))
   exact zA (z7 (zR (zA (z7 (ZF (.string ⟨#[]⟩) Tryz.results183 (fun w hO => ⟨by rw [textR_bad hxm (fewA_len Om)]; rfl, hO.below⟩))))))
  refine Zh h4 (Zv Z5 (ZX (ZB (ZO (Zv (.slice none 0 0) (yC (zJ ?_)))))))
  refine zH (ZO (Zv (.slice x.A x.l.length x.cap) (Zv (YI (x.l.length : Int)) (Zv (YI 0) (ZN (yN (jI (L' := ⟨b1, #[.slice A xs.length cap], 185⟩ :: ([] ++ ob)) rfl (jY (fun L f m => ∃ (k : Nat) (V : Option Addr) (np : Nat) (cv : Nat) (oa : List Blk) (j : Nat → Value), (k ≤ x.l.length ∧ (∀ c ∈ x.l.take k, c.may = true) ∧ SlT (.slice V np cv) ((x.l.take k).map Co.print) oa) ∧ L = ⟨b1, #[.slice A xs.length cap], 185⟩ :: (oa ++ ob) ∧ f = jR j [(1, Zp b1 0), (3, .slice U n cu), (14, .slice A xs.length cap), (15, YI (xs.length : Int)), (16, YI (i : Int)), (6, .slice V np cv), (28, .slice x.A x.l.length x.cap), (29, YI (x.l.length : Int)), (30, YI (k : Int))] ∧ m = x.l.length - k) (x.l.length - 0) ⟨0, none, 0, 0, [], _, ⟨Nat.zero_le _, by simp, Sl.nil _ _⟩, rfl, ZU, rfl⟩ ?_))))))))
  rintro L f m ⟨k, V, np, cv, oa, j, hrel, rfl, rfl, rfl⟩
  obtain ⟨hkl, hcf, hP⟩ := hrel
  refine zH (zG ?_)
  by_cases h5 : (k : Int) < (x.l.length : Int)
  ·have hk : k < x.l.length := by omega
   obtain ⟨bq, off2, hA2, hlt2, hcell2⟩ := hv.each x hxm Om
   obtain ⟨c, hc⟩ : ∃ c, x.l[k] = c := ⟨_, rfl⟩
   have hcm : c ∈ x.l := hc ▸ List.getElem_mem hk
   have hcS : c.short := hv.short x hxm c hcm
   refine Zg h5 (ZN (zH (Zt (ZB (zH (yN (ZO (yB (Zp bq (off2 + k * 7)) Kr (ZA (b := bq) (off := off2) (c := x.cap) (n := x.l.length) (k := .i64) (j := (k : Int)) (e := 142) (sz := 7) hA2) ?_))))))))
   refine Zo (coV c) (a := ⟨bq, off2 + k * 7, none⟩) (fun w hO => nJ coC_len (fun j u h => (hO.below.cell (p := ⟨bq, off2 + j, none⟩) hlt2).trans (hcell2 j u h)) k 0 hk Om _ (by rw [hc]; kernel_rfl)) (Za (.agg Z0) (fun b2 => Zs 0 ⟨b2, Z0, 142⟩ (off := 0) (coV c) (ZN (zH (ZO (Zl 0 ⟨b2, (coV c).cells, 142⟩ (off := 0) (coV c) (Zc (k := 223) (args := #[coV c]) (.bool c.may) (fun w _ => cMay_any c w hcS) ?_)))))))
   cases h6 : c.may with
   | true =>
    refine Zv Z5 (ZX (ZB (zG (Zv (.slice V np cv) (Zl 0 ⟨b2, (coV c).cells, 142⟩ (off := 0) (coV c) (Zc (k := 215) (args := #[coV c]) (.string (mkS c.print)) (fun w hO => cPrint_any c w hcS (ht.tab.on hO.below)) (s_lit 9 #[.string (mkS c.print)] Kr rfl (fun _ => Kr) (fun b3 => ?_))))))))
    have hpl0 : ((x.l.take k).map Co.print).length ≤ 6 := by rw [List.length_map, List.length_take]; omega
    obtain ⟨i1, z1, e11, e12, e13, e14, e15⟩ := pU
    refine zS (L' := [⟨b3, #[.string (mkS c.print)], 9⟩, ⟨b2, (coV c).cells, 142⟩, ⟨b1, #[.slice A xs.length cap], 185⟩] ++ oa ++ (ob)) (by simp <;> rfl) (dA (sz := 1) Kr rfl Tryz.underlying58 e11 e12 e13 e14 Kr hP (a := ⟨b3, 0, none⟩) (m := 1) (c := 1) (news := y9 c.print) Kr rfl (fun w hO j u hj => ?_) (fun u hu => by rw [List.mem_singleton.1 hu]; rfl) (by unfold maxLen; omega) (by rw [e15]; omega) (fun w1 oa2 hu1 => ?_))
    ·rw [x3, cell_of_row w b3 (0 + j) (y9 c.print).toArray 9 _ (hO.held ⟨b3, (y9 c.print).toArray, 9⟩ (List.mem_append_left _ (List.mem_append_left _ (List.mem_cons_self ..))))]; simpa using hj
    have hP2 : SlT w1 (((x.l.take k).map Co.print) ++ [c.print]) oa2 := SlT.add hu1
    obtain ⟨V2, cv2, rfl⟩ := hP2.form
    exact Zv (.slice V2 ((((x.l.take k).map Co.print) ++ [c.print]).length) cv2) (yC (y7 (zJ (zG (Zu (k := .i64) (((k + 1 : Nat) : Int)) (IntWalk.i64_in _ Om) (Zv (YI ((k + 1 : Nat) : Int)) (yC (jV (fun w hO => own_tx1 hO) (x9 (m' := x.l.length - (k + 1)) Om ⟨k + 1, V2, (((x.l.take k).map Co.print) ++ [c.print]).length, cv2, oa2, _, ⟨by omega, take_all hcf hk hc (by assumption), by rw [List.take_succ_eq_append_getElem hk, hc, List.map_append]; exact hP2⟩, rfl, ZU, rfl⟩)))))))))
   | false =>
    refine Zv Z4 (ZY (ZO (Zv (.string ⟨#[]⟩) (ZN (zL (z7 (zA ?_)))))))
    exact z7 (zR (zA (z7 (zA (z7 (zR (zA (z7 (ZF (.string ⟨#[]⟩) Tryz.results183 (fun w hO => ⟨by rw [textR_bad hxm (fewA_one hcm (by assumption))]; rfl, hO.below⟩))))))))))
  have hal2 : ∀ c ∈ x.l, c.may = true := by have q := hcf; rwa [List.take_of_length_le Om] at q
  have hfx : fewA x.l = true := fewA_all ⟨by omega, by omega⟩ hal2
  have htk2 : x.l.take k = x.l := List.take_of_length_le Om
  have hpl := hP.caps
  rw [htk2] at hP hpl
  have htl := hT.caps
  refine Zh h5 (ZN (zH (Zf (jZ (yV (yQ (yR (zJ (zG (Zv (.slice U n cu) ?_))))))))))
  refine Zv (.slice V np cv) (Zc (k := 224) (args := #[.slice V np cv, .string ⟨#[44, 32]⟩]) (.string (mkS (xP x.l))) (fun w hO => by rw [hpl.1]; exact sjoin_any [44, 32] (x.l.map Co.print) V cv w (SlT.reads hP hpl.1.symm hO (fun x hx => by simp [hx])) (by decide) (by decide) (by rw [List.length_map]; omega) (fun t ht => by obtain ⟨c, hc, rfl⟩ := List.mem_map.1 ht; exact Nat.le_trans (co_len (hal2 c hc)) (by decide)) hpl.2) (s_lit 9 #[.string (mkS (xP x.l))] Kr rfl (fun _ => Kr) (fun b2 => ?_)))
  have hal0 : (((gU xs).take i).map xP).length ≤ 6 := by rw [List.length_map, List.length_take, vV]; omega
  refine dR (L' := ⟨b2, #[.string (mkS (xP x.l))], 9⟩ :: ⟨b1, #[.slice A xs.length cap], 185⟩ :: (ob ++ oa)) (fun w hO => own_tx3 hO) ?_
  obtain ⟨i2, z2, e21, e22, e23, e24, e25⟩ := pU
  refine zS (L' := [⟨b2, #[.string (mkS (xP x.l))], 9⟩, ⟨b1, #[.slice A xs.length cap], 185⟩] ++ ob ++ (oa)) (by simp <;> rfl) (dA (sz := 1) Kr rfl Tryz.underlying58 e21 e22 e23 e24 Kr hT (a := ⟨b2, 0, none⟩) (m := 1) (c := 1) (news := y9 (xP x.l)) Kr rfl (fun w hO j u hj => ?_) (fun u hu => by rw [List.mem_singleton.1 hu]; rfl) (by unfold maxLen; omega) (by rw [e25]; omega) (fun w2 ob2 hu2 => ?_))
  ·rw [x3, cell_of_row w b2 (0 + j) (y9 (xP x.l)).toArray 9 _ (hO.held ⟨b2, (y9 (xP x.l)).toArray, 9⟩ (List.mem_append_left _ (List.mem_append_left _ (List.mem_cons_self ..))))]; simpa using hj
  have hT2 : SlT w2 ((((gU xs).take i).map xP) ++ [xP x.l]) ob2 := SlT.add hu2
  obtain ⟨U2, cu2, rfl⟩ := hT2.form
  exact Zv (.slice U2 (((((gU xs).take i).map xP) ++ [xP x.l]).length) cu2) (yC (y7 (zJ (zG (Zu (k := .i64) (((i + 1 : Nat) : Int)) (IntWalk.i64_in _ Om) (Zv (YI ((i + 1 : Nat) : Int)) (yC (jV (fun w hO => own_tx2 hO) (x9 (m' := xs.length - (i + 1)) Om ⟨i + 1, U2, ((((gU xs).take i).map xP) ++ [xP x.l]).length, cu2, ob2, _, ⟨by omega, take_all hff hi hx hfx, by rw [List.take_succ_eq_append_getElem (by rw [vV]; exact hi), hxr, List.map_append]; exact hT2⟩, rfl, ZU, rfl⟩)))))))))
 have hall : ∀ x ∈ xs, fewA x.l = true := by have q := hff; rwa [List.take_of_length_le Om] at q
 have htk : (gU xs).take i = gU xs := List.take_of_length_le (by rw [vV]; omega)
 have htl := hT.caps
 rw [htk] at hT htl
 refine Zh h2 (ZN (zH (Zf (jZ (yV (yQ (yR (zJ (zH (zG ?_))))))))))
 exact Zv (.slice U n cu) (Zc (k := 224) (args := #[.slice U n cu, .string ⟨#[32, 124, 124, 32]⟩]) (.string (mkS (vU (gU xs)))) (fun w hO => by rw [htl.1]; exact sjoin_any [32, 124, 124, 32] ((gU xs).map xP) U cu w (SlT.reads hT htl.1.symm hO (fun x hx => by simp [hx])) (by decide) (by decide) (by rw [List.length_map, vV]; omega) (by have q := alts_le (l := gU xs) (i := xs.length) (fun a ha => by obtain ⟨x, hx, rfl⟩ := List.mem_map.1 (List.mem_of_mem_take ha); exact hall x hx); rwa [List.take_of_length_le (by rw [vV]; exact Nat.le_refl _)] at q) htl.2) (Zv (.string (mkS (vU (gU xs)))) (ZN (zL (ZF (.string (mkS (vU (gU xs)))) Tryz.results183 (fun w hO => ⟨by rw [textR_few Om hall], hO.below⟩))))))
theorem gPrint_any (A : Option Addr) (cap : Nat) (xs : List Al) (W : World) (hv : RgIn W W.heap.size A xs) (ht : HasLib W) : YC 153 #[.agg #[.slice A xs.length cap]] W (YR (.string (mkS (fB (gU xs)))) W) := by
 obtain ⟨t, et⟩ : ∃ t, mA (gU xs) = t := ⟨_, rfl⟩
 have hsz := yD t
 refine Z2 (n := 10) Tryz.func153 rfl (ZO (Zb (.agg #[.slice A xs.length cap]) (fun b1 => Zv (.string ⟨#[]⟩) (ZR (Zl 0 ⟨b1, #[.slice A xs.length cap], 185⟩ (off := 0) (.agg #[.slice A xs.length cap]) (Zc (k := 183) (args := #[.agg #[.slice A xs.length cap]]) (.string (mkS t)) (fun w hO => ret_v (by rw [et]) (gtext_any A cap xs w (hv.on hO.below hO.below.size) (ht.on hO.below))) (Zv (.string (mkS t)) ?_)))))))
 refine ZN (zH (ZO (Zv (.string (mkS t)) (Zv (YI ((mkS t).size)) ?_))))
 by_cases h1 : (96 : Int) < (mkS t).size
 ·refine Zg h1 (ZY (ZO (Zv (.string ⟨#[]⟩) (ZN (zL (z7 (ZF (.string ⟨#[]⟩) Tryz.results153 ?_)))))))
  exact fun w hO => ⟨by rw [print_text, et, if_pos Om]; rfl, hO.below⟩
 refine Zh h1 (ZX (ZB (ZO (Zv (.string (mkS t)) (Zv (.string (mkS t)) (yC (zJ ?_)))))))
 exact zL (ZF (.string (mkS t)) Tryz.results153 (fun w hO => ⟨by rw [print_text, et, if_neg Om], hO.below⟩))
end
section
end
section
structure AlI (s : List UInt8) (i f : Nat) (u : Value) (P : List (List UInt8)) (ob : List Blk) : Prop where
 fi : f ≤ i + 1
 il : i ≤ s.length
 fl : f ≤ s.length
 sl : SlT u P ob
 eq : P ++ kW ((s.drop f).take (i - f)) (s.drop (max i f)) = kW [] s
 pl : P.length ≤ i
end
section
end
section
end
section
def turnL (l : List Sp) (k : Nat) : List Sp := ((l.take k).map turnS).filter (·.may)
end
section
section
variable {M : List Nat} {W w : World}
end
theorem fine_get {s : List UInt8} (h : hZ s = 0) : FineR ((gQ s).getD []) := by
 cases hp : gQ s with
 | none => rcases err_none hp with e | e <;> rw [e] at h <;> exact absurd h (by decide)
 | some r => exact fine_few (rgMay.facts (err_some hp).2.1).1
end
section
theorem fewR_text {r : List (List Co)} (h : r ≠ []) {t : List UInt8} (ht : mA r = t) : (t = [] → fewR r = false) ∧ (¬ t = [] → fewR r = true ∧ vU r = t) := by
 refine ⟨fun q => textR_nil.1 (ht.trans q), fun q => ?_⟩
 cases hf : fewR r with
 | false => exact absurd (ht.symm.trans (textR_nil.2 hf)) q
 | true => refine ⟨rfl, ?_⟩; unfold mA at ht; rw [hf] at ht; exact ht
theorem all_ne {s : List UInt8} {r : List (List Co)} (h : v7 s = some r) : r ≠ [] := fun e => by
 have h2 := nM h
 rw [e] at h2
 exact altsL_ne s [] (List.eq_nil_of_length_eq_zero h2.symm)
theorem gParse_any (s : List UInt8) (W : World) (hs : s.length ≤ 1000000) (ht : HasLib W) : YC 152 #[.string (mkS s)] W fun e w' => ∃ v' ob', e = .returned (.tuple #[v', YI (hZ s)]) ∧ RgO v' ((gQ s).getD []) ob' ∧ Own [] W w' ob' := by
 have hsz := yD s
 refine Z2 (n := 62) Tryz.func152 rfl (ZO (Za (.agg #[.slice none 0 0]) (fun b1 => Zv (YI 0) (ZN (zH (ZO (Zv (.string (mkS s)) (Zv (YI ((mkS s).size)) ?_))))))))
 by_cases h1 : (96 : Int) < (mkS s).size
 ·refine Zg h1 (ZY (ZO (Zv (.agg #[.slice none 0 0]) (Zs 0 ⟨b1, #[.slice none 0 0], 185⟩ (off := 0) (.agg #[.slice none 0 0]) (Zv (YI 3) (ZN (zL ?_)))))))
  exact z7 (ZD 0 ⟨b1, #[.slice none 0 0], 185⟩ (off := 0) (.agg #[.slice none 0 0]) (YI 3) Tryz.results152 (fun w hO => ⟨.agg #[.slice none 0 0], [], by rw [(errG_long (s := s) Om).1], by rw [(errG_long (s := s) Om).2]; exact RgO.nil, own_nil hO⟩))
 have hs6 : s.length ≤ 96 := by omega
 refine Zh h1 (ZX (ZB (ZO (Za (.agg #[.slice none 0 0]) (fun b2 => ZN (zH ?_))))))
 refine ZO (Zv (.string (mkS s)) (Zr (k := 177) (args := #[.string (mkS s), .string ⟨#[124, 124]⟩]) (fun v' L' => ∃ ob', L' = ob' ++ ([⟨b2, #[.slice none 0 0], 185⟩, ⟨b1, #[.slice none 0 0], 185⟩]) ∧ SlT v' (kW [] s) ob') (fun w hO => (split_bars s w hs (ht.on hO.below)).mono fun e w' ⟨v', ob', k1, k2, k3⟩ => ⟨v', _, k1, ⟨ob', rfl, k2⟩, Own.joinN hO k3⟩) (fun lv L2 hv2 => ?_)))
 obtain ⟨ol, rfl, hol⟩ := hv2
 obtain ⟨l, hll⟩ : ∃ l, l = kW [] s := ⟨_, rfl⟩
 rw [← hll] at hol
 have hln : l.length ≤ 97 := by rw [hll]; have := altsL_many s []; omega
 have hlm : ∀ x ∈ l, x.length ≤ 96 := fun x hx => by have := altsL_le s [] x (hll ▸ hx); simp at this; omega
 obtain ⟨g, cur, lcap, rfl, rfl, hcur⟩ := SlT.blk hol (by rw [hll]; exact altsL_ne s [])
 refine Zv (YI (l.length : Int)) (Zv (YI 0) (ZN (yN (jI (L' := ⟨g, cur, 9⟩ :: ⟨b2, #[.slice none 0 0], 185⟩ :: ⟨b1, #[.slice none 0 0], 185⟩ :: ([] ++ [])) rfl (jY (fun L f m => ∃ (i : Nat) (A : Option Addr) (cap : Nat) (xs : List Al) (o1 : List Blk) (o2 : List Blk) (j : Nat → Value), (i ≤ l.length ∧ RgA (.slice A xs.length cap) xs o1 o2 ∧ fG parseA (l.take i) = some (gU xs)) ∧ L = ⟨g, cur, 9⟩ :: ⟨b2, #[.slice A xs.length cap], 185⟩ :: ⟨b1, #[.slice none 0 0], 185⟩ :: (o1 ++ o2) ∧ f = jR j [(2, Zp b1 0), (4, Zp b2 0), (18, .slice (some ⟨g, 0, none⟩) l.length lcap), (19, YI (l.length : Int)), (20, YI (i : Int))] ∧ m = l.length - i) (l.length - 0) ⟨0, none, 0, [], [], [], _, ⟨Nat.zero_le _, RgA.nil, rfl⟩, rfl, ZU, rfl⟩ ?_)))))
 rintro L f m ⟨i, A, cap, xs, o1, o2, j, hrel, rfl, rfl, rfl⟩
 have hrel0 := hrel; have hra := hrel.2.1; have hil := hrel.1
 refine zH (zG ?_)
 by_cases h2 : (i : Int) < (l.length : Int)
 ·have hi : i < l.length := by omega
  obtain ⟨y, hy⟩ : ∃ y, l[i] = y := ⟨_, rfl⟩
  have hyl : y.length ≤ 96 := hlm y (hy ▸ List.getElem_mem hi)
  refine Zg h2 (ZN (zH (Zt (ZB (zH (yN (ZO (yB (Zp g (i * 1)) Kr (ZV (b := g) (off := 0) (n := l.length) (c := lcap) (k := .i64) (j := (i : Int)) (e := 9) (sz := 1)) ?_))))))))
  refine nW 0 ⟨g, cur, 9⟩ (off := i * 1) (.string (mkS y)) Kr rfl Kr Kr (read_part zZ hcur i 0 Om Om _ (by rw [hy]; kernel_rfl)) (Zv (.string (mkS y)) (ZR (Zv (.slice none 0 0) (ZN (zH (zH (zG ?_)))))))
  refine Zv (.string (mkS y)) (Zr (k := 177) (args := #[.string (mkS y), .string ⟨#[44]⟩]) (fun v' L' => ∃ ob', L' = ob' ++ (⟨g, cur, 9⟩ :: (⟨b2, #[.slice A xs.length cap], 185⟩ :: (⟨b1, #[.slice none 0 0], 185⟩ :: ((o1 ++ o2))))) ∧ SlT v' (zB 44 [] y) ob') (fun w hO => (split_comma y w Om (ht.on hO.below)).mono fun e w' ⟨v', ob', k1, k2, k3⟩ => ⟨v', _, k1, ⟨ob', rfl, k2⟩, Own.joinN hO k3⟩) (fun mv L2 hv2 => ?_))
  obtain ⟨om, rfl, hom⟩ := hv2
  obtain ⟨m', hml⟩ : ∃ m', m' = zB 44 [] y := ⟨_, rfl⟩
  rw [← hml] at hom
  have hmn : m'.length ≤ 97 := by rw [hml]; exact (pieces_len hyl).1
  have hmm : ∀ x ∈ m', x.length ≤ 96 := fun x hx => (pieces_len hyl).2 x (hml ▸ hx)
  obtain ⟨g2, cur2, mcap, rfl, rfl, hcur2⟩ := SlT.blk hom (by rw [hml]; exact qA 44 y [])
  refine Zv (YI (m'.length : Int)) (Zv (YI 0) (ZN (yN (jI (L' := ⟨g2, cur2, 9⟩ :: ⟨g, cur, 9⟩ :: ⟨b2, #[.slice A xs.length cap], 185⟩ :: ⟨b1, #[.slice none 0 0], 185⟩ :: ([] ++ (o1 ++ o2))) rfl (jY (fun L f m => ∃ (k : Nat) (B : Option Addr) (cb : Nat) (a : List Co) (oa : List Blk) (j : Nat → Value), (k ≤ m'.length ∧ SlCo (.slice B a.length cb) a oa ∧ fG parseP (m'.take k) = some a) ∧ L = ⟨g2, cur2, 9⟩ :: ⟨g, cur, 9⟩ :: ⟨b2, #[.slice A xs.length cap], 185⟩ :: ⟨b1, #[.slice none 0 0], 185⟩ :: (oa ++ (o1 ++ o2)) ∧ f = jR j [(2, Zp b1 0), (4, Zp b2 0), (18, .slice (some ⟨g, 0, none⟩) l.length lcap), (19, YI (l.length : Int)), (20, YI (i : Int)), (7, .slice B a.length cb), (25, .slice (some ⟨g2, 0, none⟩) m'.length mcap), (26, YI (m'.length : Int)), (27, YI (k : Int))] ∧ m = m'.length - k) (m'.length - 0) ⟨0, none, 0, [], [], _, ⟨Nat.zero_le _, Sl.nil _ _, rfl⟩, rfl, ZU, rfl⟩ ?_)))))
  rintro L f m ⟨k, B, cb, a, oa, j, hrel, rfl, rfl, rfl⟩
  have hkl := hrel.1
  refine zH (zG ?_)
  by_cases h3 : (k : Int) < (m'.length : Int)
  ·have hk : k < m'.length := by omega
   obtain ⟨z, hz⟩ : ∃ z, m'[k] = z := ⟨_, rfl⟩
   have hzl : z.length ≤ 96 := hmm z (hz ▸ List.getElem_mem hk)
   have hbz := bareL_len z
   refine Zg h3 (ZN (zH (Zt (ZB (zH (yN (ZO (yB (Zp g2 (k * 1)) Kr (ZV (b := g2) (off := 0) (n := m'.length) (c := mcap) (k := .i64) (j := (k : Int)) (e := 9) (sz := 1)) ?_))))))))
   refine nW 0 ⟨g2, cur2, 9⟩ (off := k * 1) (.string (mkS z)) Kr rfl Kr Kr (read_part zZ hcur2 k 0 Om Om _ (by rw [hz]; kernel_rfl)) (Zv (.string (mkS z)) (ZR (Zv (.string (mkS z)) (Zc (k := 182) (args := #[.string (mkS z), .string ⟨#[32]⟩]) (.string (mkS (x6 z))) (fun w _ => trim_any z w Om) (Zc (k := 181) (args := #[.string (mkS (x6 z))]) (.tuple #[coV (pcV (x6 z)), YI (pcE (x6 z))]) (fun w hO => cParse_any (x6 z) w Om (ht.tab.on hO.below)) (Zv (.tuple #[coV (pcV (x6 z)), YI (pcE (x6 z))]) (Zv (coV (pcV (x6 z))) (Zv (YI (pcE (x6 z))) ?_))))))))
   refine Za (.agg Z0) (fun b3 => Zs 0 ⟨b3, Z0, 142⟩ (off := 0) (coV (pcV (x6 z))) (Zv (YI (pcE (x6 z))) (ZN (zH (ZO (Zv (YI (pcE (x6 z))) ?_))))))
   by_cases h4 : ((pcE (x6 z)) : Int) = 0
   ·refine Zn (p := ((pcE (x6 z)) : Int) = 0) true (decide_eq_true (h4)) (ZX (ZB (zG (Zv (.slice B a.length cb) (Zl 0 ⟨b3, (coV (pcV (x6 z))).cells, 142⟩ (off := 0) (coV (pcV (x6 z))) (s_lit 142 #[YI ((pcV (x6 z)).op), YI ((pcV (x6 z)).parts), YI ((pcV (x6 z)).v.maj), YI ((pcV (x6 z)).v.min), YI ((pcV (x6 z)).v.pat), .string (mkS (pcV (x6 z)).v.pre), .string (mkS (pcV (x6 z)).v.build)] Kr rfl (fun _ => Kr) (fun b4 => ?_)))))))
    obtain ⟨i0, z0, e1, e2, e3, e4, e5⟩ := co_info
    have hal : a.length ≤ 97 := by have q := nM hrel.2.2; rw [List.length_take] at q; omega
    refine zS (L' := [⟨b4, #[YI ((pcV (x6 z)).op), YI ((pcV (x6 z)).parts), YI ((pcV (x6 z)).v.maj), YI ((pcV (x6 z)).v.min), YI ((pcV (x6 z)).v.pat), .string (mkS (pcV (x6 z)).v.pre), .string (mkS (pcV (x6 z)).v.build)], 142⟩, ⟨b3, (coV (pcV (x6 z))).cells, 142⟩, ⟨g2, cur2, 9⟩, ⟨g, cur, 9⟩, ⟨b2, #[.slice A xs.length cap], 185⟩, ⟨b1, #[.slice none 0 0], 185⟩] ++ oa ++ (o1 ++ o2)) (by rw [List.append_assoc]; kernel_rfl) (dA (sz := 7) Kr rfl Tryz.underlying209 e1 e2 e3 e4 Kr hrel.2.1 (a := ⟨b4, 0, none⟩) (m := 1) (c := 1) (news := coC (pcV (x6 z))) Kr rfl (fun w hO j u hj => ?_) (co_cells _) (by unfold maxLen; omega) (by rw [e5]; omega) (fun u2 ob2 hu2 => ?_))
    ·rw [x3, cell_of_row w b4 (0 + j) (coC (pcV (x6 z))).toArray 142 _ (hO.held ⟨b4, (coC (pcV (x6 z))).toArray, 142⟩ (List.mem_append_left _ (List.mem_append_left _ (List.mem_cons_self ..))))]; simpa using hj
    have hu3 : SlCo u2 (a ++ [(pcV (x6 z))]) ob2 := hu2.to (by simp) (by simp)
    obtain ⟨B2, cb2, rfl⟩ := Sl.form hu3
    exact dR (L' := ⟨g2, cur2, 9⟩ :: (⟨g, cur, 9⟩ :: (⟨b2, #[.slice A xs.length cap], 185⟩ :: (⟨b1, #[.slice none 0 0], 185⟩ :: (ob2 ++ ((o1 ++ o2))))))) (fun w hO => own_two (by simpa using hO)) (Zv (.slice B2 ((a ++ [(pcV (x6 z))]).length) cb2) (yC (y7 (zJ (zG (Zu (k := .i64) (((k + 1 : Nat) : Int)) (IntWalk.i64_in _ Om) (Zv (YI ((k + 1 : Nat) : Int)) (yC (x9 (m' := m'.length - (k + 1)) Om ⟨k + 1, B2, cb2, _, ob2, _, ⟨by omega, hu3, allO_next hk hz hrel.2.2 (pc_ok (by assumption))⟩, rfl, ZU, rfl⟩)))))))))
   refine Zn (p := ((pcE (x6 z)) : Int) = 0) false (decide_eq_false (h4)) (ZY (ZO (Zv (.agg #[.slice none 0 0]) (Zs 4 ⟨b1, #[.slice none 0 0], 185⟩ (off := 0) (.agg #[.slice none 0 0]) (Zv (YI 6) (ZN (zL ?_)))))))
   refine z7 (zA (z7 (zR (zA (z7 (zA (z7 (zR (zA (z7 (ZD 4 ⟨b1, #[.slice none 0 0], 185⟩ (off := 0) (.agg #[.slice none 0 0]) (YI 6) Tryz.results152 ?_)))))))))))
   exact fun w hO => ⟨.agg #[.slice none 0 0], [], by rw [(errG_none hs6 (all_fails hll hi hy hml hk hz (by assumption))).1], by rw [(errG_none hs6 (all_fails hll hi hy hml hk hz (by assumption))).2]; exact RgO.nil, own_nil hO⟩
  refine Zh h3 (ZN (zH (Zf (jZ (yV (yQ (yR (zJ (zG (Zv (Zp b2 0) ?_))))))))))
  refine Zl 2 ⟨b2, #[.slice A xs.length cap], 185⟩ (off := 0) (.slice A xs.length cap) (Zv (.slice B a.length cb) (s_lit 209 #[.slice B a.length cb] Kr rfl (fun _ => Kr) (fun b3 => ?_)))
  obtain ⟨i0, z0, e1, e2, e3, e4, e5⟩ := al_info
  have hal : xs.length ≤ 97 := by have q := nM hrel0.2.2; rw [List.length_take, vV] at q; omega
  refine zS (L' := ([⟨b3, #[.slice B a.length cb], 209⟩, ⟨g2, cur2, 9⟩, ⟨g, cur, 9⟩, ⟨b2, #[.slice A xs.length cap], 185⟩, ⟨b1, #[.slice none 0 0], 185⟩] ++ oa) ++ o1 ++ o2) (by rw [List.append_assoc, List.append_assoc]; kernel_rfl) (dA (sz := 1) Kr rfl Tryz.underlying183 e1 e2 e3 e4 Kr hra.top (a := ⟨b3, 0, none⟩) (m := 1) (c := 1) (news := alC (Al.mk B a cb)) Kr rfl (fun w hO j u hj => ?_) (al_cells _) (by unfold maxLen; omega) (by rw [e5]; omega) (fun u2 ob2 hu2 => ?_))
  ·rw [x3, cell_of_row w b3 (0 + j) (alC (Al.mk B a cb)).toArray 209 _ (hO.held ⟨b3, (alC (Al.mk B a cb)).toArray, 209⟩ (by simp [alC]))]; simpa using hj
  have hra2 := hra.add hu2 hrel.2.1
  obtain ⟨A2, cap2, rfl⟩ := Sl.form hra2.top
  exact dR (L' := ⟨g, cur, 9⟩ :: (⟨b2, #[.slice A xs.length cap], 185⟩ :: (⟨b1, #[.slice none 0 0], 185⟩ :: ((ob2 ++ (oa ++ o2)))))) (fun w hO => own_turn hO) (Zv (Zp b2 0) (Zs 1 ⟨b2, #[.slice A xs.length cap], 185⟩ (off := 0) (.slice A2 ((xs ++ [(Al.mk B a cb)]).length) cap2) (yC (y7 (zJ (zG (Zu (k := .i64) (((i + 1 : Nat) : Int)) (IntWalk.i64_in _ Om) (Zv (YI ((i + 1 : Nat) : Int)) (yC (x9 (m' := l.length - (i + 1)) Om ⟨i + 1, A2, cap2, _, ob2, (oa ++ o2), _, ⟨by omega, hra2, by rw [show gU (xs ++ [Al.mk B a cb]) = gU xs ++ [a] from by simp [gU]]; exact allO_next hi hy hrel0.2.2 (by have q := hrel.2.2; rw [List.take_of_length_le Om, hml] at q; exact q)⟩, rfl, ZU, rfl⟩))))))))))
 have hall : v7 s = some (gU xs) := by have q := hrel0.2.2; rw [List.take_of_length_le Om, hll] at q; exact q
 have hfine : FineR (gU xs) := fine_part hs6 (fun x hx => hll ▸ hx) hln (by rw [hll]; exact hall)
 obtain ⟨t, et⟩ : ∃ t, mA (gU xs) = t := ⟨_, rfl⟩
 obtain ⟨htn, hty⟩ := fewR_text (all_ne hall) et
 have htz := yD t
 refine Zh h2 (ZN (zH (Zf (jZ (yV (yQ (yR (zJ (zH (zG ?_))))))))))
 refine Zl 1 ⟨b2, #[.slice A xs.length cap], 185⟩ (off := 0) (.agg #[.slice A xs.length cap]) (Zc (k := 183) (args := #[.agg #[.slice A xs.length cap]]) (.string (mkS t)) (fun w hO => ret_v (by rw [et]) (gtext_any A cap xs w (hra.inn rfl hO (fun x hx => by simp [hx]) (fun x hx => by simp [hx]) hfine) (ht.on hO.below))) (Zv (.string (mkS t)) (ZN (zH (ZO (Zv (.string (mkS t)) ?_))))))
 by_cases h5 : (t : List UInt8) = []
 ·refine yB Z4 Kr (k8 (a := t) (b := ([])) rfl Kr Kr (decide_eq_true (h5))) (ZY (ZO (Zv (.agg #[.slice none 0 0]) (Zs 2 ⟨b1, #[.slice none 0 0], 185⟩ (off := 0) (.agg #[.slice none 0 0]) (Zv (YI 6) (ZN (zL ?_)))))))
  exact z7 (ZD 2 ⟨b1, #[.slice none 0 0], 185⟩ (off := 0) (.agg #[.slice none 0 0]) (YI 6) Tryz.results152 (fun w hO => ⟨.agg #[.slice none 0 0], [], by rw [(errG_few hs6 hall (htn (by assumption))).1], by rw [(errG_few hs6 hall (htn (by assumption))).2]; exact RgO.nil, own_nil hO⟩))
 obtain ⟨hfw, htx⟩ := hty h5
 refine yB Z5 Kr (k8 (a := t) (b := ([])) rfl Kr Kr (decide_eq_false (h5))) (ZX (ZB (zH (ZO (Zv (.string (mkS t)) (Zv (YI ((mkS t).size)) ?_))))))
 by_cases h6 : (96 : Int) < (mkS t).size
 ·refine Zg h6 (ZY (ZO (Zv (.agg #[.slice none 0 0]) (Zs 2 ⟨b1, #[.slice none 0 0], 185⟩ (off := 0) (.agg #[.slice none 0 0]) (Zv (YI 3) (ZN (zL ?_)))))))
  exact z7 (ZD 2 ⟨b1, #[.slice none 0 0], 185⟩ (off := 0) (.agg #[.slice none 0 0]) (YI 3) Tryz.results152 (fun w hO => ⟨.agg #[.slice none 0 0], [], by rw [(errG_big hs6 hall hfw (by rw [htx]; omega)).1], by rw [(errG_big hs6 hall hfw (by rw [htx]; omega)).2]; exact RgO.nil, own_nil hO⟩))
 refine Zh h6 (ZX (ZB (ZO (Zl 1 ⟨b2, #[.slice A xs.length cap], 185⟩ (off := 0) (.agg #[.slice A xs.length cap]) (Zs 2 ⟨b1, #[.slice none 0 0], 185⟩ (off := 0) (.agg #[.slice A xs.length cap]) (Zv (YI 0) (yC ?_)))))))
 exact zJ (zL (ZD 2 ⟨b1, #[.slice A xs.length cap], 185⟩ (off := 0) (.agg #[.slice A xs.length cap]) (YI 0) Tryz.results152 (fun w hO => ⟨.agg #[.slice A xs.length cap], o1 ++ o2, by rw [(errG_fine hs6 hall hfw (by rw [htx]; omega)).1], by rw [(errG_fine hs6 hall hfw (by rw [htx]; omega)).2]; exact ⟨xs, _, o1, o2, rfl, rfl, rfl, hra⟩, Own.sub [_, _, _] hO⟩)))
end
section
set_option linter.unnecessarySimpa false
def rt (st : List (Nat × Tr)) : List Int := (st.map fun p => ((p.1 : Nat) : Int)).reverse
def treeB (l : List Nd) : Bool := match vO 0 [] l with | some s => decide (l = []) || decide (s.length = 1) | none => false
theorem runT_step {i : Nat} {st s : List (Nat × Tr)} {n : Nd} {r : List Nd} (h : stp i st n = some s) : vO i st (n :: r) = vO (i + 1) s r := by rw [vO, h]
theorem kL {i : Nat} {st : List (Nat × Tr)} {n : Nd} {r : List Nd} (h : stp i st n = none) : vO i st (n :: r) = none := by rw [vO, h]
theorem stp_leaf {i : Nat} {st : List (Nat × Tr)} {n : Nd} (h : qK n = true) : stp i st n = some ((i, .is n.key.toNat n.text) :: st) := by unfold stp; rw [if_pos h]
theorem stp_not {i : Nat} {p : Nat × Tr} {st : List (Nat × Tr)} {n : Nd} (h : qK n = false) (h1 : dJ (p :: st) n = true) : stp i (p :: st) n = some ((i, .no p.2) :: st) := by unfold stp; rw [if_neg (by rw [h]; simp), if_pos h1]
theorem stp_bin {i : Nat} {p q : Nat × Tr} {st : List (Nat × Tr)} {n : Nd} (h : qK n = false) (h1 : dJ (p :: q :: st) n = false) (h2 : isBin (p :: q :: st) n = true) : stp i (p :: q :: st) n = some ((i, if n.op = 3 then .both q.2 p.2 else .one q.2 p.2) :: st) := by unfold stp; rw [if_neg (by rw [h]; simp), if_neg (by rw [h1]; simp), if_pos h2]
theorem stp_no {i : Nat} {st : List (Nat × Tr)} {n : Nd} (h : qK n = false) (h1 : dJ st n = false) (h2 : isBin st n = false) : stp i st n = none := by unfold stp; rw [if_neg (by rw [h]; simp), if_neg (by rw [h1]; simp), if_neg (by rw [h2]; simp)]
theorem op_not {st : List (Nat × Tr)} {n : Nd} (h : ¬ n.op = 2) : dJ st n = false := by cases st with | nil => rfl | cons p r => unfold dJ; rw [decide_eq_false h]; rfl
theorem op_bin {st : List (Nat × Tr)} {n : Nd} (h : ¬ n.op = 3) (h2 : ¬ n.op = 4) : isBin st n = false := by
 match st with
 | [] => rfl
 | [p] => rfl
 | p :: q :: r => unfold isBin; rw [decide_eq_false h, decide_eq_false h2]; rfl
end
section
set_option linter.unnecessarySimpa false
def Tr.opc : Tr → Int
 | .is _ _ => 1
 | .no _ => 2
 | .both _ _ => 3
 | .one _ _ => 4
theorem tV : ∀ t : Tr, t.ok = true → t.w ≤ 20 * t.sz
 | .is k v, h => by
  unfold Tr.ok at h
  simp only [Bool.and_eq_true, decide_eq_true_eq] at h
  have hv := h.2
  unfold wdL at hv
  simp only [Bool.and_eq_true, decide_eq_true_eq] at hv
  rw [w_is]
  have : (xM k).length ≤ 4 := by unfold xM; split <;> (try split) <;> simp
  show _ ≤ 20; omega
 | .no x, h => by have := tV x h; have := (w_no x).1; have := x.w_le; show _ ≤ 20 * (x.sz + 1); omega
 | .both x y, h => by
  unfold Tr.ok at h; rw [Bool.and_eq_true] at h
  have := tV x h.1; have := tV y h.2; have := x.w_le; have := y.w_le
  rw [w_both]; show _ ≤ 20 * (x.sz + y.sz + 1); omega
 | .one x y, h => by
  unfold Tr.ok at h; rw [Bool.and_eq_true] at h
  have := tV x h.1; have := tV y h.2; have := x.w_le; have := y.w_le
  rw [w_one]; show _ ≤ 20 * (x.sz + y.sz + 1); omega
def TextAt (A : Option Addr) (cap : Nat) (l : List Nd) (a : Nat) (t : Tr) : Prop := ∀ W : World, Reads nC W W.heap.size A l → YC 236 #[.slice A l.length cap, YI (a : Int)] W (YR (.string (mkS t.text)) W)
theorem p7 {α : Type} {l : List α} {r : Nat} {x : α} (h : l[r]? = some x) : ∃ hr : r < l.length, l[r] = x := List.getElem?_eq_some_iff.1 h
def pE (l : List Nd) (o : Nat) (t : Tr) : Prop := ∀ i x, (t.enc o)[i]? = some x → l[o + i]? = some x
theorem d6 {l : List Nd} {o : Nat} {p q : List Nd} (h : ∀ i x, (p ++ q)[i]? = some x → l[o + i]? = some x) : ∀ i x, p[i]? = some x → l[o + i]? = some x := fun i x hi => h i x (by rw [List.getElem?_append_left (List.getElem?_eq_some_iff.1 hi).1]; exact hi)
theorem wU {l : List Nd} {o k : Nat} {p q : List Nd} (hk : p.length = k) (h : ∀ i x, (p ++ q)[i]? = some x → l[o + i]? = some x) : ∀ i x, q[i]? = some x → l[o + k + i]? = some x := fun i x hi => by
 have := h (k + i) x (by rw [List.getElem?_append_right Om, hk, Nat.add_sub_cancel_left]; exact hi)
 rw [← Nat.add_assoc] at this; exact this
theorem root_op : ∀ (t : Tr) (o : Nat), ∃ n, (t.enc o)[t.sz - 1]? = some n ∧ n.op = t.opc
 | .is k v, o => ⟨_, rfl, rfl⟩
 | .no x, o => ⟨⟨2, ((o + x.sz - 1 : Nat) : Int), 0, 0, []⟩, by rw [Tr.enc, List.getElem?_append_right (by rw [Tr.enc_len]; show x.sz ≤ x.sz + 1 - 1; omega), Tr.enc_len]; show [_][x.sz + 1 - 1 - x.sz]? = _; rw [show x.sz + 1 - 1 - x.sz = 0 by omega]; rfl, rfl⟩
 | .both x y, o => ⟨⟨3, ((o + x.sz - 1 : Nat) : Int), ((o + x.sz + y.sz - 1 : Nat) : Int), 0, []⟩, by rw [Tr.enc, List.getElem?_append_right (by rw [List.length_append, Tr.enc_len, Tr.enc_len]; show x.sz + y.sz ≤ x.sz + y.sz + 1 - 1; omega), List.length_append, Tr.enc_len, Tr.enc_len]; show [_][x.sz + y.sz + 1 - 1 - (x.sz + y.sz)]? = _; rw [show x.sz + y.sz + 1 - 1 - (x.sz + y.sz) = 0 by omega]; rfl, rfl⟩
 | .one x y, o => ⟨⟨4, ((o + x.sz - 1 : Nat) : Int), ((o + x.sz + y.sz - 1 : Nat) : Int), 0, []⟩, by rw [Tr.enc, List.getElem?_append_right (by rw [List.length_append, Tr.enc_len, Tr.enc_len]; show x.sz + y.sz ≤ x.sz + y.sz + 1 - 1; omega), List.length_append, Tr.enc_len, Tr.enc_len]; show [_][x.sz + y.sz + 1 - 1 - (x.sz + y.sz)]? = _; rw [show x.sz + y.sz + 1 - 1 - (x.sz + y.sz) = 0 by omega]; rfl, rfl⟩
theorem d5 {l : List Nd} {o : Nat} {t : Tr} (h : pE l o t) : ∃ n, l[o + t.sz - 1]? = some n ∧ n.op = t.opc := by
 obtain ⟨n, h1, h2⟩ := root_op t o
 have hz := t.sz_pos
 have := h _ _ h1
 rw [← Nat.add_sub_assoc Om] at this
 exact ⟨n, this, h2⟩
theorem text_short {t : Tr} (h : t.ok = true) (hs : t.sz ≤ 1000) : t.text.length ≤ 100000 := by have := tV t h; have := t.text_w; omega
theorem word_short {v : List UInt8} (h : wdL v = true) : v.length ≤ 12 := by unfold wdL at h; simp only [Bool.and_eq_true, decide_eq_true_eq] at h; omega
theorem stands_self (t : Tr) : pE (t.enc 0) 0 t := fun i x h => by rw [Nat.zero_add]; exact h
def whole10 (l : List Nd) : List UInt8 := match vR l with | some t => t.text | none => []
end
end Go.Proofs.YtjimgokkpcfgpaaGreatDoor
