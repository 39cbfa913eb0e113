/-
  What the statement's proof leans on: the ways of walking, qX mathematics, and what the program's functions return; each theorem says on what conditions.
-/
import Derived.Lib.OthersKept
import Derived.Lib.IndexBytes
import Derived.Deep.RegionHeld3
import Derived.IntWalk
import Derived.Outline
import Derived.StillTailTactics
import Derived.Test.YthanpjfmlipdnaaDoorKA4
set_option maxRecDepth 1000000
set_option maxHeartbeats 8000000
set_option linter.unusedVariables false
set_option linter.unusedSimpArgs false
namespace Go.Proofs.YthanpjfmlipdnaaDoor
open Go.RowKit

section
set_option linter.unnecessarySimpa false
def ReadsA {α : Type} (M : List Nat) (g : α → List Value) (W : World) (A : Option Addr) (l : List α) : Prop :=
  0 < l.length → ∃ b off, A = some ⟨b, off, none⟩ ∧ b < W.heap.size ∧ b ∉ M ∧ ∀ k u, (l.flatMap g)[k]? = some u → W.cell? ⟨b, off + k, none⟩ = some u
theorem pF {w W : World} {b k : Nat} (h : w.heap[b]? = W.heap[b]?) : w.cell? ⟨b, k, none⟩ = W.cell? ⟨b, k, none⟩ := by unfold World.cell?; simp only [h]
theorem ReadsA.at {α : Type} {M : List Nat} {g : α → List Value} {W w : World} {A : Option Addr} {l : List α} {L : List Blk} (h : ReadsA M g W A l) (hO : Own M W w L) : Reads g w w.heap.size A l := fun h0 => by
  obtain ⟨b, off, e, hlt, hm, hc⟩ := h h0
  exact ⟨b, off, e, Nat.lt_of_lt_of_le hlt hO.size, fun k u hk => by rw [pF (hO.kept b hlt hm)]; exact hc k u hk⟩
theorem ReadsA.next {α : Type} {M : List Nat} {g : α → List Value} {W w : World} {A : Option Addr} {l : List α} {ob' R : List Blk} (h : ReadsA M g W A l) (hO : Own M W w (ob' ++ R)) : ReadsA (ob'.map Blk.b) g w A l := fun h0 => by
  obtain ⟨b, off, e, hlt, hm, hc⟩ := h h0
  refine ⟨b, off, e, Nat.lt_of_lt_of_le hlt hO.size, fun hb => ?_, fun k u hk => by rw [pF (hO.kept b hlt hm)]; exact hc k u hk⟩
  obtain ⟨x, hx, ex⟩ := List.mem_map.1 hb
  rcases hO.base x (List.mem_append_left _ hx) with q | q
  · omega
  · exact hm (ex ▸ q)
structure LentN (b : Nat) (A V : Option Addr) (l : List Nd) (vs : List Int) (nd : List Nd) (ob : List Blk) (W : World) : Prop where
  rd : Nb b nd ob
  own : Own (ob.map Blk.b) W W ob
  nodes : ReadsA (ob.map Blk.b) nC W A l
  vals : ReadsA (ob.map Blk.b) zC W V vs
structure BackN (b : Nat) (nd : List Nd) (ob ob' : List Blk) (W w' : World) : Prop where
  rd : Nb b nd ob'
  own : Own (ob.map Blk.b) W w' ob'
theorem LentN.at {b : Nat} {A V : Option Addr} {l : List Nd} {vs : List Int} {nd nd' : List Nd} {ob ob' R : List Blk} {W w : World} (h : LentN b A V l vs nd ob W) (hR : Nb b nd' ob') (hO : Own (ob.map Blk.b) W w (ob' ++ R)) : LentN b A V l vs nd' ob' w :=
  ⟨hR, Own.lent hO, h.nodes.next hO, h.vals.next hO⟩
theorem nlast10 {W w : World} {b : Nat} {nd : List Nd} {ob L : List Blk} {M : List Nat} {W0 : World} (h : Nb b nd ob) (hO : Own M W0 w L) (hs : ∀ x ∈ ob, x ∈ L) (hn : nd.length ≤ 1000000) : Calls Tryd.prog 56 #[.pointer (some ⟨b, 0, none⟩)] w fun e w' => e = .returned (.int .i64 ((nd.length : Int) - 1)) ∧ Below w.heap.size w w' := by
  obtain ⟨C, cc, g, rfl, hsl⟩ := h
  exact kT (C := C) (cc := cc) w (hO.held _ (hs _ (List.mem_cons_self ..))) (by kernel_rfl) hn
def RestTo (A : Option Addr) (cap : Nat) (l : List Nd) (V : Option Addr) (cv : Nat) (vs : List Int) (a : Nat) (Z : Nat → List Nd) : Prop :=
  ∀ (b : Nat) (nd : List Nd) (ob : List Blk) (W : World), LentN b A V l vs nd ob W → nd.length + (Z nd.length).length ≤ 100000 →
    Calls Tryd.prog 31 #[.pointer (some ⟨b, 0, none⟩), .slice A l.length cap, .slice V vs.length cv, .int .i64 (a : Int)] W fun e w' => ∃ ob', e = .returned (.tuple #[]) ∧ BackN b (nd ++ Z nd.length) ob ob' W w'
theorem RestTo.to {A : Option Addr} {cap : Nat} {l : List Nd} {V : Option Addr} {cv : Nat} {vs : List Int} {a : Nat} {Z Z' : Nat → List Nd} (h : RestTo A cap l V cv vs a Z) (e : ∀ o, Z o = Z' o) : RestTo A cap l V cv vs a Z' := by
  have : Z = Z' := funext e
  subst this; exact h
theorem rs_is {A : Option Addr} {cap : Nat} {l : List Nd} (hn : l.length ≤ 1000) {V : Option Addr} {cv : Nat} {vs : List Int} (hvn : vs.length ≤ 1000) {r : Nat} {n : Nd} (hr : l[r]? = some n) (h1 : n = ⟨1, 0, 0, n.key, n.text⟩) (htx : n.text.length ≤ 1000000) : RestTo A cap l V cv vs r (fun _ => [⟨1, 0, 0, n.key, n.text⟩]) := fun b nd ob W hL hzl => by
  obtain ⟨hr', er⟩ := yV hr
  obtain ⟨bp, off, hA, hlt, _, hcell⟩ := hL.nodes (by omega)
  have hn0 : nd.length ≤ 100000 := by omega
  have ho1 : n.op = 1 := congrArg Nd.op h1
  refine y6 (n := 82) hL.own Tryd.func31 rfl (by kernel_rfl) (by kernel_rfl) (ZO (Zv (.slice A l.length cap) (Zv (.int .i64 (r : Int)) (zM (.pointer (some ⟨bp, off + r * 5, none⟩)) (by kernel_rfl) (ZA (b := bp) (off := off) (c := cap) (n := l.length) (k := .i64) (j := (r : Int)) (e := 48) (sz := 5) hA) (Zo (ndV n) (a := ⟨bp, off + r * 5, none⟩) (fun w hO => Reads.load yX (hL.nodes.at hO) hA r 0 hr' (by omega) _ (by rw [er]; kernel_rfl)) (Za (.agg #[.int .i64 0, .int .i64 0, .int .i64 0, .int .i64 0, .string ⟨#[]⟩]) (fun b1 => Zs 0 ⟨b1, #[.int .i64 0, .int .i64 0, .int .i64 0, .int .i64 0, .string ⟨#[]⟩], 48⟩ (off := 0) (ndV n) (ZN (zP ?_)))))))))
  refine zF (yB (L' := ⟨b1, (ndV n).cells, 48⟩ :: (ob)) rfl (gB (L' := ob ++ ([⟨b1, (ndV n).cells, 48⟩])) (fun w hO => hO.perm (by simpa using (List.perm_append_comm (l₁ := [⟨b1, (ndV n).cells, 48⟩]) (l₂ := ob)).append_right ([] : List Blk))) (z7 (Zv (.pointer (some ⟨b1, 0, none⟩)) (zX ⟨b1, (ndV n).cells, 48⟩ (off := 0) (.int .i64 n.op) (by kernel_rfl) rfl (by simp) (by kernel_rfl) (by kernel_rfl) (Zd (p := (n.op : Int) = 1) true (decide_eq_true (ho1)) (Zv (.bool true) (ZY (yB (L' := (ob ++ ([] : List Blk)) ++ ([⟨b1, (ndV n).cells, 48⟩])) (by simp) ?_)))))))))
  refine kQ ([⟨b1, (ndV n).cells, 48⟩]) (by kernel_rfl) (fun w hO => Own.sub (ob ++ ([] : List Blk)) hO) (ZT 0 (ob ++ ([] : List Blk)) _ (.pointer (some ⟨b, 0, none⟩)) (zE zB) rfl (ZT 1 (ob ++ ([] : List Blk)) _ (.pointer (some ⟨b1, 3, none⟩)) (zE zB) rfl (ZL 2 (ob ++ ([] : List Blk)) _ 0 ⟨b1, (ndV n).cells, 48⟩ (off := 3) (.int .i64 n.key) (zE zB) rfl rfl (ZT 3 (ob ++ ([] : List Blk)) _ (.pointer (some ⟨b1, 4, none⟩)) (zE zB) rfl (ZL 4 (ob ++ ([] : List Blk)) _ 0 ⟨b1, (ndV n).cells, 48⟩ (off := 4) (.string (mkS n.text)) (zE zB) rfl rfl (yK 5 (by kernel_rfl) (qZ (ob ++ ([] : List Blk)) _ (k := 54) (args := #[.string (mkS n.text)]) (.string (mkS n.text)) rfl (by kernel_rfl) (fun _ => by kernel_rfl) (fun w _ => pE (mkS n.text) w (by rw [k0]; omega)) (yK 6 (by kernel_rfl) (pZ (L' := ob ++ (([] : List Blk) ++ ([⟨b1, (ndV n).cells, 48⟩]))) (by simp <;> rfl) (vW _ (k := 53) (args := #[.pointer (some ⟨b, 0, none⟩), .int .i64 n.key, .string (mkS n.text)]) (fun v' L' => v' = .tuple #[] ∧ ∃ ob', L' = ob' ++ (([] : List Blk) ++ ([⟨b1, (ndV n).cells, 48⟩])) ∧ Nb b (nd ++ [(⟨1, 0, 0, n.key, n.text⟩ : Nd)]) ob') rfl (by kernel_rfl) (fun _ => by kernel_rfl) (fun w hO => (nis10_any hL.rd (Own.lent hO) (by omega) n.key n.text).mono fun e w' ⟨ob', k1, k2, k3⟩ => ⟨_, _, k1, ⟨rfl, ob', rfl, k2⟩, Own.back hO k3⟩) (fun v' L' ⟨_, ob', e, _⟩ w hO => by subst e; exact Own.sub ([] : List Blk) (Own.sub ob' hO)) (fun vlob1 Llob1 hvlob1 => ?_)))))))))))
  obtain ⟨rfl, ob1, rfl, hR1⟩ := hvlob1
  exact yT (L' := (ob1 ++ ([] : List Blk)) ++ ([⟨b1, (ndV n).cells, 48⟩])) (by simp <;> rfl) (xR (by kernel_rfl) (zJ (yM Tryd.results31 (fun w hO => ⟨_, rfl, ⟨hR1, hO.sublist (by simp)⟩⟩))))
theorem Nb.re {b : Nat} {l l' : List Nd} {ob : List Blk} (h : Nb b l ob) (e : l = l') : Nb b l' ob := e ▸ h
theorem rs_not {A : Option Addr} {cap : Nat} {l : List Nd} (hn : l.length ≤ 1000) {V : Option Addr} {cv : Nat} {vs : List Int} (hvn : vs.length ≤ 1000) {r : Nat} {op key : Int} {text : List UInt8} {a : Nat} (hr : l[r]? = some ⟨op, (a : Int), 0, key, text⟩) {TZa : Nat → List Nd} (h2 : op = 2) (ha' : RestTo A cap l V cv vs a TZa) : RestTo A cap l V cv vs r (fun o => TZa o ++ [⟨2, ((o + (TZa o).length : Nat) : Int) - 1, 0, 0, []⟩]) := fun b nd ob W hL hzl => by
  obtain ⟨hr', er⟩ := yV hr
  obtain ⟨bp, off, hA, hlt, _, hcell⟩ := hL.nodes (by omega)
  have hn0 : nd.length ≤ 100000 := by omega
  have h1 : ¬ op = 1 := by omega
  refine y6 (n := 82) hL.own Tryd.func31 rfl (by kernel_rfl) (by kernel_rfl) (ZO (Zv (.slice A l.length cap) (Zv (.int .i64 (r : Int)) (zM (.pointer (some ⟨bp, off + r * 5, none⟩)) (by kernel_rfl) (ZA (b := bp) (off := off) (c := cap) (n := l.length) (k := .i64) (j := (r : Int)) (e := 48) (sz := 5) hA) (Zo (ndV ⟨op, (a : Int), 0, key, text⟩) (a := ⟨bp, off + r * 5, none⟩) (fun w hO => Reads.load yX (hL.nodes.at hO) hA r 0 hr' (by omega) _ (by rw [er]; kernel_rfl)) (Za (.agg #[.int .i64 0, .int .i64 0, .int .i64 0, .int .i64 0, .string ⟨#[]⟩]) (fun b1 => Zs 0 ⟨b1, #[.int .i64 0, .int .i64 0, .int .i64 0, .int .i64 0, .string ⟨#[]⟩], 48⟩ (off := 0) (ndV ⟨op, (a : Int), 0, key, text⟩) (ZN (zP ?_)))))))))
  refine zF (yB (L' := ⟨b1, (ndV ⟨op, (a : Int), 0, key, text⟩).cells, 48⟩ :: (ob)) rfl (gB (L' := ob ++ ([⟨b1, (ndV ⟨op, (a : Int), 0, key, text⟩).cells, 48⟩])) (fun w hO => hO.perm (by simpa using (List.perm_append_comm (l₁ := [⟨b1, (ndV ⟨op, (a : Int), 0, key, text⟩).cells, 48⟩]) (l₂ := ob)).append_right ([] : List Blk))) (z7 (Zv (.pointer (some ⟨b1, 0, none⟩)) (zX ⟨b1, (ndV ⟨op, (a : Int), 0, key, text⟩).cells, 48⟩ (off := 0) (.int .i64 op) (by kernel_rfl) rfl (by simp) (by kernel_rfl) (by kernel_rfl) (Zd (p := (op : Int) = 1) false (decide_eq_false (h1)) (Zv (.bool false) (ZX (zF ?_)))))))))
  refine z7 (Zv (.pointer (some ⟨b1, 0, none⟩)) (zX ⟨b1, (ndV ⟨op, (a : Int), 0, key, text⟩).cells, 48⟩ (off := 0) (.int .i64 op) (by kernel_rfl) rfl (by simp) (by kernel_rfl) (by kernel_rfl) (Zd (p := (op : Int) = 2) true (decide_eq_true (h2)) (Zv (.bool true) (ZY (ZO (Zv (.pointer (some ⟨b, 0, none⟩)) (Zv (.slice A l.length cap) ?_))))))))
  refine Zv (.slice V vs.length cv) (Zv (.pointer (some ⟨b1, 1, none⟩)) (zX ⟨b1, (ndV ⟨op, (a : Int), 0, key, text⟩).cells, 48⟩ (off := 1) (.int .i64 (a : Int)) (by kernel_rfl) rfl (by simp) (by kernel_rfl) (by kernel_rfl) (zH (L' := ob ++ ([⟨b1, (ndV ⟨op, (a : Int), 0, key, text⟩).cells, 48⟩] : List Blk)) (by simp) (zO (k := 31) (args := #[.pointer (some ⟨b, 0, none⟩), .slice A l.length cap, .slice V vs.length cv, .int .i64 (a : Int)]) (fun v' L' => v' = .tuple #[] ∧ ∃ ob', L' = ob' ++ ([⟨b1, (ndV ⟨op, (a : Int), 0, key, text⟩).cells, 48⟩] : List Blk) ∧ Nb b (nd ++ TZa nd.length) ob') (by kernel_rfl) (fun _ => by kernel_rfl) (fun w hO => (ha' _ _ _ _ (hL.at hL.rd hO) (by (try simp only [List.length_append, List.length_cons, List.length_nil] at hzl ⊢); omega)).mono fun e w' ⟨ob', k1, k2, k3⟩ => ⟨_, _, k1, ⟨rfl, ob', rfl, k2⟩, Own.join hO k3⟩) (fun v1 L1 hv1 => ?_)))))
  obtain ⟨rfl, ob1, rfl, hR1⟩ := hv1
  refine zH (L' := ob1 ++ ([⟨b1, (ndV ⟨op, (a : Int), 0, key, text⟩).cells, 48⟩])) (by simp) ?_
  have hS1 : (nd ++ TZa nd.length).length ≤ 100000 := by (try simp only [List.length_append, List.length_cons, List.length_nil] at hzl ⊢); omega
  refine ZN (z7 (Zv (.pointer (some ⟨b, 0, none⟩)) (zH (L' := ob1 ++ ([⟨b1, (ndV ⟨op, (a : Int), 0, key, text⟩).cells, 48⟩] : List Blk)) (by simp) (zO (k := 55) (args := #[.pointer (some ⟨b, 0, none⟩)]) (fun v' L' => v' = .tuple #[] ∧ ∃ ob', L' = ob' ++ ([⟨b1, (ndV ⟨op, (a : Int), 0, key, text⟩).cells, 48⟩] : List Blk) ∧ Nb b ((nd ++ TZa nd.length) ++ [(⟨2, ((nd ++ TZa nd.length).length : Int) - 1, 0, 0, []⟩ : Nd)]) ob') (by kernel_rfl) (fun _ => by kernel_rfl) (fun w hO => (nnot10_any hR1 (Own.lent hO) (by have := hS1; omega)).mono fun e w' ⟨ob', k1, k2, k3⟩ => ⟨_, _, k1, ⟨rfl, ob', rfl, k2⟩, Own.join hO k3⟩) (fun v2 L2 hv2 => ?_)))))
  obtain ⟨rfl, ob2, rfl, hR2⟩ := hv2
  refine zH (L' := ob2 ++ ([⟨b1, (ndV ⟨op, (a : Int), 0, key, text⟩).cells, 48⟩])) (by simp) ?_
  have hS2 : ((nd ++ TZa nd.length) ++ [(⟨2, ((nd ++ TZa nd.length).length : Int) - 1, 0, 0, []⟩ : Nd)]).length ≤ 100000 := by (try simp only [List.length_append, List.length_cons, List.length_nil] at hzl ⊢); omega
  exact zK (zJ (yM Tryd.results31 (fun w hO => ⟨_, rfl, ⟨hR2.re (by simp [List.length_append] <;> omega), hO.sublist (by simp)⟩⟩)))
theorem rs_r {A : Option Addr} {cap : Nat} {l : List Nd} (hn : l.length ≤ 1000) {V : Option Addr} {cv : Nat} {vs : List Int} (hvn : vs.length ≤ 1000) {r : Nat} {op key : Int} {text : List UInt8} {a b0 : Nat} (hr : l[r]? = some ⟨op, (a : Int), (b0 : Int), key, text⟩) {TZb : Nat → List Nd} (h1 : ¬ op = 1) (h2 : ¬ op = 2) {za : Int} (ha : vs[a]? = some za) (hza : ¬ za = 1) (hb0' : RestTo A cap l V cv vs b0 TZb) : RestTo A cap l V cv vs r TZb := fun b nd ob W hL hzl => by
  obtain ⟨hr', er⟩ := yV hr
  obtain ⟨bp, off, hA, hlt, _, hcell⟩ := hL.nodes (by omega)
  have hn0 : nd.length ≤ 100000 := by omega
  obtain ⟨ha'', ea⟩ := yV ha
  obtain ⟨bq, of2, hV, _, _, _⟩ := hL.vals (by omega)
  refine y6 (n := 82) hL.own Tryd.func31 rfl (by kernel_rfl) (by kernel_rfl) (ZO (Zv (.slice A l.length cap) (Zv (.int .i64 (r : Int)) (zM (.pointer (some ⟨bp, off + r * 5, none⟩)) (by kernel_rfl) (ZA (b := bp) (off := off) (c := cap) (n := l.length) (k := .i64) (j := (r : Int)) (e := 48) (sz := 5) hA) (Zo (ndV ⟨op, (a : Int), (b0 : Int), key, text⟩) (a := ⟨bp, off + r * 5, none⟩) (fun w hO => Reads.load yX (hL.nodes.at hO) hA r 0 hr' (by omega) _ (by rw [er]; kernel_rfl)) (Za (.agg #[.int .i64 0, .int .i64 0, .int .i64 0, .int .i64 0, .string ⟨#[]⟩]) (fun b1 => Zs 0 ⟨b1, #[.int .i64 0, .int .i64 0, .int .i64 0, .int .i64 0, .string ⟨#[]⟩], 48⟩ (off := 0) (ndV ⟨op, (a : Int), (b0 : Int), key, text⟩) (ZN (zP ?_)))))))))
  refine zF (yB (L' := ⟨b1, (ndV ⟨op, (a : Int), (b0 : Int), key, text⟩).cells, 48⟩ :: (ob)) rfl (gB (L' := ob ++ ([⟨b1, (ndV ⟨op, (a : Int), (b0 : Int), key, text⟩).cells, 48⟩])) (fun w hO => hO.perm (by simpa using (List.perm_append_comm (l₁ := [⟨b1, (ndV ⟨op, (a : Int), (b0 : Int), key, text⟩).cells, 48⟩]) (l₂ := ob)).append_right ([] : List Blk))) (z7 (Zv (.pointer (some ⟨b1, 0, none⟩)) (zX ⟨b1, (ndV ⟨op, (a : Int), (b0 : Int), key, text⟩).cells, 48⟩ (off := 0) (.int .i64 op) (by kernel_rfl) rfl (by simp) (by kernel_rfl) (by kernel_rfl) (Zd (p := (op : Int) = 1) false (decide_eq_false (h1)) (Zv (.bool false) (ZX (zF ?_)))))))))
  refine z7 (Zv (.pointer (some ⟨b1, 0, none⟩)) (zX ⟨b1, (ndV ⟨op, (a : Int), (b0 : Int), key, text⟩).cells, 48⟩ (off := 0) (.int .i64 op) (by kernel_rfl) rfl (by simp) (by kernel_rfl) (by kernel_rfl) (Zd (p := (op : Int) = 2) false (decide_eq_false (h2)) (Zv (.bool false) (ZX (ZO (Zv (.slice V vs.length cv) (Zv (.pointer (some ⟨b1, 1, none⟩)) ?_))))))))
  refine zX ⟨b1, (ndV ⟨op, (a : Int), (b0 : Int), key, text⟩).cells, 48⟩ (off := 1) (.int .i64 (a : Int)) (by kernel_rfl) rfl (by simp) (by kernel_rfl) (by kernel_rfl) (zM (.pointer (some ⟨bq, of2 + a * 1, none⟩)) (by kernel_rfl) (ZA (b := bq) (off := of2) (c := cv) (n := vs.length) (k := .i64) (j := (a : Int)) (e := 3) (sz := 1) hV) (Zo (.int .i64 za) (a := ⟨bq, of2 + a * 1, none⟩) (fun w hO => Reads.load x7 (hL.vals.at hO) hV a 0 ha'' (by omega) _ (by rw [ea]; kernel_rfl)) (Zn (p := (za : Int) = 1) false (decide_eq_false (hza)) (Zv (.bool true) (ZY (z7 (Zv (.pointer (some ⟨b, 0, none⟩)) (Zv (.slice A l.length cap) (Zv (.slice V vs.length cv) ?_)))))))))
  refine Zv (.pointer (some ⟨b1, 2, none⟩)) (zX ⟨b1, (ndV ⟨op, (a : Int), (b0 : Int), key, text⟩).cells, 48⟩ (off := 2) (.int .i64 (b0 : Int)) (by kernel_rfl) rfl (by simp) (by kernel_rfl) (by kernel_rfl) (zH (L' := ob ++ ([⟨b1, (ndV ⟨op, (a : Int), (b0 : Int), key, text⟩).cells, 48⟩] : List Blk)) (by simp) (zO (k := 31) (args := #[.pointer (some ⟨b, 0, none⟩), .slice A l.length cap, .slice V vs.length cv, .int .i64 (b0 : Int)]) (fun v' L' => v' = .tuple #[] ∧ ∃ ob', L' = ob' ++ ([⟨b1, (ndV ⟨op, (a : Int), (b0 : Int), key, text⟩).cells, 48⟩] : List Blk) ∧ Nb b (nd ++ TZb nd.length) ob') (by kernel_rfl) (fun _ => by kernel_rfl) (fun w hO => (hb0' _ _ _ _ (hL.at hL.rd hO) (by (try simp only [List.length_append, List.length_cons, List.length_nil] at hzl ⊢); omega)).mono fun e w' ⟨ob', k1, k2, k3⟩ => ⟨_, _, k1, ⟨rfl, ob', rfl, k2⟩, Own.join hO k3⟩) (fun v1 L1 hv1 => ?_))))
  obtain ⟨rfl, ob1, rfl, hR1⟩ := hv1
  refine zH (L' := ob1 ++ ([⟨b1, (ndV ⟨op, (a : Int), (b0 : Int), key, text⟩).cells, 48⟩])) (by simp) ?_
  have hS1 : (nd ++ TZb nd.length).length ≤ 100000 := by (try simp only [List.length_append, List.length_cons, List.length_nil] at hzl ⊢); omega
  exact zK (zJ (yM Tryd.results31 (fun w hO => ⟨_, rfl, ⟨hR1, hO.sublist (by simp)⟩⟩)))
theorem rs_l {A : Option Addr} {cap : Nat} {l : List Nd} (hn : l.length ≤ 1000) {V : Option Addr} {cv : Nat} {vs : List Int} (hvn : vs.length ≤ 1000) {r : Nat} {op key : Int} {text : List UInt8} {a b0 : Nat} (hr : l[r]? = some ⟨op, (a : Int), (b0 : Int), key, text⟩) {TZa : Nat → List Nd} (h1 : ¬ op = 1) (h2 : ¬ op = 2) {za : Int} (ha : vs[a]? = some za) (hza : za = 1) {zb0 : Int} (hb0 : vs[b0]? = some zb0) (hzb0 : ¬ zb0 = 1) (ha' : RestTo A cap l V cv vs a TZa) : RestTo A cap l V cv vs r TZa := fun b nd ob W hL hzl => by
  obtain ⟨hr', er⟩ := yV hr
  obtain ⟨bp, off, hA, hlt, _, hcell⟩ := hL.nodes (by omega)
  have hn0 : nd.length ≤ 100000 := by omega
  obtain ⟨ha'', ea⟩ := yV ha
  obtain ⟨hb0'', eb0⟩ := yV hb0
  obtain ⟨bq, of2, hV, _, _, _⟩ := hL.vals (by omega)
  refine y6 (n := 82) hL.own Tryd.func31 rfl (by kernel_rfl) (by kernel_rfl) (ZO (Zv (.slice A l.length cap) (Zv (.int .i64 (r : Int)) (zM (.pointer (some ⟨bp, off + r * 5, none⟩)) (by kernel_rfl) (ZA (b := bp) (off := off) (c := cap) (n := l.length) (k := .i64) (j := (r : Int)) (e := 48) (sz := 5) hA) (Zo (ndV ⟨op, (a : Int), (b0 : Int), key, text⟩) (a := ⟨bp, off + r * 5, none⟩) (fun w hO => Reads.load yX (hL.nodes.at hO) hA r 0 hr' (by omega) _ (by rw [er]; kernel_rfl)) (Za (.agg #[.int .i64 0, .int .i64 0, .int .i64 0, .int .i64 0, .string ⟨#[]⟩]) (fun b1 => Zs 0 ⟨b1, #[.int .i64 0, .int .i64 0, .int .i64 0, .int .i64 0, .string ⟨#[]⟩], 48⟩ (off := 0) (ndV ⟨op, (a : Int), (b0 : Int), key, text⟩) (ZN (zP ?_)))))))))
  refine zF (yB (L' := ⟨b1, (ndV ⟨op, (a : Int), (b0 : Int), key, text⟩).cells, 48⟩ :: (ob)) rfl (gB (L' := ob ++ ([⟨b1, (ndV ⟨op, (a : Int), (b0 : Int), key, text⟩).cells, 48⟩])) (fun w hO => hO.perm (by simpa using (List.perm_append_comm (l₁ := [⟨b1, (ndV ⟨op, (a : Int), (b0 : Int), key, text⟩).cells, 48⟩]) (l₂ := ob)).append_right ([] : List Blk))) (z7 (Zv (.pointer (some ⟨b1, 0, none⟩)) (zX ⟨b1, (ndV ⟨op, (a : Int), (b0 : Int), key, text⟩).cells, 48⟩ (off := 0) (.int .i64 op) (by kernel_rfl) rfl (by simp) (by kernel_rfl) (by kernel_rfl) (Zd (p := (op : Int) = 1) false (decide_eq_false (h1)) (Zv (.bool false) (ZX (zF ?_)))))))))
  refine z7 (Zv (.pointer (some ⟨b1, 0, none⟩)) (zX ⟨b1, (ndV ⟨op, (a : Int), (b0 : Int), key, text⟩).cells, 48⟩ (off := 0) (.int .i64 op) (by kernel_rfl) rfl (by simp) (by kernel_rfl) (by kernel_rfl) (Zd (p := (op : Int) = 2) false (decide_eq_false (h2)) (Zv (.bool false) (ZX (ZO (Zv (.slice V vs.length cv) (Zv (.pointer (some ⟨b1, 1, none⟩)) ?_))))))))
  refine zX ⟨b1, (ndV ⟨op, (a : Int), (b0 : Int), key, text⟩).cells, 48⟩ (off := 1) (.int .i64 (a : Int)) (by kernel_rfl) rfl (by simp) (by kernel_rfl) (by kernel_rfl) (zM (.pointer (some ⟨bq, of2 + a * 1, none⟩)) (by kernel_rfl) (ZA (b := bq) (off := of2) (c := cv) (n := vs.length) (k := .i64) (j := (a : Int)) (e := 3) (sz := 1) hV) (Zo (.int .i64 za) (a := ⟨bq, of2 + a * 1, none⟩) (fun w hO => Reads.load x7 (hL.vals.at hO) hV a 0 ha'' (by omega) _ (by rw [ea]; kernel_rfl)) (Zn (p := (za : Int) = 1) true (decide_eq_true (hza)) (Zv (.bool false) (ZX (ZO (Zv (.slice V vs.length cv) (Zv (.pointer (some ⟨b1, 2, none⟩)) ?_))))))))
  refine zX ⟨b1, (ndV ⟨op, (a : Int), (b0 : Int), key, text⟩).cells, 48⟩ (off := 2) (.int .i64 (b0 : Int)) (by kernel_rfl) rfl (by simp) (by kernel_rfl) (by kernel_rfl) (zM (.pointer (some ⟨bq, of2 + b0 * 1, none⟩)) (by kernel_rfl) (ZA (b := bq) (off := of2) (c := cv) (n := vs.length) (k := .i64) (j := (b0 : Int)) (e := 3) (sz := 1) hV) (Zo (.int .i64 zb0) (a := ⟨bq, of2 + b0 * 1, none⟩) (fun w hO => Reads.load x7 (hL.vals.at hO) hV b0 0 hb0'' (by omega) _ (by rw [eb0]; kernel_rfl)) (Zn (p := (zb0 : Int) = 1) false (decide_eq_false (hzb0)) (Zv (.bool true) (ZY (z7 (Zv (.pointer (some ⟨b, 0, none⟩)) (Zv (.slice A l.length cap) (Zv (.slice V vs.length cv) ?_)))))))))
  refine Zv (.pointer (some ⟨b1, 1, none⟩)) (zX ⟨b1, (ndV ⟨op, (a : Int), (b0 : Int), key, text⟩).cells, 48⟩ (off := 1) (.int .i64 (a : Int)) (by kernel_rfl) rfl (by simp) (by kernel_rfl) (by kernel_rfl) (zH (L' := ob ++ ([⟨b1, (ndV ⟨op, (a : Int), (b0 : Int), key, text⟩).cells, 48⟩] : List Blk)) (by simp) (zO (k := 31) (args := #[.pointer (some ⟨b, 0, none⟩), .slice A l.length cap, .slice V vs.length cv, .int .i64 (a : Int)]) (fun v' L' => v' = .tuple #[] ∧ ∃ ob', L' = ob' ++ ([⟨b1, (ndV ⟨op, (a : Int), (b0 : Int), key, text⟩).cells, 48⟩] : List Blk) ∧ Nb b (nd ++ TZa nd.length) ob') (by kernel_rfl) (fun _ => by kernel_rfl) (fun w hO => (ha' _ _ _ _ (hL.at hL.rd hO) (by (try simp only [List.length_append, List.length_cons, List.length_nil] at hzl ⊢); omega)).mono fun e w' ⟨ob', k1, k2, k3⟩ => ⟨_, _, k1, ⟨rfl, ob', rfl, k2⟩, Own.join hO k3⟩) (fun v1 L1 hv1 => ?_))))
  obtain ⟨rfl, ob1, rfl, hR1⟩ := hv1
  refine zH (L' := ob1 ++ ([⟨b1, (ndV ⟨op, (a : Int), (b0 : Int), key, text⟩).cells, 48⟩])) (by simp) ?_
  have hS1 : (nd ++ TZa nd.length).length ≤ 100000 := by (try simp only [List.length_append, List.length_cons, List.length_nil] at hzl ⊢); omega
  exact zK (zJ (yM Tryd.results31 (fun w hO => ⟨_, rfl, ⟨hR1, hO.sublist (by simp)⟩⟩)))
theorem rs_b {A : Option Addr} {cap : Nat} {l : List Nd} (hn : l.length ≤ 1000) {V : Option Addr} {cv : Nat} {vs : List Int} (hvn : vs.length ≤ 1000) {r : Nat} {op key : Int} {text : List UInt8} {a b0 : Nat} (hr : l[r]? = some ⟨op, (a : Int), (b0 : Int), key, text⟩) {TZa TZb : Nat → List Nd} (h1 : ¬ op = 1) (h2 : ¬ op = 2) {za : Int} (ha : vs[a]? = some za) (hza : za = 1) {zb0 : Int} (hb0 : vs[b0]? = some zb0) (hzb0 : zb0 = 1) (ha' : RestTo A cap l V cv vs a TZa) (hb0' : RestTo A cap l V cv vs b0 TZb) : RestTo A cap l V cv vs r (fun o => TZa o ++ TZb (o + (TZa o).length) ++ [⟨op, ((o + (TZa o).length : Nat) : Int) - 1, ((o + (TZa o).length + (TZb (o + (TZa o).length)).length : Nat) : Int) - 1, 0, []⟩]) := fun b nd ob W hL hzl => by
  obtain ⟨hr', er⟩ := yV hr
  obtain ⟨bp, off, hA, hlt, _, hcell⟩ := hL.nodes (by omega)
  have hn0 : nd.length ≤ 100000 := by omega
  obtain ⟨ha'', ea⟩ := yV ha
  obtain ⟨hb0'', eb0⟩ := yV hb0
  obtain ⟨bq, of2, hV, _, _, _⟩ := hL.vals (by omega)
  refine y6 (n := 82) hL.own Tryd.func31 rfl (by kernel_rfl) (by kernel_rfl) (ZO (Zv (.slice A l.length cap) (Zv (.int .i64 (r : Int)) (zM (.pointer (some ⟨bp, off + r * 5, none⟩)) (by kernel_rfl) (ZA (b := bp) (off := off) (c := cap) (n := l.length) (k := .i64) (j := (r : Int)) (e := 48) (sz := 5) hA) (Zo (ndV ⟨op, (a : Int), (b0 : Int), key, text⟩) (a := ⟨bp, off + r * 5, none⟩) (fun w hO => Reads.load yX (hL.nodes.at hO) hA r 0 hr' (by omega) _ (by rw [er]; kernel_rfl)) (Za (.agg #[.int .i64 0, .int .i64 0, .int .i64 0, .int .i64 0, .string ⟨#[]⟩]) (fun b1 => Zs 0 ⟨b1, #[.int .i64 0, .int .i64 0, .int .i64 0, .int .i64 0, .string ⟨#[]⟩], 48⟩ (off := 0) (ndV ⟨op, (a : Int), (b0 : Int), key, text⟩) (ZN (zP ?_)))))))))
  refine zF (yB (L' := ⟨b1, (ndV ⟨op, (a : Int), (b0 : Int), key, text⟩).cells, 48⟩ :: (ob)) rfl (gB (L' := ob ++ ([⟨b1, (ndV ⟨op, (a : Int), (b0 : Int), key, text⟩).cells, 48⟩])) (fun w hO => hO.perm (by simpa using (List.perm_append_comm (l₁ := [⟨b1, (ndV ⟨op, (a : Int), (b0 : Int), key, text⟩).cells, 48⟩]) (l₂ := ob)).append_right ([] : List Blk))) (z7 (Zv (.pointer (some ⟨b1, 0, none⟩)) (zX ⟨b1, (ndV ⟨op, (a : Int), (b0 : Int), key, text⟩).cells, 48⟩ (off := 0) (.int .i64 op) (by kernel_rfl) rfl (by simp) (by kernel_rfl) (by kernel_rfl) (Zd (p := (op : Int) = 1) false (decide_eq_false (h1)) (Zv (.bool false) (ZX (zF ?_)))))))))
  refine z7 (Zv (.pointer (some ⟨b1, 0, none⟩)) (zX ⟨b1, (ndV ⟨op, (a : Int), (b0 : Int), key, text⟩).cells, 48⟩ (off := 0) (.int .i64 op) (by kernel_rfl) rfl (by simp) (by kernel_rfl) (by kernel_rfl) (Zd (p := (op : Int) = 2) false (decide_eq_false (h2)) (Zv (.bool false) (ZX (ZO (Zv (.slice V vs.length cv) (Zv (.pointer (some ⟨b1, 1, none⟩)) ?_))))))))
  refine zX ⟨b1, (ndV ⟨op, (a : Int), (b0 : Int), key, text⟩).cells, 48⟩ (off := 1) (.int .i64 (a : Int)) (by kernel_rfl) rfl (by simp) (by kernel_rfl) (by kernel_rfl) (zM (.pointer (some ⟨bq, of2 + a * 1, none⟩)) (by kernel_rfl) (ZA (b := bq) (off := of2) (c := cv) (n := vs.length) (k := .i64) (j := (a : Int)) (e := 3) (sz := 1) hV) (Zo (.int .i64 za) (a := ⟨bq, of2 + a * 1, none⟩) (fun w hO => Reads.load x7 (hL.vals.at hO) hV a 0 ha'' (by omega) _ (by rw [ea]; kernel_rfl)) (Zn (p := (za : Int) = 1) true (decide_eq_true (hza)) (Zv (.bool false) (ZX (ZO (Zv (.slice V vs.length cv) (Zv (.pointer (some ⟨b1, 2, none⟩)) ?_))))))))
  refine zX ⟨b1, (ndV ⟨op, (a : Int), (b0 : Int), key, text⟩).cells, 48⟩ (off := 2) (.int .i64 (b0 : Int)) (by kernel_rfl) rfl (by simp) (by kernel_rfl) (by kernel_rfl) (zM (.pointer (some ⟨bq, of2 + b0 * 1, none⟩)) (by kernel_rfl) (ZA (b := bq) (off := of2) (c := cv) (n := vs.length) (k := .i64) (j := (b0 : Int)) (e := 3) (sz := 1) hV) (Zo (.int .i64 zb0) (a := ⟨bq, of2 + b0 * 1, none⟩) (fun w hO => Reads.load x7 (hL.vals.at hO) hV b0 0 hb0'' (by omega) _ (by rw [eb0]; kernel_rfl)) (Zn (p := (zb0 : Int) = 1) true (decide_eq_true (hzb0)) (Zv (.bool false) (ZX (ZO (Zv (.pointer (some ⟨b, 0, none⟩)) (Zv (.slice A l.length cap) ?_))))))))
  refine Zv (.slice V vs.length cv) (Zv (.pointer (some ⟨b1, 1, none⟩)) (zX ⟨b1, (ndV ⟨op, (a : Int), (b0 : Int), key, text⟩).cells, 48⟩ (off := 1) (.int .i64 (a : Int)) (by kernel_rfl) rfl (by simp) (by kernel_rfl) (by kernel_rfl) (zH (L' := ob ++ ([⟨b1, (ndV ⟨op, (a : Int), (b0 : Int), key, text⟩).cells, 48⟩] : List Blk)) (by simp) (zO (k := 31) (args := #[.pointer (some ⟨b, 0, none⟩), .slice A l.length cap, .slice V vs.length cv, .int .i64 (a : Int)]) (fun v' L' => v' = .tuple #[] ∧ ∃ ob', L' = ob' ++ ([⟨b1, (ndV ⟨op, (a : Int), (b0 : Int), key, text⟩).cells, 48⟩] : List Blk) ∧ Nb b (nd ++ TZa nd.length) ob') (by kernel_rfl) (fun _ => by kernel_rfl) (fun w hO => (ha' _ _ _ _ (hL.at hL.rd hO) (by (try simp only [List.length_append, List.length_cons, List.length_nil] at hzl ⊢); omega)).mono fun e w' ⟨ob', k1, k2, k3⟩ => ⟨_, _, k1, ⟨rfl, ob', rfl, k2⟩, Own.join hO k3⟩) (fun v1 L1 hv1 => ?_)))))
  obtain ⟨rfl, ob1, rfl, hR1⟩ := hv1
  refine zH (L' := ob1 ++ ([⟨b1, (ndV ⟨op, (a : Int), (b0 : Int), key, text⟩).cells, 48⟩])) (by simp) ?_
  have hS1 : (nd ++ TZa nd.length).length ≤ 100000 := by (try simp only [List.length_append, List.length_cons, List.length_nil] at hzl ⊢); omega
  refine ZR (Zv (.pointer (some ⟨b, 0, none⟩)) (Zc (k := 56) (args := #[.pointer (some ⟨b, 0, none⟩)]) (.int .i64 (((nd ++ TZa nd.length).length : Int) - 1)) (fun w hO => nlast10 (W := w) hR1 hO (fun x hx => by simp [hx]) (by have := hS1; omega)) (Zv (.int .i64 (((nd ++ TZa nd.length).length : Int) - 1)) (ZR (Zv (.pointer (some ⟨b, 0, none⟩)) ?_)))))
  refine Zv (.slice A l.length cap) (Zv (.slice V vs.length cv) (Zv (.pointer (some ⟨b1, 2, none⟩)) (zX ⟨b1, (ndV ⟨op, (a : Int), (b0 : Int), key, text⟩).cells, 48⟩ (off := 2) (.int .i64 (b0 : Int)) (by kernel_rfl) rfl (by simp) (by kernel_rfl) (by kernel_rfl) (zH (L' := ob1 ++ ([⟨b1, (ndV ⟨op, (a : Int), (b0 : Int), key, text⟩).cells, 48⟩] : List Blk)) (by simp) (zO (k := 31) (args := #[.pointer (some ⟨b, 0, none⟩), .slice A l.length cap, .slice V vs.length cv, .int .i64 (b0 : Int)]) (fun v' L' => v' = .tuple #[] ∧ ∃ ob', L' = ob' ++ ([⟨b1, (ndV ⟨op, (a : Int), (b0 : Int), key, text⟩).cells, 48⟩] : List Blk) ∧ Nb b ((nd ++ TZa nd.length) ++ TZb (nd ++ TZa nd.length).length) ob') (by kernel_rfl) (fun _ => by kernel_rfl) (fun w hO => (hb0' _ _ _ _ (hL.at hR1 hO) (by (try simp only [List.length_append, List.length_cons, List.length_nil] at hzl ⊢); omega)).mono fun e w' ⟨ob', k1, k2, k3⟩ => ⟨_, _, k1, ⟨rfl, ob', rfl, k2⟩, Own.join hO k3⟩) (fun v2 L2 hv2 => ?_))))))
  obtain ⟨rfl, ob2, rfl, hR2⟩ := hv2
  refine zH (L' := ob2 ++ ([⟨b1, (ndV ⟨op, (a : Int), (b0 : Int), key, text⟩).cells, 48⟩])) (by simp) ?_
  have hS2 : ((nd ++ TZa nd.length) ++ TZb (nd ++ TZa nd.length).length).length ≤ 100000 := by (try simp only [List.length_append, List.length_cons, List.length_nil] at hzl ⊢); omega
  refine ZN (z7 (Zv (.pointer (some ⟨b, 0, none⟩)) (Zv (.pointer (some ⟨b1, 0, none⟩)) (zX ⟨b1, (ndV ⟨op, (a : Int), (b0 : Int), key, text⟩).cells, 48⟩ (off := 0) (.int .i64 op) (by kernel_rfl) rfl (by simp) (by kernel_rfl) (by kernel_rfl) (Zv (.int .i64 (((nd ++ TZa nd.length).length : Int) - 1)) (zH (L' := ob2 ++ ([⟨b1, (ndV ⟨op, (a : Int), (b0 : Int), key, text⟩).cells, 48⟩] : List Blk)) (by simp) (zO (k := 57) (args := #[.pointer (some ⟨b, 0, none⟩), .int .i64 op, .int .i64 (((nd ++ TZa nd.length).length : Int) - 1)]) (fun v' L' => v' = .tuple #[] ∧ ∃ ob', L' = ob' ++ ([⟨b1, (ndV ⟨op, (a : Int), (b0 : Int), key, text⟩).cells, 48⟩] : List Blk) ∧ Nb b (((nd ++ TZa nd.length) ++ TZb (nd ++ TZa nd.length).length) ++ [(⟨op, ((nd ++ TZa nd.length).length : Int) - 1, (((nd ++ TZa nd.length) ++ TZb (nd ++ TZa nd.length).length).length : Int) - 1, 0, []⟩ : Nd)]) ob') (by kernel_rfl) (fun _ => by kernel_rfl) (fun w hO => (tW hR2 (Own.lent hO) (by have := hS2; omega) op (((nd ++ TZa nd.length).length : Int) - 1)).mono fun e w' ⟨ob', k1, k2, k3⟩ => ⟨_, _, k1, ⟨rfl, ob', rfl, k2⟩, Own.join hO k3⟩) (fun v3 L3 hv3 => ?_))))))))
  obtain ⟨rfl, ob3, rfl, hR3⟩ := hv3
  refine zH (L' := ob3 ++ ([⟨b1, (ndV ⟨op, (a : Int), (b0 : Int), key, text⟩).cells, 48⟩])) (by simp) ?_
  have hS3 : (((nd ++ TZa nd.length) ++ TZb (nd ++ TZa nd.length).length) ++ [(⟨op, ((nd ++ TZa nd.length).length : Int) - 1, (((nd ++ TZa nd.length) ++ TZb (nd ++ TZa nd.length).length).length : Int) - 1, 0, []⟩ : Nd)]).length ≤ 100000 := by (try simp only [List.length_append, List.length_cons, List.length_nil] at hzl ⊢); omega
  exact zK (zJ (yM Tryd.results31 (fun w hO => ⟨_, rfl, ⟨hR3.re (by simp [List.length_append] <;> omega), hO.sublist (by simp)⟩⟩)))
theorem kR {A : Option Addr} {cap : Nat} {l : List Nd} (hn : l.length ≤ 1000) {V : Option Addr} {cv : Nat} {vs : List Int} (hvn : vs.length ≤ 1000) (e : Pf) : ∀ (t : Tr) (o : Nat), t.ok = true → xA l o t → gE e vs o t → evT e t = 1 → RestTo A cap l V cv vs (o + t.sz - 1) (fun q => (zI e t).enc q)
  | .is k v, o, hok, hs, _, _ => by
    unfold Tr.ok at hok
    simp only [Bool.and_eq_true, decide_eq_true_eq] at hok
    exact (rs_is hn hvn (hs 0 _ rfl) rfl (by have := wF hok.2; show v.length ≤ _; omega)).to fun q => rfl
  | .no x, o, hok, hs, hv, h1 => by
    have hxz := x.sz_pos
    have hx1 : evT e x = 1 := by unfold evT at h1; omega
    have hs1 : xA l o x := yL hs
    have hv1 : gE e vs o x := qC hv
    have hr := yD (k := x.sz) (Tr.enc_len x o) hs 0 _ rfl
    have ih := kR (A := A) (cap := cap) (V := V) (cv := cv) hn hvn e x o hok hs1 hv1 hx1
    have goal : RestTo A cap l V cv vs (o + x.sz + 0) (fun q => (zI e (.no x)).enc q) := (rs_not hn hvn hr rfl ih).to fun q => by
      have hz := (zI e x).sz_pos
      show _ = (zI e x).enc q ++ [⟨2, ((q + (zI e x).sz - 1 : Nat) : Int), 0, 0, []⟩]
      rw [Tr.enc_len, show (((q + (zI e x).sz : Nat) : Int) - 1) = ((q + (zI e x).sz - 1 : Nat) : Int) by omega]
    show RestTo A cap l V cv vs (o + (x.sz + 1) - 1) _
    rw [show o + (x.sz + 1) - 1 = o + x.sz + 0 by omega]; exact goal
  | .both x y, o, hok, hs, hv, h1 => by
    unfold Tr.ok at hok
    rw [Bool.and_eq_true] at hok
    obtain ⟨p1, p2⟩ := wD h1
    have hxz := x.sz_pos
    have hyz := y.sz_pos
    have hs0 : ∀ i u, (x.enc o ++ y.enc (o + x.sz))[i]? = some u → l[o + i]? = some u := yL hs
    have hs1 : xA l o x := yL hs0
    have hs2 : xA l (o + x.sz) y := yD (Tr.enc_len x o) hs0
    have hv0 : ∀ i z, (vlT e x ++ vlT e y)[i]? = some z → vs[o + i]? = some z := qC hv
    have hv1 : gE e vs o x := qC hv0
    have hv2 : gE e vs (o + x.sz) y := bE (zQ e x) hv0
    have hr := yD (k := x.sz + y.sz) (by rw [List.length_append, Tr.enc_len, Tr.enc_len]) hs 0 _ rfl
    have ra := vM hv1
    have rb := vM hv2
    have goal : RestTo A cap l V cv vs (o + (x.sz + y.sz) + 0) (fun q => (zI e (.both x y)).enc q) := by
      by_cases hx : evT e x = 1
      · by_cases hy : evT e y = 1
        · have ihx := kR (A := A) (cap := cap) (V := V) (cv := cv) hn hvn e x o hok.1 hs1 hv1 hx
          have ihy := kR (A := A) (cap := cap) (V := V) (cv := cv) hn hvn e y (o + x.sz) hok.2 hs2 hv2 hy
          refine (rs_b hn hvn hr (by decide) (by decide) ra hx rb hy ihx ihy).to fun q => ?_
          have e1 : zI e (.both x y) = .both (zI e x) (zI e y) := by simp [zI, hx, hy]
          rw [e1]
          have hz := (zI e x).sz_pos
          have hz2 := (zI e y).sz_pos
          show _ = (zI e x).enc q ++ (zI e y).enc (q + (zI e x).sz) ++ [⟨3, ((q + (zI e x).sz - 1 : Nat) : Int), ((q + (zI e x).sz + (zI e y).sz - 1 : Nat) : Int), 0, []⟩]
          simp only [Tr.enc_len]
          rw [show (((q + (zI e x).sz : Nat) : Int) - 1) = ((q + (zI e x).sz - 1 : Nat) : Int) by omega, show (((q + (zI e x).sz + (zI e y).sz : Nat) : Int) - 1) = ((q + (zI e x).sz + (zI e y).sz - 1 : Nat) : Int) by omega]
        · have ihx := kR (A := A) (cap := cap) (V := V) (cv := cv) hn hvn e x o hok.1 hs1 hv1 hx
          have e1 : zI e (.both x y) = zI e x := by simp [zI, hy]
          refine (rs_l hn hvn hr (by decide) (by decide) ra hx rb hy ihx).to fun q => ?_
          rw [e1]
      · have hy := (p2 hx).1
        have ihy := kR (A := A) (cap := cap) (V := V) (cv := cv) hn hvn e y (o + x.sz) hok.2 hs2 hv2 hy
        have e1 : zI e (.both x y) = zI e y := by simp [zI, hx, hy]
        refine (rs_r hn hvn hr (by decide) (by decide) ra hx ihy).to fun q => ?_
        rw [e1]
    show RestTo A cap l V cv vs (o + (x.sz + y.sz + 1) - 1) _
    rw [show o + (x.sz + y.sz + 1) - 1 = o + (x.sz + y.sz) + 0 by omega]; exact goal
  | .one x y, o, hok, hs, hv, h1 => by
    unfold Tr.ok at hok
    rw [Bool.and_eq_true] at hok
    obtain ⟨p1, p2⟩ := bK h1
    have hxz := x.sz_pos
    have hyz := y.sz_pos
    have hs0 : ∀ i u, (x.enc o ++ y.enc (o + x.sz))[i]? = some u → l[o + i]? = some u := yL hs
    have hs1 : xA l o x := yL hs0
    have hs2 : xA l (o + x.sz) y := yD (Tr.enc_len x o) hs0
    have hv0 : ∀ i z, (vlT e x ++ vlT e y)[i]? = some z → vs[o + i]? = some z := qC hv
    have hv1 : gE e vs o x := qC hv0
    have hv2 : gE e vs (o + x.sz) y := bE (zQ e x) hv0
    have hr := yD (k := x.sz + y.sz) (by rw [List.length_append, Tr.enc_len, Tr.enc_len]) hs 0 _ rfl
    have ra := vM hv1
    have rb := vM hv2
    have goal : RestTo A cap l V cv vs (o + (x.sz + y.sz) + 0) (fun q => (zI e (.one x y)).enc q) := by
      by_cases hx : evT e x = 1
      · by_cases hy : evT e y = 1
        · have ihx := kR (A := A) (cap := cap) (V := V) (cv := cv) hn hvn e x o hok.1 hs1 hv1 hx
          have ihy := kR (A := A) (cap := cap) (V := V) (cv := cv) hn hvn e y (o + x.sz) hok.2 hs2 hv2 hy
          refine (rs_b hn hvn hr (by decide) (by decide) ra hx rb hy ihx ihy).to fun q => ?_
          have e1 : zI e (.one x y) = .one (zI e x) (zI e y) := by simp [zI, hx, hy]
          rw [e1]
          have hz := (zI e x).sz_pos
          have hz2 := (zI e y).sz_pos
          show _ = (zI e x).enc q ++ (zI e y).enc (q + (zI e x).sz) ++ [⟨4, ((q + (zI e x).sz - 1 : Nat) : Int), ((q + (zI e x).sz + (zI e y).sz - 1 : Nat) : Int), 0, []⟩]
          simp only [Tr.enc_len]
          rw [show (((q + (zI e x).sz : Nat) : Int) - 1) = ((q + (zI e x).sz - 1 : Nat) : Int) by omega, show (((q + (zI e x).sz + (zI e y).sz : Nat) : Int) - 1) = ((q + (zI e x).sz + (zI e y).sz - 1 : Nat) : Int) by omega]
        · have ihx := kR (A := A) (cap := cap) (V := V) (cv := cv) hn hvn e x o hok.1 hs1 hv1 hx
          have e1 : zI e (.one x y) = zI e x := by simp [zI, hy]
          refine (rs_l hn hvn hr (by decide) (by decide) ra hx rb hy ihx).to fun q => ?_
          rw [e1]
      · have hy := (p2 hx).1
        have ihy := kR (A := A) (cap := cap) (V := V) (cv := cv) hn hvn e y (o + x.sz) hok.2 hs2 hv2 hy
        have e1 : zI e (.one x y) = zI e y := by simp [zI, hx, hy]
        refine (rs_r hn hvn hr (by decide) (by decide) ra hx ihy).to fun q => ?_
        rw [e1]
    show RestTo A cap l V cv vs (o + (x.sz + y.sz + 1) - 1) _
    rw [show o + (x.sz + y.sz + 1) - 1 = o + (x.sz + y.sz) + 0 by omega]; exact goal
theorem Own.sl_out {M : List Nat} {W w : World} {ob ov R : List Blk} {A : Option Addr} {n : Nat} {vs : List Int} {cv : Nat} (hO : Own M W w (ob ++ (ov ++ R))) (h : SlZ (.slice A n cv) vs ov) (hn : vs.length = n) : ReadsA (ob.map Blk.b) zC w A vs := fun h0 => by
  subst hn
  obtain ⟨g, cur, e1, e2, _⟩ := Sl.block h h0
  obtain ⟨b, off, e3, hlt, hc⟩ := Sl.reads h rfl hO (fun x hx => List.mem_append_right _ (List.mem_append_left _ hx)) h0
  refine ⟨b, off, e3, hlt, fun hb => ?_, hc⟩
  rw [e1] at e3
  injection e3 with e3
  injection e3 with e4 _
  have ha := hO.apart
  rw [List.map_append, List.nodup_append] at ha
  exact ha.2.2 b hb g (by rw [e2]; simp) e4.symm
theorem reads_out {W w : World} {ob R : List Blk} {A : Option Addr} {l : List Nd} (hv : Reads nC W W.heap.size A l) (hO : Own [] W w (ob ++ R)) : ReadsA (ob.map Blk.b) nC w A l := fun h0 => by
  obtain ⟨b, off, e, hlt, hc⟩ := hv.on hO.below (Nat.le_refl _) h0
  refine ⟨b, off, e, Nat.lt_of_lt_of_le hlt hO.size, fun hb => ?_, hc⟩
  obtain ⟨x, hx, ex⟩ := List.mem_map.1 hb
  rcases hO.base x (List.mem_append_left _ hx) with q | q
  · omega
  · cases q
theorem rest_call {A : Option Addr} {cap : Nat} {l : List Nd} {V : Option Addr} {cv : Nat} {e : Pf} {t : Tr} {b : Nat} {ob : List Blk} (hn : l.length ≤ 1000) (hok : t.ok = true) (hl : l = t.enc 0) (hsz : t.sz ≤ 15) (hev : evT e t = 1) (w : World) (hL : LentN b A V l (vlT e t) [] ob w) :
    Calls Tryd.prog 31 #[.pointer (some ⟨b, 0, none⟩), .slice A l.length cap, .slice V (vlT e t).length cv, .int .i64 ((l.length : Int) - 1)] w fun x w' => ∃ ob', x = .returned (.tuple #[]) ∧ BackN b ((zI e t).enc 0) ob ob' w w' := by
  have hlen : l.length = t.sz := by rw [hl, Tr.enc_len]
  have hpos := t.sz_pos
  have hvl := zQ e t
  have hs2 := vJ e t
  have q := kR (A := A) (cap := cap) (V := V) (cv := cv) hn (by omega : (vlT e t).length ≤ 1000) e t 0 hok (hl ▸ gS t) (fun i z h => by rw [Nat.zero_add]; exact h) hev b [] ob w hL (by rw [Tr.enc_len]; simp only [List.length_nil]; omega)
  rw [show ((0 + t.sz - 1 : Nat) : Int) = (l.length : Int) - 1 by omega] at q
  exact q
theorem qY (A : Option Addr) (cap : Nat) (l : List Nd) (e : Pf) (W : World) (hv : Reads nC W W.heap.size A l) (hn : l.length ≤ 1000) (ht : ∀ n ∈ l, n.text.length ≤ 1000000) (he : PfS e) (hK : MkLib W) : Calls Tryd.prog 16 #[.agg #[.slice A l.length cap], pfV e] W fun x w' => ∃ v' ob', x = .returned (.tuple #[.agg #[v'], .int .i64 (zL l e)]) ∧ SlN v' (zN l e) ob' ∧ Own [] W w' ob' := by
  refine zU (n := 30) Tryd.func16 rfl (by kernel_rfl) (by kernel_rfl) (ZO (Zb (.agg #[.slice A l.length cap]) (fun b1 => Zb (pfV e) (fun b2 => Za (.agg #[.slice none 0 0]) (fun b3 => Zv (.int .i64 0) (ZR (Zl 2 ⟨b1, #[.slice A l.length cap], 25⟩ (off := 0) (.agg #[.slice A l.length cap]) ?_)))))))
  refine Zl 1 ⟨b2, (pfV e).cells, 33⟩ (off := 0) (pfV e) (Zc (k := 24) (args := #[.agg #[.slice A l.length cap], pfV e]) (.int .i64 (zL l e)) (fun w hO => x2 A cap l e w (hv.on hO.below hO.size) hn ht he (hK.on hO.below)) (Zv (.int .i64 (zL l e)) (ZN (zF (ZO (Zv (.int .i64 (zL l e)) ?_))))))
  by_cases h1 : (zL l e : Int) = 1
  · obtain ⟨t, hok, hl, hsz, hev, hun⟩ := w6 h1
    have hlen : l.length = t.sz := by rw [hl, Tr.enc_len]
    have hpos := t.sz_pos
    have hvl := zQ e t
    have hst : xA l 0 t := hl ▸ gS t
    have hvst : gE e (vlT e t) 0 t := fun i z h => by rw [Nat.zero_add]; exact h
    have hnl : ((0 + t.sz - 1 : Nat) : Int) = (l.length : Int) - 1 := by omega
    have hls := vJ e t
    refine Zn (p := (zL l e : Int) = 1) true (decide_eq_true (h1)) (ZX (ZB (ZO (Za (.agg #[.slice none 0 0]) (fun b4 => ZN (zF ?_))))))
    obtain ⟨ob0, hob0⟩ : ∃ ob0 : List Blk, ob0 = [⟨b4, #[.slice none 0 0], 53⟩] := ⟨_, rfl⟩
    have hNb : Nb b4 [] ob0 := ⟨none, 0, [], hob0, Sl.nil _ _⟩
    refine yB (L' := (ob0 ++ ([] : List Blk)) ++ ([⟨b3, #[.slice none 0 0], 25⟩, ⟨b2, (pfV e).cells, 33⟩, ⟨b1, #[.slice A l.length cap], 25⟩])) (by rw [hob0]; rfl) (kQ ([⟨b3, #[.slice none 0 0], 25⟩, ⟨b2, (pfV e).cells, 33⟩, ⟨b1, #[.slice A l.length cap], 25⟩]) (by kernel_rfl) (fun w hO => Own.sub (ob0 ++ ([] : List Blk)) hO) (ZT 0 (ob0 ++ ([] : List Blk)) _ (.pointer (some ⟨b1, 0, none⟩)) (zA zB) rfl (ZL 1 (ob0 ++ ([] : List Blk)) _ 2 ⟨b1, #[.slice A l.length cap], 25⟩ (off := 0) (.slice A l.length cap) (zA zB) rfl rfl (ZT 2 (ob0 ++ ([] : List Blk)) _ (.pointer (some ⟨b1, 0, none⟩)) (zA zB) rfl (ZL 3 (ob0 ++ ([] : List Blk)) _ 2 ⟨b1, #[.slice A l.length cap], 25⟩ (off := 0) (.slice A l.length cap) (zA zB) rfl rfl (ZL 4 (ob0 ++ ([] : List Blk)) _ 1 ⟨b2, (pfV e).cells, 33⟩ (off := 0) (pfV e) (zA zB) rfl rfl (ZT 6 (ob0 ++ ([] : List Blk)) _ (.pointer (some ⟨b1, 0, none⟩)) (zA zB) rfl (ZL 7 (ob0 ++ ([] : List Blk)) _ 2 ⟨b1, #[.slice A l.length cap], 25⟩ (off := 0) (.slice A l.length cap) (zA zB) rfl rfl (ZT 8 (ob0 ++ ([] : List Blk)) _ (.int .i64 (l.length : Int)) (zA zB) rfl (vZ (k := .i64) 9 _ ((l.length : Int) - 1) rfl (by kernel_rfl) (by kernel_rfl) (by kernel_rfl) (zA zB) (fun w hO => Own.sub (ob0 ++ ([] : List Blk)) hO) (by kernel_rfl) (fun _ => by kernel_rfl) (IntWalk.i64_in _ (by omega)) (yK 5 (by kernel_rfl) ?_)))))))))))
    refine vW _ (k := 32) (args := #[.slice A l.length cap, pfV e]) (fun v' L' => ∃ ob', L' = ob' ++ ((ob0 ++ ([] : List Blk)) ++ ([⟨b3, #[.slice none 0 0], 25⟩, ⟨b2, (pfV e).cells, 33⟩, ⟨b1, #[.slice A l.length cap], 25⟩])) ∧ SlZ v' (vlT e t) ob') rfl (by kernel_rfl) (fun _ => by kernel_rfl) (fun w hO => (dP A cap e t l w hl hok (hv.on hO.below hO.size) hn).mono fun e w' ⟨v', ob', k1, k2, k3⟩ => ⟨v', _, k1, ⟨ob', rfl, k2⟩, Own.joinN hO k3⟩) (fun v' L' ⟨ob', e, _⟩ w hO => by subst e; exact Own.sub (ob0 ++ ([] : List Blk)) (Own.sub ob' hO)) (fun vs L2 hv2 => ?_)
    obtain ⟨ov, rfl, hvs⟩ := hv2
    obtain ⟨V, cv, rfl⟩ := Sl.form hvs
    refine yT (L' := (ov ++ (ob0 ++ ([] : List Blk))) ++ ([⟨b3, #[.slice none 0 0], 25⟩, ⟨b2, (pfV e).cells, 33⟩, ⟨b1, #[.slice A l.length cap], 25⟩])) (List.append_assoc _ _ _).symm (yK 10 (by kernel_rfl) (hs_front (E' := (ob0 ++ (ov ++ ([] : List Blk)))) (by simpa [List.append_assoc] using (List.perm_append_comm (l₁ := ov) (l₂ := ob0)).append_right ([] : List Blk)) (pZ (L' := ob0 ++ ((ov ++ ([] : List Blk)) ++ ([⟨b3, #[.slice none 0 0], 25⟩, ⟨b2, (pfV e).cells, 33⟩, ⟨b1, #[.slice A l.length cap], 25⟩]))) (by simp <;> rfl) (vW _ (k := 31) (args := #[.pointer (some ⟨b4, 0, none⟩), .slice A l.length cap, .slice V ((vlT e t).length) cv, .int .i64 ((l.length : Int) - 1)]) (fun v' L' => v' = .tuple #[] ∧ ∃ ob', L' = ob' ++ ((ov ++ ([] : List Blk)) ++ ([⟨b3, #[.slice none 0 0], 25⟩, ⟨b2, (pfV e).cells, 33⟩, ⟨b1, #[.slice A l.length cap], 25⟩])) ∧ Nb b4 ((zI e t).enc 0) ob') rfl (by kernel_rfl) (fun _ => by kernel_rfl) (fun w hO => (rest_call (cap := cap) (cv := cv) hn hok hl hsz hev w (⟨hNb, Own.lent hO, reads_out hv hO, Own.sl_out (by simpa [List.append_assoc] using hO) hvs rfl⟩ : LentN b4 A V l (vlT e t) [] ob0 w)).mono fun e w' ⟨ob', k1, k2, k3⟩ => ⟨_, _, k1, ⟨rfl, ob', rfl, k2⟩, Own.back hO k3⟩) (fun v' L' ⟨_, ob', e, _⟩ w hO => by subst e; exact Own.sub (ov ++ ([] : List Blk)) (Own.sub ob' hO)) (fun vlob1 Llob1 hvlob1 => ?_)))))
    obtain ⟨rfl, ob1, rfl, hNb1⟩ := hvlob1
    refine yT (L' := (ob1 ++ (ov ++ ([] : List Blk))) ++ ([⟨b3, #[.slice none 0 0], 25⟩, ⟨b2, (pfV e).cells, 33⟩, ⟨b1, #[.slice A l.length cap], 25⟩])) (by simp <;> rfl) (xR (by kernel_rfl) (z8 (zF ?_)))
    obtain ⟨C9, c9, g9, hob9, hsl9⟩ := hNb1
    refine yB (L' := ⟨b4, #[.slice C9 (((zI e t).enc 0).length) c9], 53⟩ :: (g9 ++ (ov ++ ([⟨b3, #[.slice none 0 0], 25⟩, ⟨b2, (pfV e).cells, 33⟩, ⟨b1, #[.slice A l.length cap], 25⟩])))) (by rw [hob9]; simp) (z7 (Zv (.pointer (some ⟨b4, 0, none⟩)) (Zl 0 ⟨b4, #[.slice C9 (((zI e t).enc 0).length) c9], 53⟩ (off := 0) (.slice C9 (((zI e t).enc 0).length) c9) (Zv (.agg #[.slice C9 (((zI e t).enc 0).length) c9]) (Zv (.int .i64 (zL l e)) (zH (L' := ⟨b4, #[.slice C9 (((zI e t).enc 0).length) c9], 53⟩ :: (g9 ++ (ov ++ ([⟨b3, #[.slice none 0 0], 25⟩, ⟨b2, (pfV e).cells, 33⟩, ⟨b1, #[.slice A l.length cap], 25⟩])))) rfl (yI (L' := ⟨b3, #[.slice none 0 0], 25⟩ :: (⟨b4, #[.slice C9 (((zI e t).enc 0).length) c9], 53⟩ :: (g9 ++ (ov ++ ([⟨b2, (pfV e).cells, 33⟩, ⟨b1, #[.slice A l.length cap], 25⟩]))))) (fun w hO => hO.perm (by simpa [List.append_assoc] using (List.perm_middle (a := ⟨b3, #[.slice none 0 0], 25⟩) (l₁ := (⟨b4, #[.slice C9 (((zI e t).enc 0).length) c9], 53⟩ :: (g9 ++ (ov ++ ([] : List Blk))))) (l₂ := [⟨b2, (pfV e).cells, 33⟩, ⟨b1, #[.slice A l.length cap], 25⟩])))) (Zs 0 ⟨b3, #[.slice none 0 0], 25⟩ (off := 0) (.agg #[.slice C9 (((zI e t).enc 0).length) c9]) (Zv (.int .i64 (zL l e)) (zK (z8 ?_)))))))))))
    exact zG (ZD 0 ⟨b3, #[.slice C9 (((zI e t).enc 0).length) c9], 25⟩ (off := 0) (.agg #[.slice C9 (((zI e t).enc 0).length) c9]) (.int .i64 (zL l e)) Tryd.results16 (fun w hO => ⟨_, g9, rfl, by rw [hun]; exact hsl9, hO.sublist (((List.sublist_append_left _ _).cons _).cons _)⟩))
  refine Zn (p := (zL l e : Int) = 1) false (decide_eq_false (h1)) (ZY (ZO (Zv (.agg #[.slice none 0 0]) (Zv (.int .i64 (zL l e)) (Zs 0 ⟨b3, #[.slice none 0 0], 25⟩ (off := 0) (.agg #[.slice none 0 0]) (Zv (.int .i64 (zL l e)) (zK (z8 ?_))))))))
  exact zG (z5 (ZD 0 ⟨b3, #[.slice none 0 0], 25⟩ (off := 0) (.agg #[.slice none 0 0]) (.int .i64 (zL l e)) Tryd.results16 (fun w hO => ⟨_, [], rfl, by rw [gR h1]; exact Sl.nil _ _, hO.sublist (List.nil_sublist _)⟩)))
end
section
set_option linter.unnecessarySimpa false
theorem rnotL {B b : Nat} {ts : List Tok} {nd : List Nd} {bad : Bool} {ob : List Blk} {W : World} (hL : LentL B b ts nd bad ob W) : Calls Tryd.prog 55 #[.pointer (some ⟨b, 0, none⟩)] W fun e w' => ∃ ob', e = .returned (.tuple #[]) ∧ BackL B b ts (nd ++ [⟨2, (nd.length : Int) - 1, 0, 0, []⟩]) bad ob ob' W w' := by
  obtain ⟨A, cap, hw, hcap, hb⟩ := hL.rd
  exact (mR hb hL.own (by have := hL.small; omega)).mono fun e w' ⟨ob', k1, k2, k3⟩ => ⟨ob', k1, ⟨A, cap, hw, hcap, k2⟩, k3, hL.short, bH hL.texts (by simp)⟩
theorem rjoinL {B b : Nat} {ts : List Tok} {nd : List Nd} {bad : Bool} {ob : List Blk} {W : World} (hL : LentL B b ts nd bad ob W) (op a : Int) : Calls Tryd.prog 57 #[.pointer (some ⟨b, 0, none⟩), .int .i64 op, .int .i64 a] W fun e w' => ∃ ob', e = .returned (.tuple #[]) ∧ BackL B b ts (nd ++ [⟨op, a, (nd.length : Int) - 1, 0, []⟩]) bad ob ob' W w' := by
  obtain ⟨A, cap, hw, hcap, hb⟩ := hL.rd
  exact (tO hb hL.own (by have := hL.small; omega) op a).mono fun e w' ⟨ob', k1, k2, k3⟩ => ⟨ob', k1, ⟨A, cap, hw, hcap, k2⟩, k3, hL.short, bH hL.texts (by simp)⟩
structure ChainL (n : Nat) (word : Tok) (op : Int) (k : FuncId) (part : List Tok → Option (Tr × List Tok)) : Prop where
  go : ∀ {B b : Nat} {ts : List Tok} {nd : List Nd} {bad : Bool} {ob : List Blk} {W : World}, LentL B b ts nd bad ob W → ts.length ≤ n →
    Calls Tryd.prog 46 #[.pointer (some ⟨b, 0, none⟩), .string (mkS word), .int .i64 op, .func (.func k) #[] #[]] W fun e w' => ∃ ts' nd' bad' ob', e = .returned (.tuple #[]) ∧ BackL B b ts' nd' bad' ob ob' W w' ∧ GotL part ts nd bad ts' nd' bad'
theorem chain_tAnd (n : Nat) (hp : wT 71 n (xO n)) : ChainL n xB 3 71 (qK n) := by
  refine ⟨fun {B b ts nd bad ob W} hL hln => ?_⟩
  have hM' := x4 hL.ge
  have hBW := hL.le
  refine y6 (n := 28) hL.own Tryd.func46 rfl (by kernel_rfl) (by kernel_rfl) (ZO (Zv (.func (.func 71) #[] #[]) (Zv (.pointer (some ⟨b, 0, none⟩)) (zH (L' := ob ++ ([] : List Blk)) (by simp) (zO (k := 71) (args := #[.pointer (some ⟨b, 0, none⟩)]) (fun v' L' => ∃ ts' nd' bd', v' = .tuple #[] ∧ ∃ ob', L' = ob' ++ ([] : List Blk) ∧ Rdr W B b ts' nd' bd' ob' ∧ ((∀ x ∈ ts', x.length ≤ 1000000) ∧ ∀ n ∈ nd', n.text.length ≤ 1000000) ∧ GotL (xO n) ts nd bad ts' nd' bd') (by kernel_rfl) (fun _ => by kernel_rfl) (fun w hO => (hp.go (hL.at hL.rd ⟨hL.short, hL.texts⟩ hL.small hO) (hln)).mono fun e w' ⟨ts', nd', bd', ob', k1, k2, k3⟩ => ⟨_, _, k1, ⟨ts', nd', bd', rfl, ob', rfl, k2.rd.back (hO.belowB hM' hBW), ⟨k2.short, k2.texts⟩, k3⟩, Own.join hO k2.own⟩) (fun v1 L1 hv1 => ?_))))))
  obtain ⟨ts1, nd1, bd1, rfl, ob1, rfl, hR1, hX1, hG1⟩ := hv1
  refine zH (L' := ob1) (List.append_nil _) ?_
  have hS1 : nd1.length + ts1.length ≤ 10000 := Nat.le_trans hG1.1 hL.small
  have hT1 := hG1.2.1
  refine ZN (zP (yB (L' := ob1 ++ ([] : List Blk)) (by simp) (xT (fun L f m => ∃ (tq : List Tok) (nq : List Nd) (bq : Bool) (oq : List Blk) (j : Nat → Value), (ChL (xO n) xB .both ts nd bad tq nq bq ∧ Rdr W B b tq nq bq oq ∧ ((∀ x ∈ tq, x.length ≤ 1000000) ∧ ∀ n ∈ nq, n.text.length ≤ 1000000) ∧ nq.length + tq.length ≤ 10000) ∧ L = (oq ++ ([] : List Blk)) ∧ f = qT j [(0, .pointer (some ⟨b, 0, none⟩)), (1, .string (mkS xB)), (2, .int .i64 3), (3, .func (.func 71) #[] #[])] ∧ m = tq.length) (ts1.length) ⟨ts1, nd1, bd1, ob1, _, ⟨cl_start hG1, hR1, hX1, hS1⟩, rfl, ZU, rfl⟩ ?_)))
  rintro L f m ⟨tq, nq, bq, oq, j, hrel, rfl, rfl, rfl⟩
  obtain ⟨hch, hRq, hXq, hsq⟩ := hrel; refine yB (L' := oq) (by simp) ?_
  refine zF (ZO (Zv (.pointer (some ⟨b, 0, none⟩)) (Zv (.string (mkS xB)) (zH (L' := oq ++ ([] : List Blk)) (by simp) (zO (k := 70) (args := #[.pointer (some ⟨b, 0, none⟩), .string (mkS xB)]) (fun v' L' => v' = .bool (xE xB tq) ∧ ∃ ob', L' = ob' ++ ([] : List Blk) ∧ Rdr W B b (yJ xB tq) nq bq ob' ∧ ((∀ x ∈ (yJ xB tq), x.length ≤ 1000000) ∧ ∀ n ∈ nq, n.text.length ≤ 1000000)) (by kernel_rfl) (fun _ => by kernel_rfl) (fun w hO => (j5 (hL.at hRq hXq hsq hO) xB).mono fun e w' ⟨ob', k1, k2⟩ => ⟨_, _, k1, ⟨rfl, ob', rfl, k2.rd.back (hO.belowB hM' hBW), ⟨k2.short, k2.texts⟩⟩, Own.join hO k2.own⟩) (fun v2 L2 hv2 => ?_))))))
  obtain ⟨rfl, ob2, rfl, hR2, hX2⟩ := hv2
  refine zH (L' := ob2) (List.append_nil _) ?_
  have hS2 : nq.length + (yJ xB tq).length ≤ 10000 := Nat.le_trans (Nat.add_le_add_left (qF _ _) _) hsq
  refine zK (z8 ?_)
  cases h1 : xE xB tq with
  | true =>
    obtain ⟨r, htq, hnr⟩ := kS h1
    have htl : tq.length = r.length + 1 := by rw [htq]; rfl
    have hnl9 := congrArg List.length hnr
    have hrest : nq.length + r.length + 1 ≤ 10000 := by have := hsq; omega
    refine Zt (ZB (zP (ZO (Zv (.pointer (some ⟨b, 0, none⟩)) (Zv (.pointer (some ⟨b, 0, none⟩)) (Zv (.pointer (some ⟨b, 0, none⟩)) (Zc (k := 56) (args := #[.pointer (some ⟨b, 0, none⟩)]) (.int .i64 ((nq.length : Int) - 1)) (fun w hO => rlast10 hR2 hO (fun x hx => by simp [hx]) (by have := hS2; omega)) (Zv (.int .i64 ((nq.length : Int) - 1)) (zK ?_)))))))))
    refine z8 (ZO (Zv (.func (.func 71) #[] #[]) (Zv (.pointer (some ⟨b, 0, none⟩)) (zH (L' := ob2 ++ ([] : List Blk)) (by simp) (zO (k := 71) (args := #[.pointer (some ⟨b, 0, none⟩)]) (fun v' L' => ∃ ts' nd' bd', v' = .tuple #[] ∧ ∃ ob', L' = ob' ++ ([] : List Blk) ∧ Rdr W B b ts' nd' bd' ob' ∧ ((∀ x ∈ ts', x.length ≤ 1000000) ∧ ∀ n ∈ nd', n.text.length ≤ 1000000) ∧ GotL (xO n) (yJ xB tq) nq bq ts' nd' bd') (by kernel_rfl) (fun _ => by kernel_rfl) (fun w hO => (hp.go (hL.at hR2 hX2 hS2 hO) (by rw [hnr]; have := hch.2.1; omega)).mono fun e w' ⟨ts', nd', bd', ob', k1, k2, k3⟩ => ⟨_, _, k1, ⟨ts', nd', bd', rfl, ob', rfl, k2.rd.back (hO.belowB hM' hBW), ⟨k2.short, k2.texts⟩, k3⟩, Own.join hO k2.own⟩) (fun v3 L3 hv3 => ?_))))))
    obtain ⟨ts3, nd3, bd3, rfl, ob3, rfl, hR3, hX3, hG3⟩ := hv3
    refine zH (L' := ob3) (List.append_nil _) ?_
    have hS3 : nd3.length + ts3.length ≤ 10000 := Nat.le_trans hG3.1 hS2
    have hT3 := hG3.2.1
    refine ZN (z7 (Zv (.pointer (some ⟨b, 0, none⟩)) (Zv (.pointer (some ⟨b, 0, none⟩)) (Zv (.pointer (some ⟨b, 0, none⟩)) (Zv (.int .i64 3) (Zv (.int .i64 ((nq.length : Int) - 1)) (zH (L' := ob3 ++ ([] : List Blk)) (by simp) (zO (k := 57) (args := #[.pointer (some ⟨b, 0, none⟩), .int .i64 3, .int .i64 ((nq.length : Int) - 1)]) (fun v' L' => v' = .tuple #[] ∧ ∃ ob', L' = ob' ++ ([] : List Blk) ∧ Rdr W B b ts3 (nd3 ++ [(⟨3, (nq.length : Int) - 1, (nd3.length : Int) - 1, 0, []⟩ : Nd)]) bd3 ob' ∧ ((∀ x ∈ ts3, x.length ≤ 1000000) ∧ ∀ n ∈ (nd3 ++ [(⟨3, (nq.length : Int) - 1, (nd3.length : Int) - 1, 0, []⟩ : Nd)]), n.text.length ≤ 1000000)) (by kernel_rfl) (fun _ => by kernel_rfl) (fun w hO => (rjoinL (hL.at hR3 hX3 hS3 hO) 3 ((nq.length : Int) - 1)).mono fun e w' ⟨ob', k1, k2⟩ => ⟨_, _, k1, ⟨rfl, ob', rfl, k2.rd.back (hO.belowB hM' hBW), ⟨k2.short, k2.texts⟩⟩, Own.join hO k2.own⟩) (fun v4 L4 hv4 => ?_)))))))))
    obtain ⟨rfl, ob4, rfl, hR4, hX4⟩ := hv4
    refine zH (L' := ob4) (List.append_nil _) ?_
    have hS4 : (nd3 ++ [(⟨3, (nq.length : Int) - 1, (nd3.length : Int) - 1, 0, []⟩ : Nd)]).length + ts3.length ≤ 10000 := by have q8 := hrest; have q9 := hG3.1; have q7 := hG3.2.1; rw [List.length_append, List.length_singleton]; omega
    exact zK (zJ (fE (L' := ob4 ++ ([] : List Blk)) (by simp) (zS (m' := ts3.length) (by omega) ⟨ts3, (nd3 ++ [(⟨3, (nq.length : Int) - 1, (nd3.length : Int) - 1, 0, []⟩ : Nd)]), bd3, ob4, _, ⟨cl_step (jT n) mk_both hch htq (hnr ▸ hG3), hR4, hX4, hS4⟩, rfl, ZU, rfl⟩)))
  | false =>
    have hno := (kI (of_decide_eq_false h1)).2
    exact Zf (xN (yG (zY (zZ (yM Tryd.results46 (fun w hO => ⟨tq, nq, bq, ob2, rfl, ⟨hno ▸ hR2, hO, (hno ▸ hX2).1, hXq.2⟩, cl_stop hch h1⟩))))))
theorem chain_tOr (n : Nat) (hp : wT 47 n (qK n)) : ChainL n tOr 4 47 (pOr n) := by
  refine ⟨fun {B b ts nd bad ob W} hL hln => ?_⟩
  have hM' := x4 hL.ge
  have hBW := hL.le
  refine y6 (n := 28) hL.own Tryd.func46 rfl (by kernel_rfl) (by kernel_rfl) (ZO (Zv (.func (.func 47) #[] #[]) (Zv (.pointer (some ⟨b, 0, none⟩)) (zH (L' := ob ++ ([] : List Blk)) (by simp) (zO (k := 47) (args := #[.pointer (some ⟨b, 0, none⟩)]) (fun v' L' => ∃ ts' nd' bd', v' = .tuple #[] ∧ ∃ ob', L' = ob' ++ ([] : List Blk) ∧ Rdr W B b ts' nd' bd' ob' ∧ ((∀ x ∈ ts', x.length ≤ 1000000) ∧ ∀ n ∈ nd', n.text.length ≤ 1000000) ∧ GotL (qK n) ts nd bad ts' nd' bd') (by kernel_rfl) (fun _ => by kernel_rfl) (fun w hO => (hp.go (hL.at hL.rd ⟨hL.short, hL.texts⟩ hL.small hO) (hln)).mono fun e w' ⟨ts', nd', bd', ob', k1, k2, k3⟩ => ⟨_, _, k1, ⟨ts', nd', bd', rfl, ob', rfl, k2.rd.back (hO.belowB hM' hBW), ⟨k2.short, k2.texts⟩, k3⟩, Own.join hO k2.own⟩) (fun v1 L1 hv1 => ?_))))))
  obtain ⟨ts1, nd1, bd1, rfl, ob1, rfl, hR1, hX1, hG1⟩ := hv1
  refine zH (L' := ob1) (List.append_nil _) ?_
  have hS1 : nd1.length + ts1.length ≤ 10000 := Nat.le_trans hG1.1 hL.small
  have hT1 := hG1.2.1
  refine ZN (zP (yB (L' := ob1 ++ ([] : List Blk)) (by simp) (xT (fun L f m => ∃ (tq : List Tok) (nq : List Nd) (bq : Bool) (oq : List Blk) (j : Nat → Value), (ChL (qK n) tOr .one ts nd bad tq nq bq ∧ Rdr W B b tq nq bq oq ∧ ((∀ x ∈ tq, x.length ≤ 1000000) ∧ ∀ n ∈ nq, n.text.length ≤ 1000000) ∧ nq.length + tq.length ≤ 10000) ∧ L = (oq ++ ([] : List Blk)) ∧ f = qT j [(0, .pointer (some ⟨b, 0, none⟩)), (1, .string (mkS tOr)), (2, .int .i64 4), (3, .func (.func 47) #[] #[])] ∧ m = tq.length) (ts1.length) ⟨ts1, nd1, bd1, ob1, _, ⟨cl_start hG1, hR1, hX1, hS1⟩, rfl, ZU, rfl⟩ ?_)))
  rintro L f m ⟨tq, nq, bq, oq, j, hrel, rfl, rfl, rfl⟩
  obtain ⟨hch, hRq, hXq, hsq⟩ := hrel; refine yB (L' := oq) (by simp) ?_
  refine zF (ZO (Zv (.pointer (some ⟨b, 0, none⟩)) (Zv (.string (mkS tOr)) (zH (L' := oq ++ ([] : List Blk)) (by simp) (zO (k := 70) (args := #[.pointer (some ⟨b, 0, none⟩), .string (mkS tOr)]) (fun v' L' => v' = .bool (xE tOr tq) ∧ ∃ ob', L' = ob' ++ ([] : List Blk) ∧ Rdr W B b (yJ tOr tq) nq bq ob' ∧ ((∀ x ∈ (yJ tOr tq), x.length ≤ 1000000) ∧ ∀ n ∈ nq, n.text.length ≤ 1000000)) (by kernel_rfl) (fun _ => by kernel_rfl) (fun w hO => (j5 (hL.at hRq hXq hsq hO) tOr).mono fun e w' ⟨ob', k1, k2⟩ => ⟨_, _, k1, ⟨rfl, ob', rfl, k2.rd.back (hO.belowB hM' hBW), ⟨k2.short, k2.texts⟩⟩, Own.join hO k2.own⟩) (fun v2 L2 hv2 => ?_))))))
  obtain ⟨rfl, ob2, rfl, hR2, hX2⟩ := hv2
  refine zH (L' := ob2) (List.append_nil _) ?_
  have hS2 : nq.length + (yJ tOr tq).length ≤ 10000 := Nat.le_trans (Nat.add_le_add_left (qF _ _) _) hsq
  refine zK (z8 ?_)
  cases h1 : xE tOr tq with
  | true =>
    obtain ⟨r, htq, hnr⟩ := kS h1
    have htl : tq.length = r.length + 1 := by rw [htq]; rfl
    have hnl9 := congrArg List.length hnr
    have hrest : nq.length + r.length + 1 ≤ 10000 := by have := hsq; omega
    refine Zt (ZB (zP (ZO (Zv (.pointer (some ⟨b, 0, none⟩)) (Zv (.pointer (some ⟨b, 0, none⟩)) (Zv (.pointer (some ⟨b, 0, none⟩)) (Zc (k := 56) (args := #[.pointer (some ⟨b, 0, none⟩)]) (.int .i64 ((nq.length : Int) - 1)) (fun w hO => rlast10 hR2 hO (fun x hx => by simp [hx]) (by have := hS2; omega)) (Zv (.int .i64 ((nq.length : Int) - 1)) (zK ?_)))))))))
    refine z8 (ZO (Zv (.func (.func 47) #[] #[]) (Zv (.pointer (some ⟨b, 0, none⟩)) (zH (L' := ob2 ++ ([] : List Blk)) (by simp) (zO (k := 47) (args := #[.pointer (some ⟨b, 0, none⟩)]) (fun v' L' => ∃ ts' nd' bd', v' = .tuple #[] ∧ ∃ ob', L' = ob' ++ ([] : List Blk) ∧ Rdr W B b ts' nd' bd' ob' ∧ ((∀ x ∈ ts', x.length ≤ 1000000) ∧ ∀ n ∈ nd', n.text.length ≤ 1000000) ∧ GotL (qK n) (yJ tOr tq) nq bq ts' nd' bd') (by kernel_rfl) (fun _ => by kernel_rfl) (fun w hO => (hp.go (hL.at hR2 hX2 hS2 hO) (by rw [hnr]; have := hch.2.1; omega)).mono fun e w' ⟨ts', nd', bd', ob', k1, k2, k3⟩ => ⟨_, _, k1, ⟨ts', nd', bd', rfl, ob', rfl, k2.rd.back (hO.belowB hM' hBW), ⟨k2.short, k2.texts⟩, k3⟩, Own.join hO k2.own⟩) (fun v3 L3 hv3 => ?_))))))
    obtain ⟨ts3, nd3, bd3, rfl, ob3, rfl, hR3, hX3, hG3⟩ := hv3
    refine zH (L' := ob3) (List.append_nil _) ?_
    have hS3 : nd3.length + ts3.length ≤ 10000 := Nat.le_trans hG3.1 hS2
    have hT3 := hG3.2.1
    refine ZN (z7 (Zv (.pointer (some ⟨b, 0, none⟩)) (Zv (.pointer (some ⟨b, 0, none⟩)) (Zv (.pointer (some ⟨b, 0, none⟩)) (Zv (.int .i64 4) (Zv (.int .i64 ((nq.length : Int) - 1)) (zH (L' := ob3 ++ ([] : List Blk)) (by simp) (zO (k := 57) (args := #[.pointer (some ⟨b, 0, none⟩), .int .i64 4, .int .i64 ((nq.length : Int) - 1)]) (fun v' L' => v' = .tuple #[] ∧ ∃ ob', L' = ob' ++ ([] : List Blk) ∧ Rdr W B b ts3 (nd3 ++ [(⟨4, (nq.length : Int) - 1, (nd3.length : Int) - 1, 0, []⟩ : Nd)]) bd3 ob' ∧ ((∀ x ∈ ts3, x.length ≤ 1000000) ∧ ∀ n ∈ (nd3 ++ [(⟨4, (nq.length : Int) - 1, (nd3.length : Int) - 1, 0, []⟩ : Nd)]), n.text.length ≤ 1000000)) (by kernel_rfl) (fun _ => by kernel_rfl) (fun w hO => (rjoinL (hL.at hR3 hX3 hS3 hO) 4 ((nq.length : Int) - 1)).mono fun e w' ⟨ob', k1, k2⟩ => ⟨_, _, k1, ⟨rfl, ob', rfl, k2.rd.back (hO.belowB hM' hBW), ⟨k2.short, k2.texts⟩⟩, Own.join hO k2.own⟩) (fun v4 L4 hv4 => ?_)))))))))
    obtain ⟨rfl, ob4, rfl, hR4, hX4⟩ := hv4
    refine zH (L' := ob4) (List.append_nil _) ?_
    have hS4 : (nd3 ++ [(⟨4, (nq.length : Int) - 1, (nd3.length : Int) - 1, 0, []⟩ : Nd)]).length + ts3.length ≤ 10000 := by have q8 := hrest; have q9 := hG3.1; have q7 := hG3.2.1; rw [List.length_append, List.length_singleton]; omega
    exact zK (zJ (fE (L' := ob4 ++ ([] : List Blk)) (by simp) (zS (m' := ts3.length) (by omega) ⟨ts3, (nd3 ++ [(⟨4, (nq.length : Int) - 1, (nd3.length : Int) - 1, 0, []⟩ : Nd)]), bd3, ob4, _, ⟨cl_step (fQ n) mk_one hch htq (hnr ▸ hG3), hR4, hX4, hS4⟩, rfl, ZU, rfl⟩)))
  | false =>
    have hno := (kI (of_decide_eq_false h1)).2
    exact Zf (xN (yG (zY (zZ (yM Tryd.results46 (fun w hO => ⟨tq, nq, bq, ob2, rfl, ⟨hno ▸ hR2, hO, (hno ▸ hX2).1, hXq.2⟩, cl_stop hch h1⟩))))))
theorem bX (n : Nat) (hp : wT 71 n (xO n)) : wT 47 n (qK n) := by
  refine ⟨fun {B b ts nd bad ob W} hL hln => ?_⟩
  have hM' := x4 hL.ge
  have hBW := hL.le
  refine y6 (n := 4) hL.own Tryd.func47 rfl (by kernel_rfl) (by kernel_rfl) (z7 (Zv (.pointer (some ⟨b, 0, none⟩)) (zH (L' := ob ++ ([] : List Blk)) (by simp) (zO (k := 46) (args := #[.pointer (some ⟨b, 0, none⟩), .string ⟨#[97, 110, 100]⟩, .int .i64 3, .func (.func 71) #[] #[]]) (fun v' L' => ∃ ts' nd' bd', v' = .tuple #[] ∧ ∃ ob', L' = ob' ++ ([] : List Blk) ∧ Rdr W B b ts' nd' bd' ob' ∧ ((∀ x ∈ ts', x.length ≤ 1000000) ∧ ∀ n ∈ nd', n.text.length ≤ 1000000) ∧ GotL (qK n) ts nd bad ts' nd' bd') (by kernel_rfl) (fun _ => by kernel_rfl) (fun w hO => ((chain_tAnd n hp).go (hL.at hL.rd ⟨hL.short, hL.texts⟩ hL.small hO) (hln)).mono fun e w' ⟨ts', nd', bd', ob', k1, k2, k3⟩ => ⟨_, _, k1, ⟨ts', nd', bd', rfl, ob', rfl, k2.rd.back (hO.belowB hM' hBW), ⟨k2.short, k2.texts⟩, k3⟩, Own.join hO k2.own⟩) (fun v1 L1 hv1 => ?_)))))
  obtain ⟨ts1, nd1, bd1, rfl, ob1, rfl, hR1, hX1, hG1⟩ := hv1
  refine zH (L' := ob1) (List.append_nil _) ?_
  have hS1 : nd1.length + ts1.length ≤ 10000 := Nat.le_trans hG1.1 hL.small
  have hT1 := hG1.2.1
  exact zK (yM Tryd.results47 (fun w hO => ⟨ts1, nd1, bd1, ob1, rfl, ⟨hR1, hO, hX1.1, hX1.2⟩, hG1⟩))
theorem w4 (n : Nat) (hp : wT 47 n (qK n)) : wT 27 n (pOr n) := by
  refine ⟨fun {B b ts nd bad ob W} hL hln => ?_⟩
  have hM' := x4 hL.ge
  have hBW := hL.le
  refine y6 (n := 4) hL.own Tryd.func27 rfl (by kernel_rfl) (by kernel_rfl) (z7 (Zv (.pointer (some ⟨b, 0, none⟩)) (zH (L' := ob ++ ([] : List Blk)) (by simp) (zO (k := 46) (args := #[.pointer (some ⟨b, 0, none⟩), .string ⟨#[111, 114]⟩, .int .i64 4, .func (.func 47) #[] #[]]) (fun v' L' => ∃ ts' nd' bd', v' = .tuple #[] ∧ ∃ ob', L' = ob' ++ ([] : List Blk) ∧ Rdr W B b ts' nd' bd' ob' ∧ ((∀ x ∈ ts', x.length ≤ 1000000) ∧ ∀ n ∈ nd', n.text.length ≤ 1000000) ∧ GotL (pOr n) ts nd bad ts' nd' bd') (by kernel_rfl) (fun _ => by kernel_rfl) (fun w hO => ((chain_tOr n hp).go (hL.at hL.rd ⟨hL.short, hL.texts⟩ hL.small hO) (hln)).mono fun e w' ⟨ts', nd', bd', ob', k1, k2, k3⟩ => ⟨_, _, k1, ⟨ts', nd', bd', rfl, ob', rfl, k2.rd.back (hO.belowB hM' hBW), ⟨k2.short, k2.texts⟩, k3⟩, Own.join hO k2.own⟩) (fun v1 L1 hv1 => ?_)))))
  obtain ⟨ts1, nd1, bd1, rfl, ob1, rfl, hR1, hX1, hG1⟩ := hv1
  refine zH (L' := ob1) (List.append_nil _) ?_
  have hS1 : nd1.length + ts1.length ≤ 10000 := Nat.le_trans hG1.1 hL.small
  have hT1 := hG1.2.1
  exact zK (yM Tryd.results27 (fun w hO => ⟨ts1, nd1, bd1, ob1, rfl, ⟨hR1, hO, hX1.1, hX1.2⟩, hG1⟩))
theorem f0 (n : Nat) (hf : ∀ k, k + 1 = n → wT 71 k (xO k)) (he : ∀ k, k + 1 = n → wT 27 k (pOr k)) : wT 71 n (xO n) := by
  refine ⟨fun {B b ts nd bad ob W} hL hln => ?_⟩
  have hM' := x4 hL.ge
  have hBW := hL.le
  refine y6 (n := 24) hL.own Tryd.func71 rfl (by kernel_rfl) (by kernel_rfl) (zP (ZO (Zv (.pointer (some ⟨b, 0, none⟩)) (zH (L' := ob ++ ([] : List Blk)) (by simp) (zO (k := 70) (args := #[.pointer (some ⟨b, 0, none⟩), .string ⟨#[110, 111, 116]⟩]) (fun v' L' => v' = .bool (xE yZ ts) ∧ ∃ ob', L' = ob' ++ ([] : List Blk) ∧ Rdr W B b (yJ yZ ts) nd bad ob' ∧ ((∀ x ∈ (yJ yZ ts), x.length ≤ 1000000) ∧ ∀ n ∈ nd, n.text.length ≤ 1000000)) (by kernel_rfl) (fun _ => by kernel_rfl) (fun w hO => (j5 (hL.at hL.rd ⟨hL.short, hL.texts⟩ hL.small hO) yZ).mono fun e w' ⟨ob', k1, k2⟩ => ⟨_, _, k1, ⟨rfl, ob', rfl, k2.rd.back (hO.belowB hM' hBW), ⟨k2.short, k2.texts⟩⟩, Own.join hO k2.own⟩) (fun v1 L1 hv1 => ?_))))))
  obtain ⟨rfl, ob1, rfl, hR1, hX1⟩ := hv1
  refine zH (L' := ob1) (List.append_nil _) ?_
  have hS1 : nd.length + (yJ yZ ts).length ≤ 10000 := Nat.le_trans (Nat.add_le_add_left (qF _ _) _) hL.small
  refine Zv (.bool (xE yZ ts)) (zK (z8 ?_))
  cases h1 : xE yZ ts with
  | true =>
    obtain ⟨r, htq, hnr⟩ := kS h1
    have htl : ts.length = r.length + 1 := by rw [htq]; rfl
    have hnl9 := congrArg List.length hnr
    obtain ⟨k, rfl⟩ : ∃ k, n = k + 1 := ⟨n - 1, by omega⟩
    refine Zt (ZO (Zv (.pointer (some ⟨b, 0, none⟩)) (zH (L' := ob1 ++ ([] : List Blk)) (by simp) (zO (k := 71) (args := #[.pointer (some ⟨b, 0, none⟩)]) (fun v' L' => ∃ ts' nd' bd', v' = .tuple #[] ∧ ∃ ob', L' = ob' ++ ([] : List Blk) ∧ Rdr W B b ts' nd' bd' ob' ∧ ((∀ x ∈ ts', x.length ≤ 1000000) ∧ ∀ n ∈ nd', n.text.length ≤ 1000000) ∧ GotL (xO k) (yJ yZ ts) nd bad ts' nd' bd') (by kernel_rfl) (fun _ => by kernel_rfl) (fun w hO => ((hf k rfl).go (hL.at hR1 hX1 hS1 hO) (by omega)).mono fun e w' ⟨ts', nd', bd', ob', k1, k2, k3⟩ => ⟨_, _, k1, ⟨ts', nd', bd', rfl, ob', rfl, k2.rd.back (hO.belowB hM' hBW), ⟨k2.short, k2.texts⟩, k3⟩, Own.join hO k2.own⟩) (fun v2 L2 hv2 => ?_)))))
    obtain ⟨ts2, nd2, bd2, rfl, ob2, rfl, hR2, hX2, hG2⟩ := hv2
    refine zH (L' := ob2) (List.append_nil _) ?_
    have hS2 : nd2.length + ts2.length ≤ 10000 := Nat.le_trans hG2.1 hS1
    have hT2 := hG2.2.1
    refine ZN (z7 (Zv (.pointer (some ⟨b, 0, none⟩)) (Zv (.pointer (some ⟨b, 0, none⟩)) (Zv (.pointer (some ⟨b, 0, none⟩)) (zH (L' := ob2 ++ ([] : List Blk)) (by simp) (zO (k := 55) (args := #[.pointer (some ⟨b, 0, none⟩)]) (fun v' L' => v' = .tuple #[] ∧ ∃ ob', L' = ob' ++ ([] : List Blk) ∧ Rdr W B b ts2 (nd2 ++ [(⟨2, (nd2.length : Int) - 1, 0, 0, []⟩ : Nd)]) bd2 ob' ∧ ((∀ x ∈ ts2, x.length ≤ 1000000) ∧ ∀ n ∈ (nd2 ++ [(⟨2, (nd2.length : Int) - 1, 0, 0, []⟩ : Nd)]), n.text.length ≤ 1000000)) (by kernel_rfl) (fun _ => by kernel_rfl) (fun w hO => (rnotL (hL.at hR2 hX2 hS2 hO)).mono fun e w' ⟨ob', k1, k2⟩ => ⟨_, _, k1, ⟨rfl, ob', rfl, k2.rd.back (hO.belowB hM' hBW), ⟨k2.short, k2.texts⟩⟩, Own.join hO k2.own⟩) (fun v3 L3 hv3 => ?_)))))))
    obtain ⟨rfl, ob3, rfl, hR3, hX3⟩ := hv3
    refine zH (L' := ob3) (List.append_nil _) ?_
    have hS3 : (nd2 ++ [(⟨2, (nd2.length : Int) - 1, 0, 0, []⟩ : Nd)]).length + ts2.length ≤ 10000 := by have q8 := hL.small; have q9 := hG2.1; rw [List.length_append, List.length_singleton]; omega
    exact zK (zJ (yM Tryd.results71 (fun w hO => ⟨_, _, _, _, rfl, ⟨hR3, hO, hX3.1, hX3.2⟩, gl_not htq (hnr ▸ hG2)⟩)))
  | false =>
    have hn1 := (kI (of_decide_eq_false h1)).2
    refine Zf (ZO (Zv (.pointer (some ⟨b, 0, none⟩)) (zH (L' := ob1 ++ ([] : List Blk)) (by simp) (zO (k := 70) (args := #[.pointer (some ⟨b, 0, none⟩), .string ⟨#[40]⟩]) (fun v' L' => v' = .bool (xE yP (yJ yZ ts)) ∧ ∃ ob', L' = ob' ++ ([] : List Blk) ∧ Rdr W B b (yJ yP (yJ yZ ts)) nd bad ob' ∧ ((∀ x ∈ (yJ yP (yJ yZ ts)), x.length ≤ 1000000) ∧ ∀ n ∈ nd, n.text.length ≤ 1000000)) (by kernel_rfl) (fun _ => by kernel_rfl) (fun w hO => (j5 (hL.at hR1 hX1 hS1 hO) yP).mono fun e w' ⟨ob', k1, k2⟩ => ⟨_, _, k1, ⟨rfl, ob', rfl, k2.rd.back (hO.belowB hM' hBW), ⟨k2.short, k2.texts⟩⟩, Own.join hO k2.own⟩) (fun v2 L2 hv2 => ?_)))))
    obtain ⟨rfl, ob2, rfl, hR2, hX2⟩ := hv2
    refine zH (L' := ob2) (List.append_nil _) ?_
    have hS2 : nd.length + (yJ yP (yJ yZ ts)).length ≤ 10000 := Nat.le_trans (Nat.add_le_add_left (qF _ _) _) hS1
    refine Zv (.bool (xE yP (yJ yZ ts))) (zK (z8 ?_))
    cases h2 : xE yP (yJ yZ ts) with
    | true =>
      have hop := h2
      rw [hn1] at hop
      obtain ⟨r, htq, hnr⟩ := kS hop
      have htl : ts.length = r.length + 1 := by rw [htq]; rfl
      have hnr2 : yJ yP (yJ yZ ts) = r := by rw [hn1]; exact hnr
      have hnl9 := congrArg List.length hnr2
      obtain ⟨k, rfl⟩ : ∃ k, n = k + 1 := ⟨n - 1, by omega⟩
      refine Zt (ZO (Zv (.pointer (some ⟨b, 0, none⟩)) (zH (L' := ob2 ++ ([] : List Blk)) (by simp) (zO (k := 27) (args := #[.pointer (some ⟨b, 0, none⟩)]) (fun v' L' => ∃ ts' nd' bd', v' = .tuple #[] ∧ ∃ ob', L' = ob' ++ ([] : List Blk) ∧ Rdr W B b ts' nd' bd' ob' ∧ ((∀ x ∈ ts', x.length ≤ 1000000) ∧ ∀ n ∈ nd', n.text.length ≤ 1000000) ∧ GotL (pOr k) (yJ yP (yJ yZ ts)) nd bad ts' nd' bd') (by kernel_rfl) (fun _ => by kernel_rfl) (fun w hO => ((he k rfl).go (hL.at hR2 hX2 hS2 hO) (by omega)).mono fun e w' ⟨ts', nd', bd', ob', k1, k2, k3⟩ => ⟨_, _, k1, ⟨ts', nd', bd', rfl, ob', rfl, k2.rd.back (hO.belowB hM' hBW), ⟨k2.short, k2.texts⟩, k3⟩, Own.join hO k2.own⟩) (fun v3 L3 hv3 => ?_)))))
      obtain ⟨ts3, nd3, bd3, rfl, ob3, rfl, hR3, hX3, hG3⟩ := hv3
      refine zH (L' := ob3) (List.append_nil _) ?_
      have hS3 : nd3.length + ts3.length ≤ 10000 := Nat.le_trans hG3.1 hS2
      have hT3 := hG3.2.1
      refine ZR (Zv (.pointer (some ⟨b, 0, none⟩)) (zH (L' := ob3 ++ ([] : List Blk)) (by simp) (zO (k := 70) (args := #[.pointer (some ⟨b, 0, none⟩), .string ⟨#[41]⟩]) (fun v' L' => v' = .bool (xE yC ts3) ∧ ∃ ob', L' = ob' ++ ([] : List Blk) ∧ Rdr W B b (yJ yC ts3) nd3 bd3 ob' ∧ ((∀ x ∈ (yJ yC ts3), x.length ≤ 1000000) ∧ ∀ n ∈ nd3, n.text.length ≤ 1000000)) (by kernel_rfl) (fun _ => by kernel_rfl) (fun w hO => (j5 (hL.at hR3 hX3 hS3 hO) yC).mono fun e w' ⟨ob', k1, k2⟩ => ⟨_, _, k1, ⟨rfl, ob', rfl, k2.rd.back (hO.belowB hM' hBW), ⟨k2.short, k2.texts⟩⟩, Own.join hO k2.own⟩) (fun v4 L4 hv4 => ?_))))
      obtain ⟨rfl, ob4, rfl, hR4, hX4⟩ := hv4
      refine zH (L' := ob4) (List.append_nil _) ?_
      have hS4 : nd3.length + (yJ yC ts3).length ≤ 10000 := Nat.le_trans (Nat.add_le_add_left (qF _ _) _) hS3
      cases h3 : xE yC ts3 with
      | true =>
        exact Zv (.bool false) (ZX (x6 (zJ (yM Tryd.results71 (fun w hO => ⟨_, _, _, _, rfl, ⟨hR4, hO, hX4.1, hX4.2⟩, gl_open htq (hnr2 ▸ hG3) h3⟩)))))
      | false =>
        refine Zv (.bool true) (ZY (z7 (Zv (.pointer (some ⟨b, 0, none⟩)) (Zv (.pointer (some ⟨b, 0, none⟩)) (Zv (.pointer (some ⟨b, 2, none⟩)) ?_)))))
        obtain ⟨A9, cap9, hw9, hcap9, C9, c9, g9, hob9, hsl9⟩ := hR4
        refine zH (L' := ⟨b, #[.slice C9 nd3.length c9, .slice A9 ((yJ yC ts3).length) cap9, .bool bd3], 55⟩ :: g9) hob9 (vC 0 ⟨b, #[.slice C9 nd3.length c9, .slice A9 ((yJ yC ts3).length) cap9, .bool bd3], 55⟩ (off := 2) (.bool true) (by kernel_rfl) rfl rfl rfl (by kernel_rfl) (by kernel_rfl) (by kernel_rfl) (by kernel_rfl) ?_)
        have hR99 : Rdr W B b (yJ yC ts3) nd3 true (⟨b, #[.slice C9 nd3.length c9, .slice A9 ((yJ yC ts3).length) cap9, .bool true], 55⟩ :: g9) := ⟨A9, cap9, hw9, hcap9, C9, c9, g9, rfl, hsl9⟩
        exact zH (L' := ⟨b, #[.slice C9 nd3.length c9, .slice A9 ((yJ yC ts3).length) cap9, .bool true], 55⟩ :: g9) rfl (zK (zJ (yM Tryd.results71 (fun w hO => ⟨_, _, true, _, rfl, ⟨hR99, hO, hX4.1, hX4.2⟩, by rw [(kI (of_decide_eq_false h3)).2]; exact gl_unclosed htq (hnr2 ▸ hG3) h3⟩))))
    | false =>
      have hop := h2
      rw [hn1] at hop
      have hn2 : yJ yP (yJ yZ ts) = ts := by rw [hn1]; exact (kI (of_decide_eq_false hop)).2
      refine Zf (z7 (Zv (.pointer (some ⟨b, 0, none⟩)) (zH (L' := ob2 ++ ([] : List Blk)) (by simp) (zO (k := 81) (args := #[.pointer (some ⟨b, 0, none⟩)]) (fun v' L' => ∃ ts' nd' bd', v' = .tuple #[] ∧ ∃ ob', L' = ob' ++ ([] : List Blk) ∧ Rdr W B b ts' nd' bd' ob' ∧ ((∀ x ∈ ts', x.length ≤ 1000000) ∧ ∀ n ∈ nd', n.text.length ≤ 1000000) ∧ GotL (kP) (yJ yP (yJ yZ ts)) nd bad ts' nd' bd') (by kernel_rfl) (fun _ => by kernel_rfl) (fun w hO => ((fY n).go (hL.at hR2 hX2 hS2 hO) (by rw [hn2]; exact hln)).mono fun e w' ⟨ts', nd', bd', ob', k1, k2, k3⟩ => ⟨_, _, k1, ⟨ts', nd', bd', rfl, ob', rfl, k2.rd.back (hO.belowB hM' hBW), ⟨k2.short, k2.texts⟩, k3⟩, Own.join hO k2.own⟩) (fun v3 L3 hv3 => ?_)))))
      obtain ⟨ts3, nd3, bd3, rfl, ob3, rfl, hR3, hX3, hG3⟩ := hv3
      refine zH (L' := ob3) (List.append_nil _) ?_
      have hS3 : nd3.length + ts3.length ≤ 10000 := Nat.le_trans hG3.1 hS2
      have hT3 := hG3.2.1
      exact zK (zJ (yM Tryd.results71 (fun w hO => ⟨_, _, _, _, rfl, ⟨hR3, hO, hX3.1, hX3.2⟩, by have q := hG3; rw [hn2] at q; exact gl_atom h1 hop hln q⟩)))
theorem bZ : ∀ n, wT 71 n (xO n)
  | 0 => f0 0 (fun k h => absurd h (by omega)) (fun k h => absurd h (by omega))
  | n + 1 => by
    have ih := bZ n
    refine f0 (n + 1) (fun k h => ?_) (fun k h => ?_)
    · obtain rfl : k = n := by omega
      exact ih
    · obtain rfl : k = n := by omega
      exact w4 k (bX k ih)
theorem expressionP (n : Nat) : wT 27 n (pOr n) := w4 n (bX n (bZ n))
end
section
theorem below_moved {B : Nat} {a w : World} (h : Below B a w) {k : Nat} (hk : B ≤ k) (s : ByteArray) (pos : Nat) : Below B a (w.iterAt k s pos) :=
  h.trans ⟨rfl, rfl, rfl, by rw [Lib.iterAt_size]; exact Nat.le_refl _, Nat.le_refl _, fun i hi => Lib.iterAt_other w k i s pos (by omega)⟩
theorem p5 (s : ByteArray) (f k : Nat) (w : World) (hs : s.size ≤ 1000000) (hfk : f ≤ k) (hk : k ≤ s.size) :
    Calls Tryd.prog 45 #[.string s, .int .i64 f, .int .i64 k] w fun e w' => e = .returned (.string (s.extract f k)) ∧ Below w.heap.size w w' := by
  have hz : (s.extract f k).size ≤ 281474976710656 := by
    rw [ByteArray.size_extract]; omega
  go_enter Tryd.func45, Tryd.ntmps45
  go_wp2_with (go_at_call 54; refine (pE _ _ hz).mono ?_; rintro e w' ⟨rfl, hb⟩)
  go_ret
  exact ⟨rfl, hb⟩
theorem width_any (t : ByteArray) (r n : Nat) (hne : t.data.toList ≠ []) (hd : Lib.decodeL t.data.toList = (r, n)) (w : World) :
    Calls Tryd.prog 44 #[.string t, .int .i32 r] w fun e w' => e = .returned (.int .i64 n) ∧ w = w' := by
  have HD := Lib.hid hd
  clear hd
  have HNE := Lib.hid hne
  clear hne
  by_cases h : r = 65533
  · by_cases hp : Lib.hasPrefix t.data.toList [239, 191, 189] = true
    · have HP := Lib.hid hp
      clear hp
      have hb : ((r : Int) == 65533) = true := by simp [h]
      have HR := Lib.hid h
      clear h
      go_enter Tryd.func44, Tryd.ntmps44
      go_wp2_with (first | (go_at_call 68; refine (Tryd.strings_HasPrefix t ⟨#[239, 191, 189]⟩ _).mono ?_; rw [HP.out]; rintro e w' ⟨rfl, rfl⟩) | (go_at_call 69; refine (Tryd.utf8_RuneLen _ _).mono ?_; rintro e w' ⟨rfl, rfl⟩))
      go_ret
      refine ⟨wJ ?_, rfl⟩
      have h3 := wide_err _ HP.out
      rw [HD.out] at h3
      rw [HR.out, show n = 3 from h3]
      decide
    · have HP := Lib.hid (Bool.eq_false_iff.2 hp)
      clear hp
      have hb : ((r : Int) == 65533) = true := by simp [h]
      have HR := Lib.hid h
      clear h
      go_enter Tryd.func44, Tryd.ntmps44
      go_wp2_with (go_at_call 68; refine (Tryd.strings_HasPrefix t ⟨#[239, 191, 189]⟩ _).mono ?_; rw [HP.out]; rintro e w' ⟨rfl, rfl⟩)
      go_ret
      refine ⟨wJ ?_, rfl⟩
      have h1 := wide_bad _ HNE.out (by rw [HD.out]; exact HR.out) HP.out
      rw [HD.out] at h1
      rw [show n = 1 from h1]
      rfl
  · have hb : ((r : Int) == 65533) = false := vK (by omega)
    go_enter Tryd.func44, Tryd.ntmps44
    go_wp2_with (go_at_call 69; refine (Tryd.utf8_RuneLen _ _).mono ?_; rintro e w' ⟨rfl, rfl⟩)
    go_ret
    refine ⟨wJ ?_, rfl⟩
    have h2 := wide_other t.data.toList (by rw [HD.out]; exact h)
    rw [HD.out] at h2
    exact h2
theorem split_any (s : ByteArray) (b : UInt8) (w : World) (hs : s.size ≤ 1000000) :
    Calls Tryd.prog 26 #[.string s, .int .u8 b.toNat] w fun e w' => ∃ v, e = .returned v ∧ w'.ownsRow w.heap.size 9 1 v (gT s b).length (gF (gT s b)) ∧ Below w.heap.size w w' := by
  obtain ⟨i0, hi, hz0, hz1, hz2⟩ := info_parts infoStr
  go_enter Tryd.func26, Tryd.ntmps26
  go_wp2
  go_loopw [5, 6] (fun v fv wr => ∃ (pos f : Nat) (P : List (List UInt8)), fv = .int .i64 f ∧ f ≤ pos ∧ pos ≤ s.size ∧ P.length ≤ pos ∧ wr.heap[w.heap.size]? = some (.stringIter s pos) ∧ wr.ownsRow w.heap.size 9 1 v P.length (gF P) ∧ Below w.heap.size w wr ∧ Hid (P ++ xZ b ((s.data.toList.drop f).take (pos - f)) (s.data.toList.drop pos) = gT s b)) (fun _ _ wr => s.size - wr.iterPos w.heap.size)
  case atStart => exact ⟨0, 0, [], rfl, Nat.le_refl _, Nat.zero_le _, Nat.zero_le _, World.iter_heap _ _ _, ⟨rfl, Or.inl ⟨rfl, rfl⟩⟩, wQ _ _ _, rfl⟩
  case round =>
    obtain ⟨pos, f, P, rfl, hfp, hple, hP, hit, hown, hb, HR⟩ := hrel
    have hsz := hb.size
    by_cases hp : pos < s.size
    · obtain ⟨r, n, hdec⟩ : ∃ r n, Utf8.decode s pos = (r, n) := ⟨_, _, rfl⟩
      have hnx : ∀ ty, (Instr.next (.pointer (some ⟨w.heap.size, 0, none⟩)) true ty).run Tryd.prog wr = _ := fun ty => Lib.run_next_any_at wr w.heap.size s pos ty hit hp
      rw [hdec] at hnx
      have hn1 : 1 ≤ n := by
        by_cases ha : (s[pos]'hp).toNat < 128
        · have := decode_ascii s pos hp ha
          rw [hdec] at this
          have : n = 1 := congrArg Prod.snd this
          omega
        · have := (decode_high s pos hp (by omega)).2
          rw [hdec] at this
          exact this
      have hdl : Lib.decodeL (s.extract pos s.size).data.toList = (r, n) := by rw [Lib.extract_to_end, Lib.decodeL_drop, hdec]
      have hne : (s.extract pos s.size).data.toList ≠ [] := by
        rw [Lib.extract_to_end]; intro h; have := congrArg List.length h; simp at this; omega
      have hnle : pos + n ≤ s.size := by
        have := Lib.decodeL_le _ hne
        rw [hdl, Lib.extract_to_end] at this
        simp at this; omega
      have HDL := Lib.hid hdl
      have HNE := Lib.hid hne
      have HIT := Lib.hid hit
      have hown1 := mX hown hit (pos + n)
      have hit1 := Lib.iterAt_heap wr w.heap.size s pos (pos + n) hit
      have hb1 : Below w.heap.size w (wr.iterAt w.heap.size s (pos + n)) := below_moved hb (Nat.le_refl _) s (pos + n)
      have HIT1 := Lib.hid hit1
      clear hdl hne hdec hit1
      obtain ⟨wo, rfl⟩ : ∃ wo : World, wo = wr := ⟨_, rfl⟩
      go_wp2_with (go_at_call 44; refine (width_any _ r n HNE.out HDL.out _).mono ?_; rintro e w' ⟨rfl, rfl⟩)
      go_loopw [5, 6, 10] (fun v fv iv wi => ∃ (k f : Nat) (P : List (List UInt8)), iv = .int .i64 k ∧ fv = .int .i64 f ∧ f ≤ k ∧ pos ≤ k ∧ k ≤ pos + n ∧ P.length ≤ k ∧ wi.heap[w.heap.size]? = some (.stringIter s (pos + n)) ∧ wi.ownsRow w.heap.size 9 1 v P.length (gF P) ∧ Below w.heap.size w wi ∧ Hid (P ++ xZ b ((s.data.toList.drop f).take (k - f)) (s.data.toList.drop k) = gT s b)) (fun _ _ iv _ => pos + n - (intOf iv).toNat)
      case atStart => exact ⟨pos, f, P, rfl, rfl, hfp, Nat.le_refl _, by omega, hP, HIT1.out, hown1, hb1, HR⟩
      case round =>
        clear HR hown hb hit hsz hnx hown1 hb1
        obtain ⟨k, f2, P2, rfl, rfl, hfk, hpk, hkn, hP2, hit2, hown2, hb2, HR2⟩ := hrel
        have hsz2 := hb2.size
        have HIT2 := Lib.hid hit2
        clear hit2
        by_cases hlt : k < pos + n
        · have hks : k < s.size := by omega
          have HD := Lib.hid (fX s k hks)
          by_cases hc : s[k] = b
          · have HC := Lib.hid hc
            have hcb : ((s[k].toNat : Int) == (b.toNat : Int)) = true := by rw [hc]; simp
            clear hc
            go_wp2_with (go_at_call 45; refine (p5 s f2 k _ hs hfk (by omega)).mono ?_)
            rintro e w3 ⟨rfl, hb3⟩
            have hown3 := bY hown2 hb3
            have hsz3 := hb3.size
            have hb4 : Below w.heap.size w w3 := hb2.trans (hb3.mono hsz2)
            have HIT3 := Lib.hid (iter_below HIT2.out hb3)
            go_wp2_with (at_builtin; refine kO _ rfl _ _ 50 rfl w.heap.size 9 i0 (.string ByteArray.empty) 1 16 Tryd.underlying50 hi hz0 hz1 hz2 rfl (by decide) _ _ _ rfl (hown3.alloc _) ⟨w3.heap.size, 0, none⟩ 1 1 [.string (s.extract f2 k)] rfl rfl ?c1 ?c2 ?c3 ?c4 ?c5 ?_)
            case c1 =>
              intro j u hj
              match j, hj with
              | 0, hj => simp at hj; subst hj; simp [Addr.add]
            case c2 => intro u hu; simp at hu; subst hu; rfl
            case c3 => unfold maxLen; omega
            case c4 => omega
            case c5 => simp; omega
            intro v' w5 hown' hgrow _
            go_wp2
            go_roundw
            case rel =>
              refine ⟨k + 1, k + 1, P2 ++ [(s.data.toList.drop f2).take (k - f2)], by go_num, by go_num, Nat.le_refl _, by omega, by omega, by simp; omega, ?_, ?_, (hb4.alloc (by omega) _).grown hgrow (by simp; omega) (fun k hk => (hown3.lt k hk).1), ?_⟩
              · have ha : (w3.alloc (.cells #[.string (s.extract f2 k)] 9)).heap[w.heap.size]? = some (.stringIter s (pos + n)) := by
                  rw [Below.heap_alloc _ _ _ (Array.getElem?_eq_some_iff.1 HIT3.out).1]; exact HIT3.out
                rw [hgrow.1.block _ (Array.getElem?_eq_some_iff.1 ha).1 (ownsRow_ne (hown3.alloc _) ha)]
                exact ha
              · rw [bI, ← wP, List.length_append]; exact hown'
              · show _ = _
                rw [← HR2.out, HD.out, nY _ _ _ _ HC.out, List.append_assoc, Nat.sub_self, List.take_zero]; rfl
            case measure => simp [intOf]; omega
          · have hcb : ((s[k].toNat : Int) == (b.toNat : Int)) = false := vK (fun e => hc (UInt8.toNat_inj.1 (by omega)))
            go_wp2
            go_roundw
            case rel => exact ⟨k + 1, f2, P2, by go_num, rfl, by omega, by omega, by omega, by omega, HIT2.out, hown2, hb2, by show _ = _; rw [← HR2.out, HD.out, mM _ _ _ _ hc, nX s f2 k hfk hks]⟩
            case measure => simp [intOf]; omega
        · obtain rfl : k = pos + n := by omega
          go_wp2
          go_roundw
          case rel => exact ⟨pos + n, f2, P2, rfl, hfk, hnle, hP2, HIT2.out, hown2, hb2, HR2⟩
          case measure =>
            simp only [World.iterPos, HIT2.out, HIT.out]
            omega
    · have hnx : ∀ ty, (Instr.next (.pointer (some ⟨w.heap.size, 0, none⟩)) true ty).run Tryd.prog wr = _ := fun ty => Lib.run_next_end_at wr w.heap.size s pos ty hit hp
      have HD := Lib.hid (nE s pos hp)
      have hk2 : pos = s.size := by omega
      have HE : Hid (P ++ [(s.data.toList.drop f).take (s.size - f)] = gT s b) := by
        show _ = _
        rw [← HR.out, HD.out, hk2]; rfl
      clear hk2
      have hfs : f ≤ s.size := by omega
      go_wp2_with (go_at_call 45; refine (p5 s f s.size _ hs hfs (Nat.le_refl _)).mono ?_)
      rintro e w3 ⟨rfl, hb3⟩
      have hown3 := bY hown hb3
      have hsz3 := hb3.size
      have hb4 : Below w.heap.size w w3 := hb.trans (hb3.mono hsz)
      go_wp2_with (at_builtin; refine kO _ rfl _ _ 50 rfl w.heap.size 9 i0 (.string ByteArray.empty) 1 16 Tryd.underlying50 hi hz0 hz1 hz2 rfl (by decide) _ _ _ rfl (hown3.alloc _) ⟨w3.heap.size, 0, none⟩ 1 1 [.string (s.extract f s.size)] rfl rfl ?c1 ?c2 ?c3 ?c4 ?c5 ?_)
      case c1 =>
        intro j u hj
        match j, hj with
        | 0, hj => simp at hj; subst hj; simp [Addr.add]
      case c2 => intro u hu; simp at hu; subst hu; rfl
      case c3 => unfold maxLen; omega
      case c4 => omega
      case c5 => simp; omega
      intro v' w2 hown' hgrow _
      go_wp2
      go_ret
      refine ⟨v', rfl, ?_, (hb4.alloc (by omega) _).grown hgrow (by simp; omega) (fun k hk => (hown3.lt k hk).1)⟩
      rw [← HE.out, bI, ← wP, List.length_append]; exact hown'
end
section
set_option linter.unnecessarySimpa false
theorem isplit_own (s : List UInt8) (W : World) (hs : s.length ≤ 1000000) : Calls Tryd.prog 26 #[.string (mkS s), .int .u8 32] W fun e w' => ∃ v' ob', e = .returned v' ∧ SlT v' (zT s) ob' ∧ Own [] W w' ob' :=
  (split_any (mkS s) 32 W (by rw [k0]; exact hs)).mono fun e w' ⟨v, h1, h2, h3⟩ => by
    obtain ⟨ob, k1, k2⟩ := Own.row h2 h3
    unfold gT at k1
    rw [fA] at k1
    exact ⟨v, ob, h1, k1, k2⟩
theorem n5 {W w1 w : World} {L L2 : List Blk} (hK : MkLib W) (hO1 : Own [] W w1 L) (hO : Own (L.map Blk.b) w1 w L2) : MkAt w1.heap.size w := by
  have hlt := hK.lt
  refine ⟨Nat.lt_of_lt_of_le hlt hO1.size, ?_⟩
  obtain ⟨T, q⟩ := hK.held
  refine ⟨T, ?_⟩
  rw [hO.kept _ (Nat.lt_of_lt_of_le hlt hO1.size) (fun hm => ?_), hO1.kept _ hlt (by simp)]
  · exact q
  · obtain ⟨x, hx, ex⟩ := List.mem_map.1 hm
    rcases hO1.base x hx with r | r
    · omega
    · cases r
theorem words_len (s : List UInt8) : (zT s).length ≤ s.length + 1 := bU 32 s []
theorem kC (s : List UInt8) (W : World) (hs : s.length ≤ 1000000) (hK : MkLib W) : Calls Tryd.prog 11 #[.string (mkS s)] W fun e w' => ∃ v' ob', e = .returned (.tuple #[.agg #[v'], .int .i64 (yY s)]) ∧ SlN v' (y7 s) ob' ∧ Own [] W w' ob' := by
  have hsz := k0 s
  have hwn := words_len s
  refine zU (n := 36) Tryd.func11 rfl (by kernel_rfl) (by kernel_rfl) (ZO (Za (.agg #[.slice none 0 0]) (fun b1 => Zv (.int .i64 0) (ZN (zF (ZO (Zv (.string (mkS s)) (Zv (.int .i64 ((mkS s).size)) ?_))))))))
  by_cases h1 : (96 : Int) < (mkS s).size
  · have h96 : 96 < s.length := by omega
    refine Zd (p := (96 : Int) < (mkS s).size) true (decide_eq_true (h1)) (ZY (ZO (Zv (.agg #[.slice none 0 0]) (Zs 0 ⟨b1, #[.slice none 0 0], 25⟩ (off := 0) (.agg #[.slice none 0 0]) (Zv (.int .i64 3) (ZN (zG ?_)))))))
    exact z5 (ZD 0 ⟨b1, #[.slice none 0 0], 25⟩ (off := 0) (.agg #[.slice none 0 0]) (.int .i64 3) Tryd.results11 (fun w hO => ⟨_, [], by rw [show yY s = 3 from if_pos h96], by rw [show y7 s = [] from if_pos h96]; exact Sl.nil _ _, hO.sublist (by simp)⟩))
  have h96 : ¬ 96 < s.length := by omega
  refine Zd (p := (96 : Int) < (mkS s).size) false (decide_eq_false (h1)) (ZX (ZB (zF (ZO (Zv (.string (mkS s)) ?_)))))
  by_cases h2 : (s : List UInt8) = []
  · refine zM (.bool true) (by kernel_rfl) (zV (a := s) (b := ([])) rfl (by kernel_rfl) (by kernel_rfl) (decide_eq_true (h2))) ?_
    refine ZY (ZO (Zv (.agg #[.slice none 0 0]) (Zs 0 ⟨b1, #[.slice none 0 0], 25⟩ (off := 0) (.agg #[.slice none 0 0]) (Zv (.int .i64 0) (ZN (zG (z5 ?_)))))))
    exact ZD 0 ⟨b1, #[.slice none 0 0], 25⟩ (off := 0) (.agg #[.slice none 0 0]) (.int .i64 0) Tryd.results11 (fun w hO => ⟨_, [], by rw [show yY s = 0 from by unfold yY; rw [if_neg h96, if_pos h2]], by rw [show y7 s = [] from by unfold y7; rw [if_neg h96, if_pos h2]]; exact Sl.nil _ _, hO.sublist (by simp)⟩)
  refine zM (.bool false) (by kernel_rfl) (zV (a := s) (b := ([])) rfl (by kernel_rfl) (by kernel_rfl) (decide_eq_false (h2))) (ZX (ZB (ZO (Zv (.string (mkS s)) (zO (k := 26) (args := #[.string (mkS s), .int .u8 32]) (fun v' L' => ∃ ob', L' = ob' ++ [⟨b1, #[.slice none 0 0], 25⟩] ∧ SlT v' (zT s) ob') (by kernel_rfl) (fun _ => by kernel_rfl) (fun w hO => (isplit_own s w hs).mono fun e w' ⟨v', ob', k1, k2, k3⟩ => ⟨v', _, k1, ⟨ob', rfl, k2⟩, Own.joinN hO k3⟩) (fun vw Lw hvw => ?_))))))
  obtain ⟨ow, rfl, hsw⟩ := hvw
  obtain ⟨AW, cw, rfl⟩ := SlT.form hsw
  refine s_anew (fun w1 hO1 => ?_)
  have hw1 : Reads tG w1 w1.heap.size AW (zT s) := SlT.reads hsw rfl hO1 (fun x hx => List.mem_append_left _ hx)
  refine Zv (.agg #[.slice none 0 0, .slice AW ((zT s).length) cw, .bool false]) ?_
  have hcw : (zT s).length ≤ cw := by obtain ⟨_, q⟩ := hsw; rcases q with ⟨_, q, _⟩ | ⟨_, c9, _, q1, _, q2, _⟩; omega; injection q1 with _ _ q3; omega
  refine Za (.agg #[.slice none 0 0, .slice none 0 0, .bool false]) (fun b2 => Zs 0 ⟨b2, #[.slice none 0 0, .slice none 0 0, .bool false], 55⟩ (off := 0) (.agg #[.slice none 0 0, .slice AW ((zT s).length) cw, .bool false]) (ZR (zH (L' := [⟨b2, #[.slice none 0 0, .slice AW ((zT s).length) cw, .bool false], 55⟩] ++ (ow ++ ([⟨b1, #[.slice none 0 0], 25⟩]))) rfl (zO (k := 27) (args := #[.pointer (some ⟨b2, 0, none⟩)]) (fun v' L' => ∃ ts' nd' bad', v' = .tuple #[] ∧ ∃ ob', L' = ob' ++ (ow ++ ([⟨b1, #[.slice none 0 0], 25⟩])) ∧ (∃ A' cap', Rb b2 A' ts'.length cap' bad' nd' ob') ∧ (∀ n ∈ nd', n.text.length ≤ 1000000) ∧ GotL (pOr (zT s).length) (zT s) [] false ts' nd' bad') (by kernel_rfl) (fun _ => by kernel_rfl) (fun w hO => ((expressionP (zT s).length).go (⟨⟨AW, cw, Reads.bound (SlT.reads hsw rfl hO (fun x hx => by simp [hx])) hw1, hcw, none, 0, [], rfl, Sl.nil _ _⟩, Own.lent hO, own_new hO, hO.size, fun x hx => Nat.le_trans (hS x hx) hs, fun n hn => absurd hn (by simp), by simp only [List.length_nil]; omega, n5 hK hO1 hO⟩ : LentL w1.heap.size b2 (zT s) [] false [⟨b2, #[.slice none 0 0, .slice AW ((zT s).length) cw, .bool false], 55⟩] w) (Nat.le_refl _)).mono fun e w' ⟨ts', nd', bad', ob', k1, k2, k3⟩ => ⟨_, _, k1, ⟨ts', nd', bad', rfl, ob', rfl, k2.rd.imp fun A' q => q.imp fun cap' q => q.2.2, k2.texts, k3⟩, Own.join hO k2.own⟩) (fun ve Le hve => ?_)))))
  obtain ⟨ts2, nd2, bd, rfl, obe, rfl, ⟨A2, cap2, C, cc, g, rfl, hsl⟩, hnt, hG⟩ := hve
  have hnw : nd2.length ≤ 1000 := by have q := hG.1; simp only [List.length_nil] at q; omega
  refine zH (L' := ⟨b2, #[.slice C nd2.length cc, .slice A2 ts2.length cap2, .bool bd], 55⟩ :: (g ++ (ow ++ ([⟨b1, #[.slice none 0 0], 25⟩])))) (by simp) (ZR (Zv (.pointer (some ⟨b2, 0, none⟩)) (Zv (.pointer (some ⟨b2, 0, none⟩)) (Zl 0 ⟨b2, #[.slice C nd2.length cc, .slice A2 ts2.length cap2, .bool bd], 55⟩ (off := 0) (.slice C nd2.length cc) (Zv (.agg #[.slice C nd2.length cc]) (Za (.agg #[.slice none 0 0]) (fun b3 => Zs 0 ⟨b3, #[.slice none 0 0], 25⟩ (off := 0) (.agg #[.slice C nd2.length cc]) (zK ?_))))))))
  refine z8 (zF (ZO (Zv (.pointer (some ⟨b2, 2, none⟩)) (Zl 1 ⟨b2, #[.slice C nd2.length cc, .slice A2 ts2.length cap2, .bool bd], 55⟩ (off := 2) (.bool bd) (Zv (.bool bd) ?_)))))
  cases h3 : bd with
  | true =>
    rw [h3] at hG
    refine Zk (Zk (Zk (Zk (Zv (.bool true) (Zv (.bool true) (Zk (Zk (Zk (Zv (.bool true) (zK (z8 ?_)))))))))))
    refine Zt (ZO (Zv (.agg #[.slice none 0 0]) (zH (L' := ⟨b3, #[.slice C nd2.length cc], 25⟩ :: (⟨b2, #[.slice C nd2.length cc, .slice A2 ts2.length cap2, .bool true], 55⟩ :: (g ++ (ow ++ ([⟨b1, #[.slice none 0 0], 25⟩]))))) rfl (yI (L' := ⟨b1, #[.slice none 0 0], 25⟩ :: (⟨b3, #[.slice C nd2.length cc], 25⟩ :: (⟨b2, #[.slice C nd2.length cc, .slice A2 ts2.length cap2, .bool true], 55⟩ :: (g ++ (ow))))) (fun w hO => hO.perm (by simpa [List.append_assoc] using (List.perm_middle (a := ⟨b1, #[.slice none 0 0], 25⟩) (l₁ := (⟨b3, #[.slice C nd2.length cc], 25⟩ :: (⟨b2, #[.slice C nd2.length cc, .slice A2 ts2.length cap2, .bool true], 55⟩ :: (g ++ (ow ++ ([] : List Blk)))))) (l₂ := ([] : List Blk))))) (Zs 0 ⟨b1, #[.slice none 0 0], 25⟩ (off := 0) (.agg #[.slice none 0 0]) (Zv (.int .i64 7) (ZN (zG (z5 ?_)))))))))
    exact ZD 0 ⟨b1, #[.slice none 0 0], 25⟩ (off := 0) (.agg #[.slice none 0 0]) (.int .i64 7) Tryd.results11 (fun w hO => ⟨_, [], by rw [(k5 h96 h2).1, show xV s = none from bM hG (.inl rfl)], by rw [(k5 h96 h2).2, show xV s = none from bM hG (.inl rfl)]; exact Sl.nil _ _, (by have q := Own.join (R := []) (by rw [List.append_nil]; exact hO1) hO; rw [List.append_nil] at q; exact q.sublist (List.nil_sublist _))⟩)
  | false =>
    rw [h3] at hG
    refine Zv (.pointer (some ⟨b2, 1, none⟩)) (Zl 1 ⟨b2, #[.slice C nd2.length cc, .slice A2 ts2.length cap2, .bool false], 55⟩ (off := 1) (.slice A2 ts2.length cap2) (Zv (.int .i64 (ts2.length : Int)) ?_))
    by_cases h4 : (0 : Int) < (ts2.length : Int)
    · have hne : ts2 ≠ [] := fun q => by rw [q] at h4; simp at h4
      refine Zd (p := (0 : Int) < (ts2.length : Int)) true (decide_eq_true (h4)) (Zv (.bool true) (Zv (.bool true) (Zk (Zk (Zk (Zv (.bool true) (ZY (zF (z7 ?_)))))))))
      exact Zv (.agg #[.slice none 0 0]) (zH (L' := ⟨b3, #[.slice C nd2.length cc], 25⟩ :: (⟨b2, #[.slice C nd2.length cc, .slice A2 ts2.length cap2, .bool false], 55⟩ :: (g ++ (ow ++ ([⟨b1, #[.slice none 0 0], 25⟩]))))) rfl (yI (L' := ⟨b1, #[.slice none 0 0], 25⟩ :: (⟨b3, #[.slice C nd2.length cc], 25⟩ :: (⟨b2, #[.slice C nd2.length cc, .slice A2 ts2.length cap2, .bool false], 55⟩ :: (g ++ (ow))))) (fun w hO => hO.perm (by simpa [List.append_assoc] using (List.perm_middle (a := ⟨b1, #[.slice none 0 0], 25⟩) (l₁ := (⟨b3, #[.slice C nd2.length cc], 25⟩ :: (⟨b2, #[.slice C nd2.length cc, .slice A2 ts2.length cap2, .bool false], 55⟩ :: (g ++ (ow ++ ([] : List Blk)))))) (l₂ := ([] : List Blk))))) (Zs 0 ⟨b1, #[.slice none 0 0], 25⟩ (off := 0) (.agg #[.slice none 0 0]) (Zv (.int .i64 7) (ZN (zG (z5 (ZD 0 ⟨b1, #[.slice none 0 0], 25⟩ (off := 0) (.agg #[.slice none 0 0]) (.int .i64 7) Tryd.results11 (fun w hO => ⟨_, [], by rw [(k5 h96 h2).1, show xV s = none from bM hG (.inr (.inl hne))], by rw [(k5 h96 h2).2, show xV s = none from bM hG (.inr (.inl hne))]; exact Sl.nil _ _, (by have q := Own.join (R := []) (by rw [List.append_nil]; exact hO1) hO; rw [List.append_nil] at q; exact q.sublist (List.nil_sublist _))⟩)))))))))
    have hts : ts2 = [] := List.eq_nil_of_length_eq_zero (by omega)
    rw [hts] at hG
    refine Zd (p := (0 : Int) < (ts2.length : Int)) false (decide_eq_false (h4)) (Zv (.bool false) (Zv (.bool false) (Zl 0 ⟨b3, #[.slice C nd2.length cc], 25⟩ (off := 0) (.agg #[.slice C nd2.length cc]) (Zc (k := 19) (args := #[.agg #[.slice C nd2.length cc]]) (.bool (kB nd2)) (fun w hO => gC C cc nd2 w (Sl.reads hsl rfl hO (fun x hx => by simp [hx])) hnw hnt ⟨Nat.lt_of_lt_of_le (n5 hK hO1 hO).lt hO.size, (n5 hK hO1 hO).held⟩) ?_))))
    cases h5 : kB nd2 with
    | true =>
      obtain ⟨t, hok, hnd, hrd⟩ := gl_some hG h5
      refine Zv (.bool false) (Zv (.bool false) (ZX (ZB (ZO (Zl 0 ⟨b3, #[.slice C nd2.length cc], 25⟩ (off := 0) (.agg #[.slice C nd2.length cc]) (zH (L' := ⟨b3, #[.slice C nd2.length cc], 25⟩ :: (⟨b2, #[.slice C nd2.length cc, .slice A2 ts2.length cap2, .bool false], 55⟩ :: (g ++ (ow ++ ([⟨b1, #[.slice none 0 0], 25⟩]))))) rfl (yI (L' := ⟨b1, #[.slice none 0 0], 25⟩ :: (⟨b3, #[.slice C nd2.length cc], 25⟩ :: (⟨b2, #[.slice C nd2.length cc, .slice A2 ts2.length cap2, .bool false], 55⟩ :: (g ++ (ow))))) (fun w hO => hO.perm (by simpa [List.append_assoc] using (List.perm_middle (a := ⟨b1, #[.slice none 0 0], 25⟩) (l₁ := (⟨b3, #[.slice C nd2.length cc], 25⟩ :: (⟨b2, #[.slice C nd2.length cc, .slice A2 ts2.length cap2, .bool false], 55⟩ :: (g ++ (ow ++ ([] : List Blk)))))) (l₂ := ([] : List Blk))))) ?_)))))))
      exact Zs 0 ⟨b1, #[.slice none 0 0], 25⟩ (off := 0) (.agg #[.slice C nd2.length cc]) (Zv (.int .i64 0) (ZN (zG (ZD 0 ⟨b1, #[.slice C nd2.length cc], 25⟩ (off := 0) (.agg #[.slice C nd2.length cc]) (.int .i64 0) Tryd.results11 (fun w hO => ⟨_, g, by rw [(k5 h96 h2).1, hrd], by rw [(k5 h96 h2).2, hrd]; show SlN _ (t.enc 0) g; rw [← hnd]; exact hsl, (by have q := Own.join (R := []) (by rw [List.append_nil]; exact hO1) hO; rw [List.append_nil] at q; exact q.sublist ((((List.sublist_append_left _ _).cons _).cons _).cons _))⟩)))))
    | false =>
      refine Zv (.bool true) (Zv (.bool true) (ZY (ZO (Zv (.agg #[.slice none 0 0]) (zH (L' := ⟨b3, #[.slice C nd2.length cc], 25⟩ :: (⟨b2, #[.slice C nd2.length cc, .slice A2 ts2.length cap2, .bool false], 55⟩ :: (g ++ (ow ++ ([⟨b1, #[.slice none 0 0], 25⟩]))))) rfl (yI (L' := ⟨b1, #[.slice none 0 0], 25⟩ :: (⟨b3, #[.slice C nd2.length cc], 25⟩ :: (⟨b2, #[.slice C nd2.length cc, .slice A2 ts2.length cap2, .bool false], 55⟩ :: (g ++ (ow))))) (fun w hO => hO.perm (by simpa [List.append_assoc] using (List.perm_middle (a := ⟨b1, #[.slice none 0 0], 25⟩) (l₁ := (⟨b3, #[.slice C nd2.length cc], 25⟩ :: (⟨b2, #[.slice C nd2.length cc, .slice A2 ts2.length cap2, .bool false], 55⟩ :: (g ++ (ow ++ ([] : List Blk)))))) (l₂ := ([] : List Blk))))) (Zs 0 ⟨b1, #[.slice none 0 0], 25⟩ (off := 0) (.agg #[.slice none 0 0]) (Zv (.int .i64 7) ?_))))))))
      exact ZN (zG (z5 (ZD 0 ⟨b1, #[.slice none 0 0], 25⟩ (off := 0) (.agg #[.slice none 0 0]) (.int .i64 7) Tryd.results11 (fun w hO => ⟨_, [], by rw [(k5 h96 h2).1, show xV s = none from bM hG (.inr (.inr h5))], by rw [(k5 h96 h2).2, show xV s = none from bM hG (.inr (.inr h5))]; exact Sl.nil _ _, (by have q := Own.join (R := []) (by rw [List.append_nil]; exact hO1) hO; rw [List.append_nil] at q; exact q.sublist (List.nil_sublist _))⟩))))
end
section
def plc (v n : Int) : Int := if v.tmod n < 0 then v.tmod n + n else v.tmod n
theorem tmod_in (v n : Int) (hn : 0 < n) : -n < v.tmod n ∧ v.tmod n < n := by
  rcases Int.lt_or_le v 0 with h | h
  · have h3 := Int.tmod_lt_of_pos (-v) hn
    have h4 := Int.tmod_nonneg n (show 0 ≤ -v by omega)
    rw [Int.neg_tmod] at h3 h4; omega
  · have h3 := Int.tmod_lt_of_pos v hn
    have h4 := Int.tmod_nonneg n h
    omega
theorem plc_in (v n : Int) (hn : 0 < n) : 0 ≤ plc v n ∧ plc v n < n := by
  obtain ⟨h1, h2⟩ := tmod_in v n hn
  unfold plc
  split <;> omega
theorem gL (v n : Int) (w : World) (hn : 0 < n) (hn2 : n ≤ 1000000) :
    Calls Tryd.prog 38 #[.int .i64 v, .int .i64 n] w fun e w' => e = .returned (.int .i64 (plc v n)) ∧ w = w' := by
  obtain ⟨h1, h2⟩ := tmod_in v n hn
  have HP : Hid (plc v n = if v.tmod n < 0 then v.tmod n + n else v.tmod n) := rfl
  have hn0 : (n == 0) = false := by simp; omega
  have hw : IntKind.i64.wrap (v.tmod n) = v.tmod n := IntWalk.i64_in _ (by omega)
  obtain ⟨m, hm⟩ : ∃ m, v.tmod n = m := ⟨_, rfl⟩
  rw [hm] at h1 h2 HP hw
  by_cases h0 : m < 0
  · have hs : 0 ≤ m + n := by omega
    have hs2 : m + n ≤ 1000000 := by omega
    go_enter Tryd.func38, Tryd.ntmps38
    go_wp2
    go_ret
    exact ⟨wJ (by rw [HP.out, if_pos h0]), rfl⟩
  · go_enter Tryd.func38, Tryd.ntmps38
    go_wp2
    go_ret
    exact ⟨wJ (by rw [HP.out, if_neg (by omega)]), rfl⟩
end
section
def ReadsI (w : World) (B : Nat) (v : Value) (l : List Int) : Prop :=
  ∃ A cap, v = .slice A l.length cap ∧ (0 < l.length → ∃ ad : Addr, A = some ad ∧ ad.block < B ∧ ∀ j (h : j < l.length), w.cell? (ad.add j) = some (.int .i64 l[j]))
theorem pJ (a : Addr) (n : Nat) : (a.add n).block = a.block := by unfold Addr.add; split <;> rfl
theorem ReadsI.below {w w' : World} {B : Nat} {v : Value} {l : List Int} (h : ReadsI w B v l) (hb : Below B w w') : ReadsI w' B v l := by
  obtain ⟨A, cap, hv, hc⟩ := h
  exact ⟨A, cap, hv, fun hpos => by
    obtain ⟨ad, hA, hlt, hcc⟩ := hc hpos
    exact ⟨ad, hA, hlt, fun j hj => (hb.cell (by rw [pJ]; exact hlt)).trans (hcc j hj)⟩⟩
theorem ReadsI.more {w : World} {B B' : Nat} {v : Value} {l : List Int} (h : ReadsI w B v l) (hB : B ≤ B') : ReadsI w B' v l := by
  obtain ⟨A, cap, hv, hc⟩ := h
  exact ⟨A, cap, hv, fun hpos => by
    obtain ⟨ad, hA, hlt, hcc⟩ := hc hpos
    exact ⟨ad, hA, Nat.lt_of_lt_of_le hlt hB, hcc⟩⟩
def atL (l : List Int) (i : Nat) : Int := (l[i]?).getD 0
theorem at_any (v : Value) (l : List Int) (i : Nat) (w : World) (hv : ReadsI w w.heap.size v l) (hl : l.length ≤ 9223372036854775807) (hi : i ≤ 1000000) :
    Calls Tryd.prog 37 #[v, .int .i64 i] w fun e w' => e = .returned (.int .i64 (atL l i)) ∧ w = w' := by
  obtain ⟨A, cap, rfl, hc⟩ := hv
  by_cases h : i < l.length
  · obtain ⟨ad, rfl, hlt, hcc⟩ := hc (by omega)
    have hcell := hcc i h
    have hi1 : (i : Int) < l.length := by omega
    have hi2 : ¬ (l.length : Int) ≤ i := by omega
    have HA : Hid (atL l i = l[i]) := by show _ = _; unfold atL; rw [List.getElem?_eq_getElem h]; rfl
    clear hc hcc
    go_enter Tryd.func37, Tryd.ntmps37
    go_wp2
    go_ret
    exact ⟨wJ HA.out.symm, rfl⟩
  · have hi1 : (l.length : Int) ≤ i := by omega
    have HA : Hid (atL l i = 0) := by show _ = _; unfold atL; rw [List.getElem?_eq_none (by omega)]; rfl
    clear hc
    go_enter Tryd.func37, Tryd.ntmps37
    go_wp2
    go_ret
    exact ⟨wJ HA.out.symm, rfl⟩
def i64in (n : Int) : Prop := -9223372036854775808 ≤ n ∧ n ≤ 9223372036854775807
theorem from_any (v : Value) (l : List Int) (i : Nat) (n : Int) (w : World) (hv : ReadsI w w.heap.size v l) (hl : l.length ≤ 9223372036854775807) (hi : i ≤ 1000000) (hn : 0 < n) (hn2 : n ≤ 1000000) :
    Calls Tryd.prog 36 #[v, .int .i64 i, .int .i64 n] w fun e w' => e = .returned (.int .i64 (plc (atL l i) n)) ∧ w = w' := by
  have cA := at_any v l i w hv hl hi
  obtain ⟨A, cap, rfl, hc⟩ := hv
  clear hc
  go_enter Tryd.func36, Tryd.ntmps36
  go_wp2_with fail
  refine cA.mono ?_
  rintro e w1 ⟨rfl, rfl⟩
  go_wp2_with fail
  refine (gL _ n _ hn hn2).mono ?_
  rintro e w1 ⟨rfl, rfl⟩
  go_wp2
  go_ret
  exact ⟨rfl, rfl⟩
theorem t1 {W : World} {v : Value} {l : List Int} (hv : ReadsI W W.heap.size v l) (hl : l.length ≤ 9223372036854775807) (i : Nat) (n : Int) (hi : i ≤ 1000000) (hn : 0 < n) (hn2 : n ≤ 1000000) {k : Int} (hk : plc (atL l i) n = k) :
    ∀ w, Below W.heap.size W w → Calls Tryd.prog 36 #[v, .int .i64 i, .int .i64 n] w fun e w' => e = .returned (.int .i64 k) ∧ Below w.heap.size w w' := fun w hb => by
  have h := from_any v l i n w ((hv.below hb).more hb.size) hl hi hn hn2
  rw [hk] at h
  exact h.mono fun _ _ ⟨e1, e2⟩ => ⟨e1, e2 ▸ Below.refl _ _⟩
theorem wY (v : Int) (n : Nat) (hn : 0 < n) : ∃ k : Nat, plc v n = (k : Int) ∧ k < n := by
  have h := plc_in v n (by omega)
  exact ⟨(plc v n).toNat, (Int.toNat_of_nonneg h.1).symm, by omega⟩
end
section
set_option linter.unnecessarySimpa false
theorem run_rem {P : Program} {ρ : Operand → Value} {o : Oper} {t t' : TypeId} {x y : Operand} {i j : Int} (ho : o.op = .binOp .rem t x y t') (hx : ρ x = .int .i64 i) (hy : ρ y = .int .i64 j) (h0 : 0 ≤ i) (hi : i ≤ 1000000) (hj : 0 < j) (w : World) : (execOp ρ o).run P w = .ok (.value (.int .i64 (i % j))) w := by
  have e : i.tmod j = i % j := Int.tmod_eq_emod_of_nonneg h0
  have h1 : 0 ≤ i % j := Int.emod_nonneg _ (by omega)
  have h2 : i % j ≤ i := by rw [Int.emod_def]; have := Int.mul_nonneg (show 0 ≤ j by omega) (Int.ediv_nonneg h0 (show 0 ≤ j by omega)); omega
  have hw : IntKind.i64.wrap (i % j) = i % j := IntWalk.i64_in _ (by omega)
  have hj0 : (j == 0) = false := by simp; omega
  unfold execOp
  simp [ho, hx, hy, eqGuard, binOp, Op.intDiv, Sem.run_bind, e, hw, hj0, show ¬ j = 0 by omega]
theorem m6 {P : Program} {ρ : Operand → Value} {o : Oper} {t t' : TypeId} {x y : Operand} {i j : Int} (ho : o.op = .binOp .quo t x y t') (hx : ρ x = .int .i64 i) (hy : ρ y = .int .i64 j) (h0 : 0 ≤ i) (hi : i ≤ 1000000) (hj : 0 < j) (w : World) : (execOp ρ o).run P w = .ok (.value (.int .i64 (i / j))) w := by
  have e : i.tdiv j = i / j := Int.tdiv_eq_ediv_of_nonneg h0
  have h1 : 0 ≤ i / j := Int.ediv_nonneg h0 (by omega)
  have h2 : i / j ≤ i := Int.ediv_le_self _ h0
  have hw : IntKind.i64.wrap (i / j) = i / j := IntWalk.i64_in _ (by omega)
  have hj0 : (j == 0) = false := by simp; omega
  unfold execOp
  simp [ho, hx, hy, eqGuard, binOp, Op.intDiv, Sem.run_bind, e, hw, hj0, show ¬ j = 0 by omega]
def zW (k : Nat) : List UInt8 := if k = 0 then [120] else if k = 1 then [121] else if k = 2 then [122] else [119, 95, 49]
theorem tB (k : Nat) : wdL (zW k) = true := by
  unfold zW
  split
  · decide
  · split
    · decide
    · split <;> decide
theorem tA (k : Nat) : (zW k).length ≤ 3 := by
  unfold zW
  split
  · simp
  · split
    · simp
    · split <;> simp
theorem plc_small {k n : Nat} (h : k < n) : plc (k : Int) (n : Int) = (k : Int) := by
  have e : ((k : Int)).tmod (n : Int) = (k : Int) := by rw [Int.tmod_eq_emod_of_nonneg (by omega)]; exact Int.emod_eq_of_lt (by omega) (by omega)
  unfold plc
  rw [e, if_neg (by omega)]
theorem run_idxw {P : Program} {ρ : Operand → Value} {o : Oper} {t e : TypeId} {x y : Operand} {k : Nat} (hk : k < 4) (ho : o.op = .index t x y) (hx : ρ x = .agg #[.string ⟨#[120]⟩, .string ⟨#[121]⟩, .string ⟨#[122]⟩, .string ⟨#[119, 95, 49]⟩]) (hy : ρ y = .int .i64 (k : Int))
    (hu : P.underlying t = some (.array 4 e)) (hp : ∀ i, i < 4 → ∀ w, (part e #[.string ⟨#[120]⟩, .string ⟨#[121]⟩, .string ⟨#[122]⟩, .string ⟨#[119, 95, 49]⟩] i).run P w = .ok (.string (mkS (zW i))) w) (hs : (P.info? e).map (·.size) = some 1) (w : World) : (execOp ρ o).run P w = .ok (.value (.string (mkS (zW k)))) w := by
  cases he : P.info? e with
  | none => rw [he] at hs; cases hs
  | some i =>
    rw [he] at hs
    have hs1 : i.size = 1 := Option.some.inj hs
    unfold execOp
    have h2 := hp k hk
    have hk4 : ¬ 4 ≤ k := by omega
    simp [ho, hx, hy, Instr.index, Sem.run_bind, asIntOf, run_underlying hu, sizeOf, typeInfo, he, hs1, h2, hk, hk4]
theorem word_part : ∀ (i : Nat), i < 4 → ∀ w, (part 9 #[.string ⟨#[120]⟩, .string ⟨#[121]⟩, .string ⟨#[122]⟩, .string ⟨#[119, 95, 49]⟩] i).run Tryd.prog w = .ok (.string (mkS (zW i))) w
  | 0, _, w => by kernel_rfl
  | 1, _, w => by kernel_rfl
  | 2, _, w => by kernel_rfl
  | 3, _, w => by kernel_rfl
theorem wU (k : Nat) (hk : k < 4) (W : World) : Calls Tryd.prog 39 #[.int .i64 (k : Int)] W fun e w' => e = .returned (.string (mkS (zW k))) ∧ Below W.heap.size W w' := by
  refine zU (n := 7) Tryd.func39 rfl (by kernel_rfl) (by kernel_rfl) (ZO (Zv (.string ⟨#[]⟩) (ZR (Zv (.agg #[.string ⟨#[120]⟩, .string ⟨#[121]⟩, .string ⟨#[122]⟩, .string ⟨#[119, 95, 49]⟩]) (Zv (.int .i64 (k : Int)) (Zc (k := 38) (args := #[.int .i64 (k : Int), .int .i64 4]) (.int .i64 (k : Int)) (fun w _ => (gL (k : Int) 4 w (by decide) (by decide)).mono fun _ _ ⟨e1, e2⟩ => ⟨by rw [e1, show plc (k : Int) 4 = (k : Int) from plc_small hk], e2 ▸ Below.refl _ _⟩) (zM (.string (mkS (zW k))) (by kernel_rfl) (run_idxw hk rfl (by kernel_rfl) (by kernel_rfl) Tryd.underlying86 (fun i hi w => word_part i hi w) (by kernel_rfl)) ?_)))))))
  exact Zv (.string (mkS (zW k))) (ZN (zG (ZF (.string (mkS (zW k))) Tryd.results39 (fun w hO => ⟨rfl, hO.below⟩))))
def gG (q : Pf) (k : Nat) (t : List UInt8) : Pf := fun i => if i = k then t else q i
theorem wZ (q : Pf) (t : List UInt8) : ∀ (k : Nat), k < 3 → xX #[.string (mkS (q 0)), .string (mkS (q 1)), .string (mkS (q 2))] k (Value.string (mkS t)).cells = #[.string (mkS (gG q k t 0)), .string (mkS (gG q k t 1)), .string (mkS (gG q k t 2))]
  | 0, _ => rfl
  | 1, _ => rfl
  | 2, _ => rfl
def PfG (q : Pf) : Prop := ∀ k, q k = [] ∨ (wdL (q k) = true ∧ (q k).length ≤ 3)
theorem PfG.set {q : Pf} (h : PfG q) (k j : Nat) : PfG (gG q k (zW j)) := fun i => by
  unfold gG
  split
  · exact .inr ⟨tB j, tA j⟩
  · exact h i
theorem PfG.ok {q : Pf} (h : PfG q) : vQ q = true := by
  have key : ∀ k, (decide (q k = []) || wdL (q k)) = true := fun k => by
    rcases h k with e | ⟨e, _⟩
    · simp [e]
    · simp [e]
  unfold vQ
  rw [key 0, key 1, key 2]; rfl
theorem PfG.short {q : Pf} (h : PfG q) : PfS q := by
  have key : ∀ k, (q k).length ≤ 1000000 := fun k => by
    rcases h k with e | ⟨_, e⟩
    · simp [e]
    · omega
  exact ⟨key 0, key 1, key 2⟩
theorem bO (v : Value) (l : List Int) (i : Nat) (W : World) (hv : ReadsI W W.heap.size v l) (hl : l.length ≤ 9223372036854775807) (hi : i ≤ 1000) : Calls Tryd.prog 21 #[v, .int .i64 (i : Int)] W fun e w' => ∃ q : Pf, e = .returned (pfV q) ∧ PfG q ∧ Below W.heap.size W w' := by
  refine zU (n := 25) Tryd.func21 rfl (by kernel_rfl) (by kernel_rfl) (ZO (Za (.agg #[.string ⟨#[]⟩, .string ⟨#[]⟩, .string ⟨#[]⟩]) (fun b1 => ZR (Za (.agg #[.string ⟨#[]⟩, .string ⟨#[]⟩, .string ⟨#[]⟩]) (fun b2 => ZN (zF ?_))))))
  refine ZO (Zv (.int .i64 0) (ZN (zP (yB (L' := [⟨b2, #[.string (mkS ((fun _ => [] : Pf) 0)), .string (mkS ((fun _ => [] : Pf) 1)), .string (mkS ((fun _ => [] : Pf) 2))], 33⟩, ⟨b1, #[.string ⟨#[]⟩, .string ⟨#[]⟩, .string ⟨#[]⟩], 33⟩]) rfl (xT (fun L f m => ∃ (k : Nat) (q : Pf) (j : Nat → Value), (k ≤ 3 ∧ PfG q) ∧ L = [⟨b2, #[.string (mkS (q 0)), .string (mkS (q 1)), .string (mkS (q 2))], 33⟩, ⟨b1, #[.string ⟨#[]⟩, .string ⟨#[]⟩, .string ⟨#[]⟩], 33⟩] ∧ f = qT j [(0, v), (1, .int .i64 (i : Int)), (4, .pointer (some ⟨b1, 0, none⟩)), (5, .pointer (some ⟨b2, 0, none⟩)), (6, .int .i64 (k : Int))] ∧ m = 3 - k) (3 - 0) ⟨0, (fun _ => []), _, ⟨by omega, fun _ => .inl rfl⟩, rfl, ZU, rfl⟩ ?_)))))
  rintro L f m ⟨k, q, j, hrel, rfl, rfl, rfl⟩
  obtain ⟨hk6, hq⟩ := hrel
  refine zF (ZO (Zv (.int .i64 (k : Int)) ?_))
  by_cases h1 : (k : Int) < 3
  · have hk3 : k < 3 := by omega
    obtain ⟨c, hc, hc4⟩ := wY (atL l (i + k)) 4 (by decide)
    have hfr := t1 hv hl (i + k) 4 (by omega) (by decide) (by decide) hc
    refine Zd (p := (k : Int) < 3) true (decide_eq_true (h1)) (ZY (ZB (zF (zP (ZO (Zv (v) (Zv (.int .i64 (i : Int)) ?_)))))))
    refine Zv (.int .i64 (k : Int)) (Zu (k := .i64) (((i + k : Nat) : Int)) (IntWalk.i64_in _ (by omega)) (Zc (k := 36) (args := #[v, .int .i64 ((i + k : Nat) : Int), .int .i64 4]) (.int .i64 (c : Int)) (fun w hO => hfr w hO.below) (Zv (.int .i64 (c : Int)) (ZR (Zv (.int .i64 (c : Int)) ?_)))))
    by_cases h2 : (0 : Int) < (c : Int)
    · refine x8 (p := (0 : Int) < (c : Int)) true (by kernel_rfl) (fun _ => by kernel_rfl) (decide_eq_true (h2)) ?_
      refine ZY (z7 (Zv (.int .i64 (k : Int)) (Zv (.int .i64 (c : Int)) (Zc (k := 39) (args := #[.int .i64 (c : Int)]) (.string (mkS (zW c))) (fun w hO => wU c hc4 w) (Zv (.pointer (some ⟨b2, 0, none⟩)) (zM (.pointer (some ⟨b2, k, none⟩)) (by kernel_rfl) (xK (b := b2) (off := 0) (k := .i64) (j := (k : Int)) (n := 3) (e := 9) (sz := 1) rfl (by kernel_rfl) (by kernel_rfl) (by kernel_rfl) (by kernel_rfl) (by omega) (by omega) (by omega)) (kV 0 ⟨b2, #[.string (mkS (q 0)), .string (mkS (q 1)), .string (mkS (q 2))], 33⟩ (off := k) (.string (mkS (zW c))) 1 (by kernel_rfl) rfl rfl (by kernel_rfl) (by kernel_rfl) (by kernel_rfl) (by kernel_rfl) (by kernel_rfl) (by show k + 1 ≤ 3; omega) (by kernel_rfl) (zH (L' := [⟨b2, #[.string (mkS (gG q k (zW c) 0)), .string (mkS (gG q k (zW c) 1)), .string (mkS (gG q k (zW c) 2))], 33⟩, ⟨b1, #[.string ⟨#[]⟩, .string ⟨#[]⟩, .string ⟨#[]⟩], 33⟩]) (by rw [show (⟨b2, #[.string (mkS (gG q k (zW c) 0)), .string (mkS (gG q k (zW c) 1)), .string (mkS (gG q k (zW c) 2))], 33⟩ : Blk) = ⟨b2, _, _⟩ from congrArg (fun z => (⟨b2, z, 33⟩ : Blk)) (wZ q (zW c) k hk3).symm]; rfl) (zK ?_)))))))))
      exact zJ (z8 (z7 (Zv (.int .i64 (k : Int)) (Zu (k := .i64) (((k + 1 : Nat) : Int)) (IntWalk.i64_in _ (by omega)) (Zv (.int .i64 ((k + 1 : Nat) : Int)) (zK (zS (m' := 3 - (k + 1)) (by omega) ⟨k + 1, (gG q k (zW c)), _, ⟨by omega, hq.set k c⟩, rfl, ZU, rfl⟩)))))))
    refine Zd (p := (0 : Int) < (c : Int)) false (decide_eq_false (h2)) (ZX (x6 (zJ (z8 (z7 (Zv (.int .i64 (k : Int)) (Zu (k := .i64) (((k + 1 : Nat) : Int)) (IntWalk.i64_in _ (by omega)) (Zv (.int .i64 ((k + 1 : Nat) : Int)) (zK ?_)))))))))
    exact zS (m' := 3 - (k + 1)) (by omega) ⟨k + 1, q, _, ⟨by omega, hq⟩, rfl, ZU, rfl⟩
  refine Zd (p := (k : Int) < 3) false (decide_eq_false (h1)) (ZX (xN (yG (zY (zZ (z8 (ZO (Zl 0 ⟨b2, #[.string (mkS (q 0)), .string (mkS (q 1)), .string (mkS (q 2))], 33⟩ (off := 0) (.agg #[.string (mkS (q 0)), .string (mkS (q 1)), .string (mkS (q 2))]) ?_))))))))
  exact Zs 1 ⟨b1, #[.string ⟨#[]⟩, .string ⟨#[]⟩, .string ⟨#[]⟩], 33⟩ (off := 0) (.agg #[.string (mkS (q 0)), .string (mkS (q 1)), .string (mkS (q 2))]) (ZN (zG (ZC 1 ⟨b1, #[.string (mkS (q 0)), .string (mkS (q 1)), .string (mkS (q 2))], 33⟩ (off := 0) (.agg #[.string (mkS (q 0)), .string (mkS (q 1)), .string (mkS (q 2))]) Tryd.results21 (fun w hO => ⟨q, rfl, hq, hO.below⟩))))
end
section
set_option linter.unnecessarySimpa false
def MkG (nd : List Nd) : Prop := nd.length ≤ 14 ∧ (nd = [] ∨ ∃ t : Tr, t.ok = true ∧ nd = t.enc 0)
theorem fD : ∀ {st : List (Nat × Tr)} {l : List Nd}, bC st l → st.length ≤ l.length
  | [], l, _ => Nat.zero_le _
  | p :: r, l, ⟨l0, h, _, _, e⟩ => by
    have := fD h
    have := p.2.sz_pos
    rw [e, List.length_append, Tr.enc_len, List.length_cons]; omega
theorem mkg_of {st : List (Nat × Tr)} {nd : List Nd} (h : bC st nd) (h1 : st.length ≤ 1) (hn : nd.length ≤ 14) : MkG nd := by
  refine ⟨hn, ?_⟩
  match st, h, h1 with
  | [], h, _ => exact .inl h
  | [p], ⟨l0, h0, hok, _, e⟩, _ =>
    have : l0 = [] := h0
    subst this
    exact .inr ⟨p.2, hok, e⟩
theorem m9 {st : List (Nat × Tr)} {nd : List Nd} (h : bC st nd) {k : Nat} (hk : k < 3) (j : Nat) : bC ((nd.length, .is k (zW j)) :: st) (nd ++ [⟨1, 0, 0, (k : Int), zW j⟩]) :=
  ⟨nd, h, by show Tr.ok (.is k (zW j)) = true; unfold Tr.ok; rw [tB, decide_eq_true hk]; rfl, by show nd.length = nd.length + 1 - 1; omega, rfl⟩
theorem lies_not {p : Nat × Tr} {st : List (Nat × Tr)} {nd : List Nd} (h : bC (p :: st) nd) : bC ((nd.length, .no p.2) :: st) (nd ++ [⟨2, (p.1 : Int), 0, 0, []⟩]) := by
  obtain ⟨l0, hr, hok, hp, rfl⟩ := h
  have hz := p.2.sz_pos
  refine ⟨l0, hr, hok, ?_, ?_⟩
  · show (l0 ++ p.2.enc l0.length).length = l0.length + (p.2.sz + 1) - 1
    rw [List.length_append, Tr.enc_len]; omega
  · show l0 ++ p.2.enc l0.length ++ [_] = l0 ++ (p.2.enc l0.length ++ [⟨2, ((l0.length + p.2.sz - 1 : Nat) : Int), 0, 0, []⟩])
    rw [List.append_assoc, hp]
theorem bB {op : Int} {mk : Tr → Tr → Tr} (he : ∀ a b o, (mk a b).enc o = a.enc o ++ b.enc (o + a.sz) ++ [⟨op, ((o + a.sz - 1 : Nat) : Int), ((o + a.sz + b.sz - 1 : Nat) : Int), 0, []⟩]) (hs : ∀ a b, (mk a b).sz = a.sz + b.sz + 1) (ho : ∀ a b, a.ok = true → b.ok = true → (mk a b).ok = true)
    {p q : Nat × Tr} {st : List (Nat × Tr)} {nd : List Nd} (h : bC (p :: q :: st) nd) : bC ((nd.length, mk q.2 p.2) :: st) (nd ++ [⟨op, (q.1 : Int), (p.1 : Int), 0, []⟩]) := by
  obtain ⟨l1, ⟨l0, hr, hok, hq, rfl⟩, hok2, hp, rfl⟩ := h
  have hz := q.2.sz_pos
  have hz2 := p.2.sz_pos
  have hl1 : (l0 ++ q.2.enc l0.length).length = l0.length + q.2.sz := by rw [List.length_append, Tr.enc_len]
  rw [hl1] at hp ⊢
  refine ⟨l0, hr, ho _ _ hok hok2, ?_, ?_⟩
  · rw [hs, List.length_append, hl1, Tr.enc_len]; omega
  · rw [he, hq, hp]; simp
theorem jV (v : Value) (l : List Int) (i : Nat) (W : World) (hv : ReadsI W W.heap.size v l) (hl : l.length ≤ 9223372036854775807) (hi : i ≤ 1000) : Calls Tryd.prog 18 #[v, .int .i64 (i : Int)] W fun e w' => ∃ nd v' ob', e = .returned (.agg #[v']) ∧ SlN v' nd ob' ∧ MkG nd ∧ Own [] W w' ob' := by
  obtain ⟨n0, hn0, hn8⟩ := wY (atL l i) 8 (by decide)
  have hf0 := t1 hv hl i 8 (by omega) (by decide) (by decide) hn0
  refine zU (n := 129) Tryd.func18 rfl (by kernel_rfl) (by kernel_rfl) (ZO (Za (.agg #[.slice none 0 0]) (fun b1 => ZR (Zv (.slice none 0 0) (ZN (zF ?_))))))
  refine z7 (Zv (.slice none 0 0) (ZN (zF (ZO (Zv (v) (Zv (.int .i64 (i : Int)) (Zc (k := 36) (args := #[v, .int .i64 (i : Int), .int .i64 8]) (.int .i64 (n0 : Int)) (fun w hO => hf0 w hO.below) (Zv (.int .i64 (n0 : Int)) (zK ?_)))))))))
  refine z8 (zP (yB (L' := ([] : List Blk) ++ (([] : List Blk) ++ [⟨b1, #[.slice none 0 0], 25⟩])) rfl (xT (fun L f m => ∃ (z : Int) (st : List (Nat × Tr)) (nd : List Nd) (N : Option Addr) (cn : Nat) (Z : Option Addr) (cz : Nat) (on : List Blk) (oz : List Blk) (j : Nat → Value), (bC st nd ∧ SlN (.slice N nd.length cn) nd on ∧ SlZ (.slice Z (rt st).length cz) (rt st) oz ∧ 0 ≤ z ∧ z < 8 ∧ (nd.length : Int) + z ≤ 7) ∧ L = on ++ (oz ++ [⟨b1, #[.slice none 0 0], 25⟩]) ∧ f = qT j [(0, v), (1, .int .i64 (i : Int)), (4, .pointer (some ⟨b1, 0, none⟩)), (5, .slice N nd.length cn), (6, .slice Z (rt st).length cz), (7, .int .i64 z)] ∧ m = z.toNat) ((n0 : Int).toNat) ⟨(n0 : Int), [], [], none, 0, none, 0, [], [], _, ⟨rfl, Sl.nil _ _, Sl.nil _ _, by omega, by omega, by show ((0 : Nat) : Int) + _ ≤ 7; omega⟩, rfl, ZU, rfl⟩ ?_)))
  rintro L f m ⟨z, st, nd, N, cn, Z, cz, on, oz, j, hrel, rfl, rfl, rfl⟩
  obtain ⟨hlies, hsn, hsz, hz0, hz8, hz7⟩ := hrel; have hrtl := xC st; have hll := fD hlies
  refine zF (ZO (Zv (.int .i64 z) ?_))
  by_cases h1 : (0 : Int) < z
  · obtain ⟨n, hzn⟩ : ∃ n : Nat, z = (n : Int) := ⟨z.toNat, by omega⟩
    obtain ⟨kd, hkd, hk6⟩ := wY (atL l (i + 2 * n - 1)) 6 (by decide)
    have hat : ∀ w, Below W.heap.size W w → Calls Tryd.prog 37 #[v, .int .i64 ((i + 2 * n : Nat) : Int)] w fun e w' => e = .returned (.int .i64 (atL l (i + 2 * n))) ∧ Below w.heap.size w w' := fun w hb => (at_any v l (i + 2 * n) w ((hv.below hb).more (Below.size hb)) hl (by omega)).mono fun _ _ ⟨e1, e2⟩ => ⟨e1, e2 ▸ Below.refl w.heap.size w⟩
    have hfr := t1 hv hl (i + 2 * n - 1) 6 (by omega) (by decide) (by decide) hkd
    obtain ⟨xv, hxv⟩ : ∃ xv, atL l (i + 2 * n) = xv := ⟨_, rfl⟩
    rw [hxv] at hat
    obtain ⟨ky, hky, hky3⟩ := wY xv 3 (by decide)
    obtain ⟨wy, hwy, hwy12⟩ := wY xv 12 (by decide)
    refine Zd (p := (0 : Int) < z) true (decide_eq_true (h1)) (ZY (ZB (zF (zP (ZO (Zv (.slice Z ((rt st).length) cz) (Zv (.int .i64 ((rt st).length : Int)) ?_)))))))
    refine Zv (v) (Zv (.int .i64 (i : Int)) (Zv (.int .i64 z) (Zu (k := .i64) ((2 : Int) * z) (IntWalk.i64_in _ (by omega)) (Zu (k := .i64) ((i : Int) + 2 * z) (IntWalk.i64_in _ (by omega)) (Zc (k := 37) (args := #[v, .int .i64 ((i : Int) + 2 * z)]) (.int .i64 xv) (fun w hO => by rw [show (i : Int) + 2 * z = ((i + 2 * n : Nat) : Int) by omega]; exact hat w hO.below) (Zv (.int .i64 ((rt st).length : Int)) (Zv (.int .i64 xv) (ZN (zF (z7 ?_))))))))))
    refine Zv (v) (Zv (.int .i64 (i : Int)) (Zv (.int .i64 z) (Zu (k := .i64) ((2 : Int) * z) (IntWalk.i64_in _ (by omega)) (Zu (k := .i64) ((i : Int) + 2 * z) (IntWalk.i64_in _ (by omega)) (Zu (k := .i64) ((i : Int) + 2 * z - 1) (IntWalk.i64_in _ (by omega)) (Zc (k := 36) (args := #[v, .int .i64 ((i : Int) + 2 * z - 1), .int .i64 6]) (.int .i64 (kd : Int)) (fun w hO => by rw [show (i : Int) + 2 * z - 1 = ((i + 2 * n - 1 : Nat) : Int) by omega]; exact hfr w hO.below) (Zv (.int .i64 (kd : Int)) (ZN (zF (zP ?_))))))))))
    refine ZO (Zv (.int .i64 (kd : Int)) ?_)
    by_cases h2 : (kd : Int) = 0
    · refine x8 (p := (kd : Int) = 0) true (by kernel_rfl) (fun _ => by kernel_rfl) (decide_eq_true (h2)) ?_
      refine Zv (.bool true) (Zv (.int .i64 ((rt st).length : Int)) ?_)
      by_cases h3 : (0 : Int) < ((rt st).length : Int)
      · obtain ⟨p, r, hst⟩ := st_one (st := st) (by omega)
        obtain ⟨g, hgB, hcap⟩ := Sl.at0 hsz (by omega)
        have hrl : (rt st).length = r.length + 1 := by rw [xC, hst]; rfl
        have hlast : ∀ h : r.length < (rt st).length, (rt st)[r.length] = (p.1 : Int) := by subst hst; exact fun h => wI p r h
        have hrr := xC r
        have hsl2 : SlZ (.slice (some ⟨g, 0, none⟩) (rt r).length cz) (rt r) oz := by
          subst hst; subst hgB
          have q9 := Sl.front x7 hsz (by rw [yW]; simp) (k := r.length) (by omega)
          rw [rt_take] at q9
          unfold SlZ; rw [show (rt r).length = r.length from xC r] at q9 ⊢; exact q9
        refine Zd (p := (0 : Int) < ((rt st).length : Int)) true (decide_eq_true (h3)) (Zv (.bool true) (Zv (.bool true) (ZY (ZO (Zv (.slice N nd.length cn) (Zv (.slice Z ((rt st).length) cz) (Zv (.int .i64 ((rt st).length : Int)) (Zu (k := .i64) (((rt st).length : Int) - 1) (IntWalk.i64_in _ (by omega)) ?_))))))))
        refine zM (.pointer (some ⟨g, 0 + (r.length) * 1, none⟩)) (by kernel_rfl) (xY (b := g) (off := 0) (c := cz) (n := (rt st).length) (k := .i64) (j := ((rt st).length : Int) - 1) (e := 3) (sz := 1) rfl (by kernel_rfl) hgB (by kernel_rfl) (by kernel_rfl) (by kernel_rfl) (by omega) (by omega) (by omega)) (Zo (.int .i64 (p.1 : Int)) (a := ⟨g, 0 + (r.length) * 1, none⟩) (fun w hO => Reads.load x7 (Sl.reads hsz rfl hO (fun x hx => by simp [hx])) hgB (r.length) 0 (by omega) (by omega) _ (by rw [hlast]; kernel_rfl)) (Zv (ndV (⟨2, (p.1 : Int), 0, 0, []⟩ : Nd)) (g0 48 #[.int .i64 2, .int .i64 (p.1 : Int), .int .i64 0, .int .i64 0, .string ⟨#[]⟩] (by kernel_rfl) rfl (fun _ => by kernel_rfl) (fun b2 => ?_))))
        have hP : (nd ++ [(⟨2, (p.1 : Int), 0, 0, []⟩ : Nd)]).length = nd.length + 1 := by simp
        obtain ⟨i0, z0, e1, e2, e3, e4, e5⟩ := xD
        refine zH (L' := [⟨b2, #[.int .i64 2, .int .i64 (p.1 : Int), .int .i64 0, .int .i64 0, .string ⟨#[]⟩], 48⟩] ++ on ++ (oz ++ ([⟨b1, #[.slice none 0 0], 25⟩]))) (by simp <;> rfl) (x0 (sz := 5) (by kernel_rfl) rfl Tryd.underlying23 e1 e2 e3 e4 (by kernel_rfl) hsn (a := ⟨b2, 0, none⟩) (m := 1) (c := 1) (news := nC (⟨2, (p.1 : Int), 0, 0, []⟩ : Nd)) (by kernel_rfl) rfl (fun w hO j u hj => ?_) (fun u hu => by simp only [nC, List.mem_cons, List.not_mem_nil, or_false] at hu; rcases hu with rfl | rfl | rfl | rfl | rfl <;> rfl) (by unfold maxLen; omega) (by rw [e5]; omega) (fun u2 on2 hu2 => ?_))
        · rw [y5, cell_of_row w b2 (0 + j) (nC (⟨2, (p.1 : Int), 0, 0, []⟩ : Nd)).toArray 48 _ (hO.held ⟨b2, (nC (⟨2, (p.1 : Int), 0, 0, []⟩ : Nd)).toArray, 48⟩ (List.mem_append_left _ (List.mem_append_left _ (List.mem_cons_self ..))))]; simpa using hj
        have hu2s : SlN u2 (nd ++ [(⟨2, (p.1 : Int), 0, 0, []⟩ : Nd)]) on2 := SlN.add hu2
        obtain ⟨B2, cn2, rfl⟩ := Sl.form hu2s
        refine yI (L' := on2 ++ (oz ++ ([⟨b1, #[.slice none 0 0], 25⟩]))) (fun w hO => Own.sub [⟨b2, #[.int .i64 2, .int .i64 (p.1 : Int), .int .i64 0, .int .i64 0, .string ⟨#[]⟩], 48⟩] (show Own _ _ w (⟨b2, #[.int .i64 2, .int .i64 (p.1 : Int), .int .i64 0, .int .i64 0, .string ⟨#[]⟩], 48⟩ :: (on2 ++ (oz ++ ([⟨b1, #[.slice none 0 0], 25⟩])))) from by simpa using hO)) (Zv (.slice B2 ((nd ++ [(⟨2, (p.1 : Int), 0, 0, []⟩ : Nd)]).length) cn2) (ZN (z7 (Zv (.slice Z ((rt st).length) cz) (Zv (.int .i64 ((rt st).length : Int)) (Zu (k := .i64) (((rt st).length : Int) - 1) (IntWalk.i64_in _ (by omega)) (zM (.slice (some ⟨g, 0, none⟩) ((rt r).length) cz) (by kernel_rfl) (fun w => by rw [show (rt r).length = (((rt st).length : Int) - 1).toNat from by omega]; subst hgB; exact jR (b := g) (off := 0) (n := (rt st).length) (c := cz) (k := .i64) (j := ((rt st).length : Int) - 1) (e := 3) (sz := 1) rfl (by kernel_rfl) (by kernel_rfl) (by kernel_rfl) (by kernel_rfl) (by omega) (by omega) w) (Zv (.slice (some ⟨g, 0, none⟩) ((rt r).length) cz) (zK (zJ ?_))))))))))
        refine z8 (z7 (Zv (.slice (some ⟨g, 0, none⟩) ((rt r).length) cz) (Zv (.slice B2 ((nd ++ [(⟨2, (p.1 : Int), 0, 0, []⟩ : Nd)]).length) cn2) (Zv (.int .i64 ((nd ++ [(⟨2, (p.1 : Int), 0, 0, []⟩ : Nd)]).length : Int)) (Zu (k := .i64) (((nd ++ [(⟨2, (p.1 : Int), 0, 0, []⟩ : Nd)]).length : Int) - 1) (IntWalk.i64_in _ (by omega)) ?_)))))
        rw [show (((nd ++ [(⟨2, (p.1 : Int), 0, 0, []⟩ : Nd)]).length : Int) - 1) = (nd.length : Int) from by rw [hP]; omega]
        refine g0 3 #[.int .i64 (nd.length : Int)] (by kernel_rfl) rfl (fun _ => by kernel_rfl) (fun b3 => ?_)
        obtain ⟨i0, z0, e1, e2, e3, e4, e5⟩ := gJ
        refine zH (L' := (⟨b3, #[.int .i64 (nd.length : Int)], 3⟩ :: (on2 ++ ([] : List Blk))) ++ oz ++ ([⟨b1, #[.slice none 0 0], 25⟩])) (by simp <;> rfl) (x0 (sz := 1) (by kernel_rfl) rfl Tryd.underlying39 e1 e2 e3 e4 (by kernel_rfl) hsl2 (a := ⟨b3, 0, none⟩) (m := 1) (c := 1) (news := zC (nd.length : Int)) (by kernel_rfl) rfl (fun w hO j u hj => ?_) (fun u hu => by rw [List.mem_singleton.1 hu]; rfl) (by unfold maxLen; omega) (by rw [e5]; omega) (fun u3 oz2 hu3 => ?_))
        · rw [y5, cell_of_row w b3 (0 + j) (zC (nd.length : Int)).toArray 3 _ (hO.held ⟨b3, (zC (nd.length : Int)).toArray, 3⟩ (List.mem_append_left _ (List.mem_append_left _ (List.mem_cons_self ..))))]; simpa using hj
        have hu3s : SlZ u3 (rt r ++ [(nd.length : Int)]) oz2 := SlZ.add hu3
        obtain ⟨B3, cz2, rfl⟩ := Sl.form hu3s
        refine yI (L' := on2 ++ (oz2 ++ ([⟨b1, #[.slice none 0 0], 25⟩]))) (fun w hO => Own.sub [⟨b3, #[.int .i64 (nd.length : Int)], 3⟩] (show Own _ _ w (⟨b3, #[.int .i64 (nd.length : Int)], 3⟩ :: (on2 ++ (oz2 ++ ([⟨b1, #[.slice none 0 0], 25⟩])))) from by simpa using hO)) (Zv (.slice B3 ((rt r ++ [(nd.length : Int)]).length) cz2) (zK (zJ (z8 (z7 (Zv (.int .i64 z) (Zu (k := .i64) (z - 1) (IntWalk.i64_in _ (by omega)) (Zv (.int .i64 (z - 1)) (zK ?_)))))))))
        have hrl2 : (rt ((nd.length, Tr.no p.2) :: r)).length = (rt r ++ [(nd.length : Int)]).length := by rw [yW]
        rw [← hrl2]
        exact xF (L' := on2 ++ (oz2 ++ [⟨b1, #[.slice none 0 0], 25⟩])) (fun w hO => hO.perm (by simp)) (zS (m' := (z - 1).toNat) (by omega) ⟨(z - 1), ((nd.length, Tr.no p.2) :: r), (nd ++ [(⟨2, (p.1 : Int), 0, 0, []⟩ : Nd)]), B2, cn2, B3, cz2, on2, oz2, _, ⟨lies_not (hst ▸ hlies), hu2s, by rw [yW]; exact hu3s, by omega, by omega, by omega⟩, rfl, ZU, rfl⟩)
      refine Zd (p := (0 : Int) < ((rt st).length : Int)) false (decide_eq_false (h3)) (Zv (.bool false) (Zv (.bool false) (ZX (ZO (Zv (.int .i64 (kd : Int)) ?_)))))
      by_cases h4 : (kd : Int) < 3
      · refine x8 (p := (kd : Int) < 3) true (by kernel_rfl) (fun _ => by kernel_rfl) (decide_eq_true (h4)) ?_
        refine Zv (.bool true) (Zv (.int .i64 ((rt st).length : Int)) ?_)
        by_cases h5 : (1 : Int) < ((rt st).length : Int)
        · obtain ⟨p, q, r, hst⟩ := mL (st := st) (by omega)
          obtain ⟨g, hgB, hcap⟩ := Sl.at0 hsz (by omega)
          have hrl : (rt st).length = r.length + 2 := by rw [xC, hst]; rfl
          have hlast : ∀ h : r.length + 1 < (rt st).length, (rt st)[r.length + 1] = (p.1 : Int) := by subst hst; exact fun h => wI p (q :: r) h
          have hprev : ∀ h : r.length < (rt st).length, (rt st)[r.length] = (q.1 : Int) := by subst hst; exact fun h => dV p q r h
          have hrr := xC r
          have hsl2 : SlZ (.slice (some ⟨g, 0, none⟩) (rt r).length cz) (rt r) oz := by
            subst hst; subst hgB
            have q9 := Sl.front x7 hsz (by rw [yW]; simp) (k := r.length) (by omega)
            rw [dU] at q9
            unfold SlZ; rw [show (rt r).length = r.length from xC r] at q9 ⊢; exact q9
          refine Zd (p := (1 : Int) < ((rt st).length : Int)) true (decide_eq_true (h5)) (Zv (.bool true) (Zv (.bool true) (ZY (zF (yB (L' := (on ++ ([] : List Blk)) ++ (oz ++ ([⟨b1, #[.slice none 0 0], 25⟩]))) (by simp) (kQ (oz ++ ([⟨b1, #[.slice none 0 0], 25⟩])) (by kernel_rfl) (fun w hO => Own.sub (on ++ ([] : List Blk)) hO) (ZT 0 (on ++ ([] : List Blk)) _ (.slice N nd.length cn) (zA (zE (zA (zE (zA (zR (zE (zA zB)))))))) rfl (ZT 1 (on ++ ([] : List Blk)) _ (.int .i64 (kd : Int)) (zA (zE (zA (zE (zA (zR (zE (zA zB)))))))) rfl (gU 2 (on ++ ([] : List Blk)) _ (.int .i64 ((kd : Int) % 2)) rfl (by kernel_rfl) (by kernel_rfl) (by kernel_rfl) (zA (zE (zA (zE (zA (zR (zE (zA zB)))))))) (by kernel_rfl) (fun w _ => run_rem (i := (kd : Int)) (j := 2) rfl (by kernel_rfl) (by kernel_rfl) (by omega) (by omega) (by decide) w) ?_)))))))))
          refine vZ (k := .i64) 3 _ ((3 : Int) + (kd : Int) % 2) rfl (by kernel_rfl) (by kernel_rfl) (by kernel_rfl) (zA (zE (zA (zE (zA (zR (zE (zA zB)))))))) (fun w hO => Own.sub (on ++ ([] : List Blk)) hO) (by kernel_rfl) (fun _ => by kernel_rfl) (IntWalk.i64_in _ (by omega)) (ZT 4 (on ++ ([] : List Blk)) _ (.slice Z ((rt st).length) cz) (zA (zE (zA (zE (zA (zR (zE (zA zB)))))))) rfl (ZT 5 (on ++ ([] : List Blk)) _ (.int .i64 ((rt st).length : Int)) (zA (zE (zA (zE (zA (zR (zE (zA zB)))))))) rfl (vZ (k := .i64) 6 _ (((rt st).length : Int) - 2) rfl (by kernel_rfl) (by kernel_rfl) (by kernel_rfl) (zA (zE (zA (zE (zA (zR (zE (zA zB)))))))) (fun w hO => Own.sub (on ++ ([] : List Blk)) hO) (by kernel_rfl) (fun _ => by kernel_rfl) (IntWalk.i64_in _ (by omega)) (gU 7 (on ++ ([] : List Blk)) _ (.pointer (some ⟨g, 0 + (r.length) * 1, none⟩)) rfl (by kernel_rfl) (by kernel_rfl) (by kernel_rfl) (zA (zE (zA (zE (zA (zR (zE (zA zB)))))))) (by kernel_rfl) (fun w _ => xY (b := g) (off := 0) (c := cz) (n := (rt st).length) (k := .i64) (j := ((rt st).length : Int) - 2) (e := 3) (sz := 1) rfl (by kernel_rfl) hgB (by kernel_rfl) (by kernel_rfl) (by kernel_rfl) (by omega) (by omega) (by omega) w) (jP 8 _ (a := ⟨g, 0 + (r.length) * 1, none⟩) (.int .i64 (q.1 : Int)) rfl (by kernel_rfl) (by kernel_rfl) (by kernel_rfl) (zA (zE (zA (zE (zA (zR (zE (zA zB)))))))) (fun w hO => Own.sub (on ++ ([] : List Blk)) hO) (by kernel_rfl) rfl (by kernel_rfl) (fun w hO => Reads.load x7 (Sl.reads hsz rfl hO (fun x hx => by simp [hx])) hgB (r.length) 0 (by omega) (by omega) _ (by rw [hprev]; kernel_rfl)) (ZT 9 (on ++ ([] : List Blk)) _ (.slice Z ((rt st).length) cz) (zA (zE (zA (zE (zA (zR (zE (zA zB)))))))) rfl (ZT 10 (on ++ ([] : List Blk)) _ (.int .i64 ((rt st).length : Int)) (zA (zE (zA (zE (zA (zR (zE (zA zB)))))))) rfl (vZ (k := .i64) 11 _ (((rt st).length : Int) - 1) rfl (by kernel_rfl) (by kernel_rfl) (by kernel_rfl) (zA (zE (zA (zE (zA (zR (zE (zA zB)))))))) (fun w hO => Own.sub (on ++ ([] : List Blk)) hO) (by kernel_rfl) (fun _ => by kernel_rfl) (IntWalk.i64_in _ (by omega)) (gU 12 (on ++ ([] : List Blk)) _ (.pointer (some ⟨g, 0 + (r.length + 1) * 1, none⟩)) rfl (by kernel_rfl) (by kernel_rfl) (by kernel_rfl) (zA (zE (zA (zE (zA (zR (zE (zA zB)))))))) (by kernel_rfl) (fun w _ => xY (b := g) (off := 0) (c := cz) (n := (rt st).length) (k := .i64) (j := ((rt st).length : Int) - 1) (e := 3) (sz := 1) rfl (by kernel_rfl) hgB (by kernel_rfl) (by kernel_rfl) (by kernel_rfl) (by omega) (by omega) (by omega) w) (jP 13 _ (a := ⟨g, 0 + (r.length + 1) * 1, none⟩) (.int .i64 (p.1 : Int)) rfl (by kernel_rfl) (by kernel_rfl) (by kernel_rfl) (zA (zE (zA (zE (zA (zR (zE (zA zB)))))))) (fun w hO => Own.sub (on ++ ([] : List Blk)) hO) (by kernel_rfl) rfl (by kernel_rfl) (fun w hO => Reads.load x7 (Sl.reads hsz rfl hO (fun x hx => by simp [hx])) hgB (r.length + 1) 0 (by omega) (by omega) _ (by rw [hlast]; kernel_rfl)) (ZT 14 (on ++ ([] : List Blk)) _ (ndV (⟨(3 : Int) + (kd : Int) % 2, (q.1 : Int), (p.1 : Int), 0, []⟩ : Nd)) (zA (zE (zA (zE (zA (zR (zE (zA zB)))))))) rfl ?_)))))))))))
          refine yK 15 (by kernel_rfl) (kY _ 48 #[.int .i64 ((3 : Int) + (kd : Int) % 2), .int .i64 (q.1 : Int), .int .i64 (p.1 : Int), .int .i64 0, .string ⟨#[]⟩] rfl (by kernel_rfl) rfl (fun w hO => Own.sub (on ++ ([] : List Blk)) hO) (fun _ => by kernel_rfl) (fun b2 => ?_))
          have hP : (nd ++ [(⟨(3 : Int) + (kd : Int) % 2, (q.1 : Int), (p.1 : Int), 0, []⟩ : Nd)]).length = nd.length + 1 := by simp
          obtain ⟨i0, z0, e1, e2, e3, e4, e5⟩ := xD
          refine yT (L' := [⟨b2, #[.int .i64 ((3 : Int) + (kd : Int) % 2), .int .i64 (q.1 : Int), .int .i64 (p.1 : Int), .int .i64 0, .string ⟨#[]⟩], 48⟩] ++ on ++ (oz ++ ([⟨b1, #[.slice none 0 0], 25⟩]))) (by simp) (yK 16 (by kernel_rfl) (x5 (E := [⟨b2, #[.int .i64 ((3 : Int) + (kd : Int) % 2), .int .i64 (q.1 : Int), .int .i64 (p.1 : Int), .int .i64 0, .string ⟨#[]⟩], 48⟩]) (ob := on) (sz := 5) _ rfl (by kernel_rfl) rfl Tryd.underlying23 e1 e2 e3 e4 (by kernel_rfl) hsn (a := ⟨b2, 0, none⟩) (m := 1) (c := 1) (news := nC (⟨(3 : Int) + (kd : Int) % 2, (q.1 : Int), (p.1 : Int), 0, []⟩ : Nd)) (by kernel_rfl) rfl (fun w hO j u hj => ?_) (fun u hu => by simp only [nC, List.mem_cons, List.not_mem_nil, or_false] at hu; rcases hu with rfl | rfl | rfl | rfl | rfl <;> rfl) (by unfold maxLen; omega) (by rw [e5]; omega) (fun ob' w h => Own.sub ([⟨b2, #[.int .i64 ((3 : Int) + (kd : Int) % 2), .int .i64 (q.1 : Int), .int .i64 (p.1 : Int), .int .i64 0, .string ⟨#[]⟩], 48⟩] ++ ob') h) (fun u2 on2 hu2 => ?_)))
          · rw [y5, cell_of_row w b2 (0 + j) (nC (⟨(3 : Int) + (kd : Int) % 2, (q.1 : Int), (p.1 : Int), 0, []⟩ : Nd)).toArray 48 _ (hO.held ⟨b2, (nC (⟨(3 : Int) + (kd : Int) % 2, (q.1 : Int), (p.1 : Int), 0, []⟩ : Nd)).toArray, 48⟩ (List.mem_append_left _ (List.mem_append_left _ (by first | exact List.mem_cons_self .. | (refine List.mem_cons_of_mem _ ?_; exact List.mem_cons_self ..)))))]; simpa using hj
          have hu2s : SlN u2 (nd ++ [(⟨(3 : Int) + (kd : Int) % 2, (q.1 : Int), (p.1 : Int), 0, []⟩ : Nd)]) on2 := SlN.add hu2
          obtain ⟨B2, cn2, rfl⟩ := Sl.form hu2s
          refine yT (L' := (⟨b2, #[.int .i64 ((3 : Int) + (kd : Int) % 2), .int .i64 (q.1 : Int), .int .i64 (p.1 : Int), .int .i64 0, .string ⟨#[]⟩], 48⟩ :: (on2 ++ ([] : List Blk))) ++ (oz ++ ([⟨b1, #[.slice none 0 0], 25⟩]))) (by simp) (ZT 17 (⟨b2, #[.int .i64 ((3 : Int) + (kd : Int) % 2), .int .i64 (q.1 : Int), .int .i64 (p.1 : Int), .int .i64 0, .string ⟨#[]⟩], 48⟩ :: (on2 ++ ([] : List Blk))) _ (.slice B2 ((nd ++ [(⟨(3 : Int) + (kd : Int) % 2, (q.1 : Int), (p.1 : Int), 0, []⟩ : Nd)]).length) cn2) (zA (zE (zA (zE (zA (zR (zE (zA zB)))))))) rfl (xR (by kernel_rfl) (z8 (z7 (Zv (.slice Z ((rt st).length) cz) (Zv (.int .i64 ((rt st).length : Int)) (Zu (k := .i64) (((rt st).length : Int) - 2) (IntWalk.i64_in _ (by omega)) (zM (.slice (some ⟨g, 0, none⟩) ((rt r).length) cz) (by kernel_rfl) (fun w => by rw [show (rt r).length = (((rt st).length : Int) - 2).toNat from by omega]; subst hgB; exact jR (b := g) (off := 0) (n := (rt st).length) (c := cz) (k := .i64) (j := ((rt st).length : Int) - 2) (e := 3) (sz := 1) rfl (by kernel_rfl) (by kernel_rfl) (by kernel_rfl) (by kernel_rfl) (by omega) (by omega) w) (Zv (.slice (some ⟨g, 0, none⟩) ((rt r).length) cz) (zK (zJ ?_)))))))))))
          refine z8 (z7 (Zv (.slice (some ⟨g, 0, none⟩) ((rt r).length) cz) (Zv (.slice B2 ((nd ++ [(⟨(3 : Int) + (kd : Int) % 2, (q.1 : Int), (p.1 : Int), 0, []⟩ : Nd)]).length) cn2) (Zv (.int .i64 ((nd ++ [(⟨(3 : Int) + (kd : Int) % 2, (q.1 : Int), (p.1 : Int), 0, []⟩ : Nd)]).length : Int)) (Zu (k := .i64) (((nd ++ [(⟨(3 : Int) + (kd : Int) % 2, (q.1 : Int), (p.1 : Int), 0, []⟩ : Nd)]).length : Int) - 1) (IntWalk.i64_in _ (by omega)) ?_)))))
          rw [show (((nd ++ [(⟨(3 : Int) + (kd : Int) % 2, (q.1 : Int), (p.1 : Int), 0, []⟩ : Nd)]).length : Int) - 1) = (nd.length : Int) from by rw [hP]; omega]
          refine g0 3 #[.int .i64 (nd.length : Int)] (by kernel_rfl) rfl (fun _ => by kernel_rfl) (fun b3 => ?_)
          obtain ⟨i0, z0, e1, e2, e3, e4, e5⟩ := gJ
          refine zH (L' := (⟨b3, #[.int .i64 (nd.length : Int)], 3⟩ :: (⟨b2, #[.int .i64 ((3 : Int) + (kd : Int) % 2), .int .i64 (q.1 : Int), .int .i64 (p.1 : Int), .int .i64 0, .string ⟨#[]⟩], 48⟩ :: (on2 ++ ([] : List Blk)))) ++ oz ++ ([⟨b1, #[.slice none 0 0], 25⟩])) (by simp <;> rfl) (x0 (sz := 1) (by kernel_rfl) rfl Tryd.underlying39 e1 e2 e3 e4 (by kernel_rfl) hsl2 (a := ⟨b3, 0, none⟩) (m := 1) (c := 1) (news := zC (nd.length : Int)) (by kernel_rfl) rfl (fun w hO j u hj => ?_) (fun u hu => by rw [List.mem_singleton.1 hu]; rfl) (by unfold maxLen; omega) (by rw [e5]; omega) (fun u3 oz2 hu3 => ?_))
          · rw [y5, cell_of_row w b3 (0 + j) (zC (nd.length : Int)).toArray 3 _ (hO.held ⟨b3, (zC (nd.length : Int)).toArray, 3⟩ (List.mem_append_left _ (List.mem_append_left _ (List.mem_cons_self ..))))]; simpa using hj
          have hu3s : SlZ u3 (rt r ++ [(nd.length : Int)]) oz2 := SlZ.add hu3
          obtain ⟨B3, cz2, rfl⟩ := Sl.form hu3s
          refine yI (L' := ⟨b2, #[.int .i64 ((3 : Int) + (kd : Int) % 2), .int .i64 (q.1 : Int), .int .i64 (p.1 : Int), .int .i64 0, .string ⟨#[]⟩], 48⟩ :: (on2 ++ (oz2 ++ ([⟨b1, #[.slice none 0 0], 25⟩])))) (fun w hO => Own.sub [⟨b3, #[.int .i64 (nd.length : Int)], 3⟩] (show Own _ _ w (⟨b3, #[.int .i64 (nd.length : Int)], 3⟩ :: (⟨b2, #[.int .i64 ((3 : Int) + (kd : Int) % 2), .int .i64 (q.1 : Int), .int .i64 (p.1 : Int), .int .i64 0, .string ⟨#[]⟩], 48⟩ :: (on2 ++ (oz2 ++ ([⟨b1, #[.slice none 0 0], 25⟩]))))) from by simpa using hO)) (Zv (.slice B3 ((rt r ++ [(nd.length : Int)]).length) cz2) (zK (zJ (z8 (z7 (Zv (.int .i64 z) (Zu (k := .i64) (z - 1) (IntWalk.i64_in _ (by omega)) (Zv (.int .i64 (z - 1)) (zK ?_)))))))))
          have hbin : bC ((nd.length, (if kd % 2 = 0 then Tr.both q.2 p.2 else Tr.one q.2 p.2)) :: r) (nd ++ [(⟨(3 : Int) + (kd : Int) % 2, (q.1 : Int), (p.1 : Int), 0, []⟩ : Nd)]) := by
            rcases Nat.mod_two_eq_zero_or_one kd with h9 | h9
            · rw [if_pos h9, show ((3 : Int) + (kd : Int) % 2) = 3 by omega]; exact bB (fun _ _ _ => rfl) (fun _ _ => rfl) (fun _ _ => bQ) (hst ▸ hlies)
            · rw [if_neg (by omega), show ((3 : Int) + (kd : Int) % 2) = 4 by omega]; exact bB (fun _ _ _ => rfl) (fun _ _ => rfl) (fun _ _ => fT) (hst ▸ hlies)
          have hrl2 : (rt ((nd.length, (if kd % 2 = 0 then Tr.both q.2 p.2 else Tr.one q.2 p.2)) :: r)).length = (rt r ++ [(nd.length : Int)]).length := by rw [yW]
          rw [← hrl2]
          exact xF (L' := on2 ++ (oz2 ++ [⟨b1, #[.slice none 0 0], 25⟩])) (fun w hO => Own.sub [⟨b2, #[.int .i64 ((3 : Int) + (kd : Int) % 2), .int .i64 (q.1 : Int), .int .i64 (p.1 : Int), .int .i64 0, .string ⟨#[]⟩], 48⟩] (by simpa using hO)) (zS (m' := (z - 1).toNat) (by omega) ⟨(z - 1), ((nd.length, (if kd % 2 = 0 then Tr.both q.2 p.2 else Tr.one q.2 p.2)) :: r), (nd ++ [(⟨(3 : Int) + (kd : Int) % 2, (q.1 : Int), (p.1 : Int), 0, []⟩ : Nd)]), B2, cn2, B3, cz2, on2, oz2, _, ⟨hbin, hu2s, by rw [yW]; exact hu3s, by omega, by omega, by omega⟩, rfl, ZU, rfl⟩)
        refine Zd (p := (1 : Int) < ((rt st).length : Int)) false (decide_eq_false (h5)) (Zv (.bool false) (Zv (.bool false) (ZX (z7 (Zv (.slice N nd.length cn) (Zv (.int .i64 xv) (Zc (k := 38) (args := #[.int .i64 xv, .int .i64 3]) (.int .i64 (ky : Int)) (fun w _ => (gL xv 3 w (by decide) (by decide)).mono fun _ _ ⟨e1, e2⟩ => ⟨by rw [e1, show plc xv 3 = (ky : Int) from hky], e2 ▸ Below.refl _ _⟩) (Zv (.int .i64 xv) (Zc (k := 38) (args := #[.int .i64 xv, .int .i64 12]) (.int .i64 (wy : Int)) (fun w _ => (gL xv 12 w (by decide) (by decide)).mono fun _ _ ⟨e1, e2⟩ => ⟨by rw [e1, show plc xv 12 = (wy : Int) from hwy], e2 ▸ Below.refl _ _⟩) ?_)))))))))
        refine zM (.int .i64 ((wy : Int) / 4)) (by kernel_rfl) (m6 (i := (wy : Int)) (j := 4) rfl (by kernel_rfl) (by kernel_rfl) (by omega) (by omega) (by decide)) (Zu (k := .i64) ((1 : Int) + (wy : Int) / 4) (IntWalk.i64_in _ (by omega)) (Zc (k := 39) (args := #[.int .i64 ((1 : Int) + (wy : Int) / 4)]) (.string (mkS (zW (1 + wy / 4)))) (fun w hO => by rw [show (1 : Int) + (wy : Int) / 4 = ((1 + wy / 4 : Nat) : Int) by omega]; exact wU (1 + wy / 4) (by omega) w) (Zv (ndV (⟨1, 0, 0, (ky : Int), zW (1 + wy / 4)⟩ : Nd)) (g0 48 #[.int .i64 1, .int .i64 0, .int .i64 0, .int .i64 (ky : Int), .string (mkS (zW (1 + wy / 4)))] (by kernel_rfl) rfl (fun _ => by kernel_rfl) (fun b2 => ?_)))))
        have hP : (nd ++ [(⟨1, 0, 0, (ky : Int), zW (1 + wy / 4)⟩ : Nd)]).length = nd.length + 1 := by simp
        obtain ⟨i0, z0, e1, e2, e3, e4, e5⟩ := xD
        refine zH (L' := [⟨b2, #[.int .i64 1, .int .i64 0, .int .i64 0, .int .i64 (ky : Int), .string (mkS (zW (1 + wy / 4)))], 48⟩] ++ on ++ (oz ++ ([⟨b1, #[.slice none 0 0], 25⟩]))) (by simp <;> rfl) (x0 (sz := 5) (by kernel_rfl) rfl Tryd.underlying23 e1 e2 e3 e4 (by kernel_rfl) hsn (a := ⟨b2, 0, none⟩) (m := 1) (c := 1) (news := nC (⟨1, 0, 0, (ky : Int), zW (1 + wy / 4)⟩ : Nd)) (by kernel_rfl) rfl (fun w hO j u hj => ?_) (fun u hu => by simp only [nC, List.mem_cons, List.not_mem_nil, or_false] at hu; rcases hu with rfl | rfl | rfl | rfl | rfl <;> rfl) (by unfold maxLen; omega) (by rw [e5]; omega) (fun u2 on2 hu2 => ?_))
        · rw [y5, cell_of_row w b2 (0 + j) (nC (⟨1, 0, 0, (ky : Int), zW (1 + wy / 4)⟩ : Nd)).toArray 48 _ (hO.held ⟨b2, (nC (⟨1, 0, 0, (ky : Int), zW (1 + wy / 4)⟩ : Nd)).toArray, 48⟩ (List.mem_append_left _ (List.mem_append_left _ (List.mem_cons_self ..))))]; simpa using hj
        have hu2s : SlN u2 (nd ++ [(⟨1, 0, 0, (ky : Int), zW (1 + wy / 4)⟩ : Nd)]) on2 := SlN.add hu2
        obtain ⟨B2, cn2, rfl⟩ := Sl.form hu2s
        refine yI (L' := on2 ++ (oz ++ ([⟨b1, #[.slice none 0 0], 25⟩]))) (fun w hO => Own.sub [⟨b2, #[.int .i64 1, .int .i64 0, .int .i64 0, .int .i64 (ky : Int), .string (mkS (zW (1 + wy / 4)))], 48⟩] (show Own _ _ w (⟨b2, #[.int .i64 1, .int .i64 0, .int .i64 0, .int .i64 (ky : Int), .string (mkS (zW (1 + wy / 4)))], 48⟩ :: (on2 ++ (oz ++ ([⟨b1, #[.slice none 0 0], 25⟩])))) from by simpa using hO)) (Zv (.slice B2 ((nd ++ [(⟨1, 0, 0, (ky : Int), zW (1 + wy / 4)⟩ : Nd)]).length) cn2) (zK (zJ (z8 (z7 (Zv (.slice Z ((rt st).length) cz) (Zv (.slice B2 ((nd ++ [(⟨1, 0, 0, (ky : Int), zW (1 + wy / 4)⟩ : Nd)]).length) cn2) (Zv (.int .i64 ((nd ++ [(⟨1, 0, 0, (ky : Int), zW (1 + wy / 4)⟩ : Nd)]).length : Int)) (Zu (k := .i64) (((nd ++ [(⟨1, 0, 0, (ky : Int), zW (1 + wy / 4)⟩ : Nd)]).length : Int) - 1) (IntWalk.i64_in _ (by omega)) ?_)))))))))
        rw [show (((nd ++ [(⟨1, 0, 0, (ky : Int), zW (1 + wy / 4)⟩ : Nd)]).length : Int) - 1) = (nd.length : Int) from by rw [hP]; omega]
        refine g0 3 #[.int .i64 (nd.length : Int)] (by kernel_rfl) rfl (fun _ => by kernel_rfl) (fun b3 => ?_)
        obtain ⟨i0, z0, e1, e2, e3, e4, e5⟩ := gJ
        refine zH (L' := (⟨b3, #[.int .i64 (nd.length : Int)], 3⟩ :: (on2 ++ ([] : List Blk))) ++ oz ++ ([⟨b1, #[.slice none 0 0], 25⟩])) (by simp <;> rfl) (x0 (sz := 1) (by kernel_rfl) rfl Tryd.underlying39 e1 e2 e3 e4 (by kernel_rfl) hsz (a := ⟨b3, 0, none⟩) (m := 1) (c := 1) (news := zC (nd.length : Int)) (by kernel_rfl) rfl (fun w hO j u hj => ?_) (fun u hu => by rw [List.mem_singleton.1 hu]; rfl) (by unfold maxLen; omega) (by rw [e5]; omega) (fun u3 oz2 hu3 => ?_))
        · rw [y5, cell_of_row w b3 (0 + j) (zC (nd.length : Int)).toArray 3 _ (hO.held ⟨b3, (zC (nd.length : Int)).toArray, 3⟩ (List.mem_append_left _ (List.mem_append_left _ (List.mem_cons_self ..))))]; simpa using hj
        have hu3s : SlZ u3 (rt st ++ [(nd.length : Int)]) oz2 := SlZ.add hu3
        obtain ⟨B3, cz2, rfl⟩ := Sl.form hu3s
        refine yI (L' := on2 ++ (oz2 ++ ([⟨b1, #[.slice none 0 0], 25⟩]))) (fun w hO => Own.sub [⟨b3, #[.int .i64 (nd.length : Int)], 3⟩] (show Own _ _ w (⟨b3, #[.int .i64 (nd.length : Int)], 3⟩ :: (on2 ++ (oz2 ++ ([⟨b1, #[.slice none 0 0], 25⟩])))) from by simpa using hO)) (Zv (.slice B3 ((rt st ++ [(nd.length : Int)]).length) cz2) (zK (zJ (z8 (z7 (Zv (.int .i64 z) (Zu (k := .i64) (z - 1) (IntWalk.i64_in _ (by omega)) (Zv (.int .i64 (z - 1)) (zK ?_)))))))))
        have hrl2 : (rt ((nd.length, Tr.is ky (zW (1 + wy / 4))) :: st)).length = (rt st ++ [(nd.length : Int)]).length := by rw [yW]
        rw [← hrl2]
        exact xF (L' := on2 ++ (oz2 ++ [⟨b1, #[.slice none 0 0], 25⟩])) (fun w hO => hO.perm (by simp)) (zS (m' := (z - 1).toNat) (by omega) ⟨(z - 1), ((nd.length, Tr.is ky (zW (1 + wy / 4))) :: st), (nd ++ [(⟨1, 0, 0, (ky : Int), zW (1 + wy / 4)⟩ : Nd)]), B2, cn2, B3, cz2, on2, oz2, _, ⟨m9 hlies hky3 _, hu2s, by rw [yW]; exact hu3s, by omega, by omega, by omega⟩, rfl, ZU, rfl⟩)
      refine Zd (p := (kd : Int) < 3) false (decide_eq_false (h4)) (Zv (.bool false) (Zk (Zk (Zv (.bool false) (Zv (.bool false) (ZX (z7 (Zv (.slice N nd.length cn) (Zv (.int .i64 xv) ?_)))))))))
      refine Zc (k := 38) (args := #[.int .i64 xv, .int .i64 3]) (.int .i64 (ky : Int)) (fun w _ => (gL xv 3 w (by decide) (by decide)).mono fun _ _ ⟨e1, e2⟩ => ⟨by rw [e1, show plc xv 3 = (ky : Int) from hky], e2 ▸ Below.refl _ _⟩) (Zv (.int .i64 xv) (Zc (k := 38) (args := #[.int .i64 xv, .int .i64 12]) (.int .i64 (wy : Int)) (fun w _ => (gL xv 12 w (by decide) (by decide)).mono fun _ _ ⟨e1, e2⟩ => ⟨by rw [e1, show plc xv 12 = (wy : Int) from hwy], e2 ▸ Below.refl _ _⟩) (zM (.int .i64 ((wy : Int) / 4)) (by kernel_rfl) (m6 (i := (wy : Int)) (j := 4) rfl (by kernel_rfl) (by kernel_rfl) (by omega) (by omega) (by decide)) (Zu (k := .i64) ((1 : Int) + (wy : Int) / 4) (IntWalk.i64_in _ (by omega)) (Zc (k := 39) (args := #[.int .i64 ((1 : Int) + (wy : Int) / 4)]) (.string (mkS (zW (1 + wy / 4)))) (fun w hO => by rw [show (1 : Int) + (wy : Int) / 4 = ((1 + wy / 4 : Nat) : Int) by omega]; exact wU (1 + wy / 4) (by omega) w) (Zv (ndV (⟨1, 0, 0, (ky : Int), zW (1 + wy / 4)⟩ : Nd)) (g0 48 #[.int .i64 1, .int .i64 0, .int .i64 0, .int .i64 (ky : Int), .string (mkS (zW (1 + wy / 4)))] (by kernel_rfl) rfl (fun _ => by kernel_rfl) (fun b2 => ?_))))))))
      have hP : (nd ++ [(⟨1, 0, 0, (ky : Int), zW (1 + wy / 4)⟩ : Nd)]).length = nd.length + 1 := by simp
      obtain ⟨i0, z0, e1, e2, e3, e4, e5⟩ := xD
      refine zH (L' := [⟨b2, #[.int .i64 1, .int .i64 0, .int .i64 0, .int .i64 (ky : Int), .string (mkS (zW (1 + wy / 4)))], 48⟩] ++ on ++ (oz ++ ([⟨b1, #[.slice none 0 0], 25⟩]))) (by simp <;> rfl) (x0 (sz := 5) (by kernel_rfl) rfl Tryd.underlying23 e1 e2 e3 e4 (by kernel_rfl) hsn (a := ⟨b2, 0, none⟩) (m := 1) (c := 1) (news := nC (⟨1, 0, 0, (ky : Int), zW (1 + wy / 4)⟩ : Nd)) (by kernel_rfl) rfl (fun w hO j u hj => ?_) (fun u hu => by simp only [nC, List.mem_cons, List.not_mem_nil, or_false] at hu; rcases hu with rfl | rfl | rfl | rfl | rfl <;> rfl) (by unfold maxLen; omega) (by rw [e5]; omega) (fun u2 on2 hu2 => ?_))
      · rw [y5, cell_of_row w b2 (0 + j) (nC (⟨1, 0, 0, (ky : Int), zW (1 + wy / 4)⟩ : Nd)).toArray 48 _ (hO.held ⟨b2, (nC (⟨1, 0, 0, (ky : Int), zW (1 + wy / 4)⟩ : Nd)).toArray, 48⟩ (List.mem_append_left _ (List.mem_append_left _ (List.mem_cons_self ..))))]; simpa using hj
      have hu2s : SlN u2 (nd ++ [(⟨1, 0, 0, (ky : Int), zW (1 + wy / 4)⟩ : Nd)]) on2 := SlN.add hu2
      obtain ⟨B2, cn2, rfl⟩ := Sl.form hu2s
      refine yI (L' := on2 ++ (oz ++ ([⟨b1, #[.slice none 0 0], 25⟩]))) (fun w hO => Own.sub [⟨b2, #[.int .i64 1, .int .i64 0, .int .i64 0, .int .i64 (ky : Int), .string (mkS (zW (1 + wy / 4)))], 48⟩] (show Own _ _ w (⟨b2, #[.int .i64 1, .int .i64 0, .int .i64 0, .int .i64 (ky : Int), .string (mkS (zW (1 + wy / 4)))], 48⟩ :: (on2 ++ (oz ++ ([⟨b1, #[.slice none 0 0], 25⟩])))) from by simpa using hO)) (Zv (.slice B2 ((nd ++ [(⟨1, 0, 0, (ky : Int), zW (1 + wy / 4)⟩ : Nd)]).length) cn2) (zK (zJ (z8 (z7 (Zv (.slice Z ((rt st).length) cz) (Zv (.slice B2 ((nd ++ [(⟨1, 0, 0, (ky : Int), zW (1 + wy / 4)⟩ : Nd)]).length) cn2) (Zv (.int .i64 ((nd ++ [(⟨1, 0, 0, (ky : Int), zW (1 + wy / 4)⟩ : Nd)]).length : Int)) (Zu (k := .i64) (((nd ++ [(⟨1, 0, 0, (ky : Int), zW (1 + wy / 4)⟩ : Nd)]).length : Int) - 1) (IntWalk.i64_in _ (by omega)) ?_)))))))))
      rw [show (((nd ++ [(⟨1, 0, 0, (ky : Int), zW (1 + wy / 4)⟩ : Nd)]).length : Int) - 1) = (nd.length : Int) from by rw [hP]; omega]
      refine g0 3 #[.int .i64 (nd.length : Int)] (by kernel_rfl) rfl (fun _ => by kernel_rfl) (fun b3 => ?_)
      obtain ⟨i0, z0, e1, e2, e3, e4, e5⟩ := gJ
      refine zH (L' := (⟨b3, #[.int .i64 (nd.length : Int)], 3⟩ :: (on2 ++ ([] : List Blk))) ++ oz ++ ([⟨b1, #[.slice none 0 0], 25⟩])) (by simp <;> rfl) (x0 (sz := 1) (by kernel_rfl) rfl Tryd.underlying39 e1 e2 e3 e4 (by kernel_rfl) hsz (a := ⟨b3, 0, none⟩) (m := 1) (c := 1) (news := zC (nd.length : Int)) (by kernel_rfl) rfl (fun w hO j u hj => ?_) (fun u hu => by rw [List.mem_singleton.1 hu]; rfl) (by unfold maxLen; omega) (by rw [e5]; omega) (fun u3 oz2 hu3 => ?_))
      · rw [y5, cell_of_row w b3 (0 + j) (zC (nd.length : Int)).toArray 3 _ (hO.held ⟨b3, (zC (nd.length : Int)).toArray, 3⟩ (List.mem_append_left _ (List.mem_append_left _ (List.mem_cons_self ..))))]; simpa using hj
      have hu3s : SlZ u3 (rt st ++ [(nd.length : Int)]) oz2 := SlZ.add hu3
      obtain ⟨B3, cz2, rfl⟩ := Sl.form hu3s
      refine yI (L' := on2 ++ (oz2 ++ ([⟨b1, #[.slice none 0 0], 25⟩]))) (fun w hO => Own.sub [⟨b3, #[.int .i64 (nd.length : Int)], 3⟩] (show Own _ _ w (⟨b3, #[.int .i64 (nd.length : Int)], 3⟩ :: (on2 ++ (oz2 ++ ([⟨b1, #[.slice none 0 0], 25⟩])))) from by simpa using hO)) (Zv (.slice B3 ((rt st ++ [(nd.length : Int)]).length) cz2) (zK (zJ (z8 (z7 (Zv (.int .i64 z) (Zu (k := .i64) (z - 1) (IntWalk.i64_in _ (by omega)) (Zv (.int .i64 (z - 1)) (zK ?_)))))))))
      have hrl2 : (rt ((nd.length, Tr.is ky (zW (1 + wy / 4))) :: st)).length = (rt st ++ [(nd.length : Int)]).length := by rw [yW]
      rw [← hrl2]
      exact xF (L' := on2 ++ (oz2 ++ [⟨b1, #[.slice none 0 0], 25⟩])) (fun w hO => hO.perm (by simp)) (zS (m' := (z - 1).toNat) (by omega) ⟨(z - 1), ((nd.length, Tr.is ky (zW (1 + wy / 4))) :: st), (nd ++ [(⟨1, 0, 0, (ky : Int), zW (1 + wy / 4)⟩ : Nd)]), B2, cn2, B3, cz2, on2, oz2, _, ⟨m9 hlies hky3 _, hu2s, by rw [yW]; exact hu3s, by omega, by omega, by omega⟩, rfl, ZU, rfl⟩)
    refine Zd (p := (kd : Int) = 0) false (decide_eq_false (h2)) (Zv (.bool false) (Zk (Zk (Zv (.bool false) (Zv (.bool false) (ZX (ZO (Zv (.int .i64 (kd : Int)) ?_))))))))
    by_cases h6 : (kd : Int) < 3
    · refine x8 (p := (kd : Int) < 3) true (by kernel_rfl) (fun _ => by kernel_rfl) (decide_eq_true (h6)) ?_
      refine Zv (.bool true) (Zv (.int .i64 ((rt st).length : Int)) ?_)
      by_cases h7 : (1 : Int) < ((rt st).length : Int)
      · obtain ⟨p, q, r, hst⟩ := mL (st := st) (by omega)
        obtain ⟨g, hgB, hcap⟩ := Sl.at0 hsz (by omega)
        have hrl : (rt st).length = r.length + 2 := by rw [xC, hst]; rfl
        have hlast : ∀ h : r.length + 1 < (rt st).length, (rt st)[r.length + 1] = (p.1 : Int) := by subst hst; exact fun h => wI p (q :: r) h
        have hprev : ∀ h : r.length < (rt st).length, (rt st)[r.length] = (q.1 : Int) := by subst hst; exact fun h => dV p q r h
        have hrr := xC r
        have hsl2 : SlZ (.slice (some ⟨g, 0, none⟩) (rt r).length cz) (rt r) oz := by
          subst hst; subst hgB
          have q9 := Sl.front x7 hsz (by rw [yW]; simp) (k := r.length) (by omega)
          rw [dU] at q9
          unfold SlZ; rw [show (rt r).length = r.length from xC r] at q9 ⊢; exact q9
        refine Zd (p := (1 : Int) < ((rt st).length : Int)) true (decide_eq_true (h7)) (Zv (.bool true) (Zv (.bool true) (ZY (zF (yB (L' := (on ++ ([] : List Blk)) ++ (oz ++ ([⟨b1, #[.slice none 0 0], 25⟩]))) (by simp) (kQ (oz ++ ([⟨b1, #[.slice none 0 0], 25⟩])) (by kernel_rfl) (fun w hO => Own.sub (on ++ ([] : List Blk)) hO) (ZT 0 (on ++ ([] : List Blk)) _ (.slice N nd.length cn) (zA (zE (zA (zE (zA (zR (zE (zA zB)))))))) rfl (ZT 1 (on ++ ([] : List Blk)) _ (.int .i64 (kd : Int)) (zA (zE (zA (zE (zA (zR (zE (zA zB)))))))) rfl (gU 2 (on ++ ([] : List Blk)) _ (.int .i64 ((kd : Int) % 2)) rfl (by kernel_rfl) (by kernel_rfl) (by kernel_rfl) (zA (zE (zA (zE (zA (zR (zE (zA zB)))))))) (by kernel_rfl) (fun w _ => run_rem (i := (kd : Int)) (j := 2) rfl (by kernel_rfl) (by kernel_rfl) (by omega) (by omega) (by decide) w) ?_)))))))))
        refine vZ (k := .i64) 3 _ ((3 : Int) + (kd : Int) % 2) rfl (by kernel_rfl) (by kernel_rfl) (by kernel_rfl) (zA (zE (zA (zE (zA (zR (zE (zA zB)))))))) (fun w hO => Own.sub (on ++ ([] : List Blk)) hO) (by kernel_rfl) (fun _ => by kernel_rfl) (IntWalk.i64_in _ (by omega)) (ZT 4 (on ++ ([] : List Blk)) _ (.slice Z ((rt st).length) cz) (zA (zE (zA (zE (zA (zR (zE (zA zB)))))))) rfl (ZT 5 (on ++ ([] : List Blk)) _ (.int .i64 ((rt st).length : Int)) (zA (zE (zA (zE (zA (zR (zE (zA zB)))))))) rfl (vZ (k := .i64) 6 _ (((rt st).length : Int) - 2) rfl (by kernel_rfl) (by kernel_rfl) (by kernel_rfl) (zA (zE (zA (zE (zA (zR (zE (zA zB)))))))) (fun w hO => Own.sub (on ++ ([] : List Blk)) hO) (by kernel_rfl) (fun _ => by kernel_rfl) (IntWalk.i64_in _ (by omega)) (gU 7 (on ++ ([] : List Blk)) _ (.pointer (some ⟨g, 0 + (r.length) * 1, none⟩)) rfl (by kernel_rfl) (by kernel_rfl) (by kernel_rfl) (zA (zE (zA (zE (zA (zR (zE (zA zB)))))))) (by kernel_rfl) (fun w _ => xY (b := g) (off := 0) (c := cz) (n := (rt st).length) (k := .i64) (j := ((rt st).length : Int) - 2) (e := 3) (sz := 1) rfl (by kernel_rfl) hgB (by kernel_rfl) (by kernel_rfl) (by kernel_rfl) (by omega) (by omega) (by omega) w) (jP 8 _ (a := ⟨g, 0 + (r.length) * 1, none⟩) (.int .i64 (q.1 : Int)) rfl (by kernel_rfl) (by kernel_rfl) (by kernel_rfl) (zA (zE (zA (zE (zA (zR (zE (zA zB)))))))) (fun w hO => Own.sub (on ++ ([] : List Blk)) hO) (by kernel_rfl) rfl (by kernel_rfl) (fun w hO => Reads.load x7 (Sl.reads hsz rfl hO (fun x hx => by simp [hx])) hgB (r.length) 0 (by omega) (by omega) _ (by rw [hprev]; kernel_rfl)) (ZT 9 (on ++ ([] : List Blk)) _ (.slice Z ((rt st).length) cz) (zA (zE (zA (zE (zA (zR (zE (zA zB)))))))) rfl (ZT 10 (on ++ ([] : List Blk)) _ (.int .i64 ((rt st).length : Int)) (zA (zE (zA (zE (zA (zR (zE (zA zB)))))))) rfl (vZ (k := .i64) 11 _ (((rt st).length : Int) - 1) rfl (by kernel_rfl) (by kernel_rfl) (by kernel_rfl) (zA (zE (zA (zE (zA (zR (zE (zA zB)))))))) (fun w hO => Own.sub (on ++ ([] : List Blk)) hO) (by kernel_rfl) (fun _ => by kernel_rfl) (IntWalk.i64_in _ (by omega)) (gU 12 (on ++ ([] : List Blk)) _ (.pointer (some ⟨g, 0 + (r.length + 1) * 1, none⟩)) rfl (by kernel_rfl) (by kernel_rfl) (by kernel_rfl) (zA (zE (zA (zE (zA (zR (zE (zA zB)))))))) (by kernel_rfl) (fun w _ => xY (b := g) (off := 0) (c := cz) (n := (rt st).length) (k := .i64) (j := ((rt st).length : Int) - 1) (e := 3) (sz := 1) rfl (by kernel_rfl) hgB (by kernel_rfl) (by kernel_rfl) (by kernel_rfl) (by omega) (by omega) (by omega) w) (jP 13 _ (a := ⟨g, 0 + (r.length + 1) * 1, none⟩) (.int .i64 (p.1 : Int)) rfl (by kernel_rfl) (by kernel_rfl) (by kernel_rfl) (zA (zE (zA (zE (zA (zR (zE (zA zB)))))))) (fun w hO => Own.sub (on ++ ([] : List Blk)) hO) (by kernel_rfl) rfl (by kernel_rfl) (fun w hO => Reads.load x7 (Sl.reads hsz rfl hO (fun x hx => by simp [hx])) hgB (r.length + 1) 0 (by omega) (by omega) _ (by rw [hlast]; kernel_rfl)) (ZT 14 (on ++ ([] : List Blk)) _ (ndV (⟨(3 : Int) + (kd : Int) % 2, (q.1 : Int), (p.1 : Int), 0, []⟩ : Nd)) (zA (zE (zA (zE (zA (zR (zE (zA zB)))))))) rfl ?_)))))))))))
        refine yK 15 (by kernel_rfl) (kY _ 48 #[.int .i64 ((3 : Int) + (kd : Int) % 2), .int .i64 (q.1 : Int), .int .i64 (p.1 : Int), .int .i64 0, .string ⟨#[]⟩] rfl (by kernel_rfl) rfl (fun w hO => Own.sub (on ++ ([] : List Blk)) hO) (fun _ => by kernel_rfl) (fun b2 => ?_))
        have hP : (nd ++ [(⟨(3 : Int) + (kd : Int) % 2, (q.1 : Int), (p.1 : Int), 0, []⟩ : Nd)]).length = nd.length + 1 := by simp
        obtain ⟨i0, z0, e1, e2, e3, e4, e5⟩ := xD
        refine yT (L' := [⟨b2, #[.int .i64 ((3 : Int) + (kd : Int) % 2), .int .i64 (q.1 : Int), .int .i64 (p.1 : Int), .int .i64 0, .string ⟨#[]⟩], 48⟩] ++ on ++ (oz ++ ([⟨b1, #[.slice none 0 0], 25⟩]))) (by simp) (yK 16 (by kernel_rfl) (x5 (E := [⟨b2, #[.int .i64 ((3 : Int) + (kd : Int) % 2), .int .i64 (q.1 : Int), .int .i64 (p.1 : Int), .int .i64 0, .string ⟨#[]⟩], 48⟩]) (ob := on) (sz := 5) _ rfl (by kernel_rfl) rfl Tryd.underlying23 e1 e2 e3 e4 (by kernel_rfl) hsn (a := ⟨b2, 0, none⟩) (m := 1) (c := 1) (news := nC (⟨(3 : Int) + (kd : Int) % 2, (q.1 : Int), (p.1 : Int), 0, []⟩ : Nd)) (by kernel_rfl) rfl (fun w hO j u hj => ?_) (fun u hu => by simp only [nC, List.mem_cons, List.not_mem_nil, or_false] at hu; rcases hu with rfl | rfl | rfl | rfl | rfl <;> rfl) (by unfold maxLen; omega) (by rw [e5]; omega) (fun ob' w h => Own.sub ([⟨b2, #[.int .i64 ((3 : Int) + (kd : Int) % 2), .int .i64 (q.1 : Int), .int .i64 (p.1 : Int), .int .i64 0, .string ⟨#[]⟩], 48⟩] ++ ob') h) (fun u2 on2 hu2 => ?_)))
        · rw [y5, cell_of_row w b2 (0 + j) (nC (⟨(3 : Int) + (kd : Int) % 2, (q.1 : Int), (p.1 : Int), 0, []⟩ : Nd)).toArray 48 _ (hO.held ⟨b2, (nC (⟨(3 : Int) + (kd : Int) % 2, (q.1 : Int), (p.1 : Int), 0, []⟩ : Nd)).toArray, 48⟩ (List.mem_append_left _ (List.mem_append_left _ (by first | exact List.mem_cons_self .. | (refine List.mem_cons_of_mem _ ?_; exact List.mem_cons_self ..)))))]; simpa using hj
        have hu2s : SlN u2 (nd ++ [(⟨(3 : Int) + (kd : Int) % 2, (q.1 : Int), (p.1 : Int), 0, []⟩ : Nd)]) on2 := SlN.add hu2
        obtain ⟨B2, cn2, rfl⟩ := Sl.form hu2s
        refine yT (L' := (⟨b2, #[.int .i64 ((3 : Int) + (kd : Int) % 2), .int .i64 (q.1 : Int), .int .i64 (p.1 : Int), .int .i64 0, .string ⟨#[]⟩], 48⟩ :: (on2 ++ ([] : List Blk))) ++ (oz ++ ([⟨b1, #[.slice none 0 0], 25⟩]))) (by simp) (ZT 17 (⟨b2, #[.int .i64 ((3 : Int) + (kd : Int) % 2), .int .i64 (q.1 : Int), .int .i64 (p.1 : Int), .int .i64 0, .string ⟨#[]⟩], 48⟩ :: (on2 ++ ([] : List Blk))) _ (.slice B2 ((nd ++ [(⟨(3 : Int) + (kd : Int) % 2, (q.1 : Int), (p.1 : Int), 0, []⟩ : Nd)]).length) cn2) (zA (zE (zA (zE (zA (zR (zE (zA zB)))))))) rfl (xR (by kernel_rfl) (z8 (z7 (Zv (.slice Z ((rt st).length) cz) (Zv (.int .i64 ((rt st).length : Int)) (Zu (k := .i64) (((rt st).length : Int) - 2) (IntWalk.i64_in _ (by omega)) (zM (.slice (some ⟨g, 0, none⟩) ((rt r).length) cz) (by kernel_rfl) (fun w => by rw [show (rt r).length = (((rt st).length : Int) - 2).toNat from by omega]; subst hgB; exact jR (b := g) (off := 0) (n := (rt st).length) (c := cz) (k := .i64) (j := ((rt st).length : Int) - 2) (e := 3) (sz := 1) rfl (by kernel_rfl) (by kernel_rfl) (by kernel_rfl) (by kernel_rfl) (by omega) (by omega) w) (Zv (.slice (some ⟨g, 0, none⟩) ((rt r).length) cz) (zK (zJ ?_)))))))))))
        refine z8 (z7 (Zv (.slice (some ⟨g, 0, none⟩) ((rt r).length) cz) (Zv (.slice B2 ((nd ++ [(⟨(3 : Int) + (kd : Int) % 2, (q.1 : Int), (p.1 : Int), 0, []⟩ : Nd)]).length) cn2) (Zv (.int .i64 ((nd ++ [(⟨(3 : Int) + (kd : Int) % 2, (q.1 : Int), (p.1 : Int), 0, []⟩ : Nd)]).length : Int)) (Zu (k := .i64) (((nd ++ [(⟨(3 : Int) + (kd : Int) % 2, (q.1 : Int), (p.1 : Int), 0, []⟩ : Nd)]).length : Int) - 1) (IntWalk.i64_in _ (by omega)) ?_)))))
        rw [show (((nd ++ [(⟨(3 : Int) + (kd : Int) % 2, (q.1 : Int), (p.1 : Int), 0, []⟩ : Nd)]).length : Int) - 1) = (nd.length : Int) from by rw [hP]; omega]
        refine g0 3 #[.int .i64 (nd.length : Int)] (by kernel_rfl) rfl (fun _ => by kernel_rfl) (fun b3 => ?_)
        obtain ⟨i0, z0, e1, e2, e3, e4, e5⟩ := gJ
        refine zH (L' := (⟨b3, #[.int .i64 (nd.length : Int)], 3⟩ :: (⟨b2, #[.int .i64 ((3 : Int) + (kd : Int) % 2), .int .i64 (q.1 : Int), .int .i64 (p.1 : Int), .int .i64 0, .string ⟨#[]⟩], 48⟩ :: (on2 ++ ([] : List Blk)))) ++ oz ++ ([⟨b1, #[.slice none 0 0], 25⟩])) (by simp <;> rfl) (x0 (sz := 1) (by kernel_rfl) rfl Tryd.underlying39 e1 e2 e3 e4 (by kernel_rfl) hsl2 (a := ⟨b3, 0, none⟩) (m := 1) (c := 1) (news := zC (nd.length : Int)) (by kernel_rfl) rfl (fun w hO j u hj => ?_) (fun u hu => by rw [List.mem_singleton.1 hu]; rfl) (by unfold maxLen; omega) (by rw [e5]; omega) (fun u3 oz2 hu3 => ?_))
        · rw [y5, cell_of_row w b3 (0 + j) (zC (nd.length : Int)).toArray 3 _ (hO.held ⟨b3, (zC (nd.length : Int)).toArray, 3⟩ (List.mem_append_left _ (List.mem_append_left _ (List.mem_cons_self ..))))]; simpa using hj
        have hu3s : SlZ u3 (rt r ++ [(nd.length : Int)]) oz2 := SlZ.add hu3
        obtain ⟨B3, cz2, rfl⟩ := Sl.form hu3s
        refine yI (L' := ⟨b2, #[.int .i64 ((3 : Int) + (kd : Int) % 2), .int .i64 (q.1 : Int), .int .i64 (p.1 : Int), .int .i64 0, .string ⟨#[]⟩], 48⟩ :: (on2 ++ (oz2 ++ ([⟨b1, #[.slice none 0 0], 25⟩])))) (fun w hO => Own.sub [⟨b3, #[.int .i64 (nd.length : Int)], 3⟩] (show Own _ _ w (⟨b3, #[.int .i64 (nd.length : Int)], 3⟩ :: (⟨b2, #[.int .i64 ((3 : Int) + (kd : Int) % 2), .int .i64 (q.1 : Int), .int .i64 (p.1 : Int), .int .i64 0, .string ⟨#[]⟩], 48⟩ :: (on2 ++ (oz2 ++ ([⟨b1, #[.slice none 0 0], 25⟩]))))) from by simpa using hO)) (Zv (.slice B3 ((rt r ++ [(nd.length : Int)]).length) cz2) (zK (zJ (z8 (z7 (Zv (.int .i64 z) (Zu (k := .i64) (z - 1) (IntWalk.i64_in _ (by omega)) (Zv (.int .i64 (z - 1)) (zK ?_)))))))))
        have hbin : bC ((nd.length, (if kd % 2 = 0 then Tr.both q.2 p.2 else Tr.one q.2 p.2)) :: r) (nd ++ [(⟨(3 : Int) + (kd : Int) % 2, (q.1 : Int), (p.1 : Int), 0, []⟩ : Nd)]) := by
          rcases Nat.mod_two_eq_zero_or_one kd with h9 | h9
          · rw [if_pos h9, show ((3 : Int) + (kd : Int) % 2) = 3 by omega]; exact bB (fun _ _ _ => rfl) (fun _ _ => rfl) (fun _ _ => bQ) (hst ▸ hlies)
          · rw [if_neg (by omega), show ((3 : Int) + (kd : Int) % 2) = 4 by omega]; exact bB (fun _ _ _ => rfl) (fun _ _ => rfl) (fun _ _ => fT) (hst ▸ hlies)
        have hrl2 : (rt ((nd.length, (if kd % 2 = 0 then Tr.both q.2 p.2 else Tr.one q.2 p.2)) :: r)).length = (rt r ++ [(nd.length : Int)]).length := by rw [yW]
        rw [← hrl2]
        exact xF (L' := on2 ++ (oz2 ++ [⟨b1, #[.slice none 0 0], 25⟩])) (fun w hO => Own.sub [⟨b2, #[.int .i64 ((3 : Int) + (kd : Int) % 2), .int .i64 (q.1 : Int), .int .i64 (p.1 : Int), .int .i64 0, .string ⟨#[]⟩], 48⟩] (by simpa using hO)) (zS (m' := (z - 1).toNat) (by omega) ⟨(z - 1), ((nd.length, (if kd % 2 = 0 then Tr.both q.2 p.2 else Tr.one q.2 p.2)) :: r), (nd ++ [(⟨(3 : Int) + (kd : Int) % 2, (q.1 : Int), (p.1 : Int), 0, []⟩ : Nd)]), B2, cn2, B3, cz2, on2, oz2, _, ⟨hbin, hu2s, by rw [yW]; exact hu3s, by omega, by omega, by omega⟩, rfl, ZU, rfl⟩)
      refine Zd (p := (1 : Int) < ((rt st).length : Int)) false (decide_eq_false (h7)) (Zv (.bool false) (Zv (.bool false) (ZX (z7 (Zv (.slice N nd.length cn) (Zv (.int .i64 xv) (Zc (k := 38) (args := #[.int .i64 xv, .int .i64 3]) (.int .i64 (ky : Int)) (fun w _ => (gL xv 3 w (by decide) (by decide)).mono fun _ _ ⟨e1, e2⟩ => ⟨by rw [e1, show plc xv 3 = (ky : Int) from hky], e2 ▸ Below.refl _ _⟩) (Zv (.int .i64 xv) (Zc (k := 38) (args := #[.int .i64 xv, .int .i64 12]) (.int .i64 (wy : Int)) (fun w _ => (gL xv 12 w (by decide) (by decide)).mono fun _ _ ⟨e1, e2⟩ => ⟨by rw [e1, show plc xv 12 = (wy : Int) from hwy], e2 ▸ Below.refl _ _⟩) ?_)))))))))
      refine zM (.int .i64 ((wy : Int) / 4)) (by kernel_rfl) (m6 (i := (wy : Int)) (j := 4) rfl (by kernel_rfl) (by kernel_rfl) (by omega) (by omega) (by decide)) (Zu (k := .i64) ((1 : Int) + (wy : Int) / 4) (IntWalk.i64_in _ (by omega)) (Zc (k := 39) (args := #[.int .i64 ((1 : Int) + (wy : Int) / 4)]) (.string (mkS (zW (1 + wy / 4)))) (fun w hO => by rw [show (1 : Int) + (wy : Int) / 4 = ((1 + wy / 4 : Nat) : Int) by omega]; exact wU (1 + wy / 4) (by omega) w) (Zv (ndV (⟨1, 0, 0, (ky : Int), zW (1 + wy / 4)⟩ : Nd)) (g0 48 #[.int .i64 1, .int .i64 0, .int .i64 0, .int .i64 (ky : Int), .string (mkS (zW (1 + wy / 4)))] (by kernel_rfl) rfl (fun _ => by kernel_rfl) (fun b2 => ?_)))))
      have hP : (nd ++ [(⟨1, 0, 0, (ky : Int), zW (1 + wy / 4)⟩ : Nd)]).length = nd.length + 1 := by simp
      obtain ⟨i0, z0, e1, e2, e3, e4, e5⟩ := xD
      refine zH (L' := [⟨b2, #[.int .i64 1, .int .i64 0, .int .i64 0, .int .i64 (ky : Int), .string (mkS (zW (1 + wy / 4)))], 48⟩] ++ on ++ (oz ++ ([⟨b1, #[.slice none 0 0], 25⟩]))) (by simp <;> rfl) (x0 (sz := 5) (by kernel_rfl) rfl Tryd.underlying23 e1 e2 e3 e4 (by kernel_rfl) hsn (a := ⟨b2, 0, none⟩) (m := 1) (c := 1) (news := nC (⟨1, 0, 0, (ky : Int), zW (1 + wy / 4)⟩ : Nd)) (by kernel_rfl) rfl (fun w hO j u hj => ?_) (fun u hu => by simp only [nC, List.mem_cons, List.not_mem_nil, or_false] at hu; rcases hu with rfl | rfl | rfl | rfl | rfl <;> rfl) (by unfold maxLen; omega) (by rw [e5]; omega) (fun u2 on2 hu2 => ?_))
      · rw [y5, cell_of_row w b2 (0 + j) (nC (⟨1, 0, 0, (ky : Int), zW (1 + wy / 4)⟩ : Nd)).toArray 48 _ (hO.held ⟨b2, (nC (⟨1, 0, 0, (ky : Int), zW (1 + wy / 4)⟩ : Nd)).toArray, 48⟩ (List.mem_append_left _ (List.mem_append_left _ (List.mem_cons_self ..))))]; simpa using hj
      have hu2s : SlN u2 (nd ++ [(⟨1, 0, 0, (ky : Int), zW (1 + wy / 4)⟩ : Nd)]) on2 := SlN.add hu2
      obtain ⟨B2, cn2, rfl⟩ := Sl.form hu2s
      refine yI (L' := on2 ++ (oz ++ ([⟨b1, #[.slice none 0 0], 25⟩]))) (fun w hO => Own.sub [⟨b2, #[.int .i64 1, .int .i64 0, .int .i64 0, .int .i64 (ky : Int), .string (mkS (zW (1 + wy / 4)))], 48⟩] (show Own _ _ w (⟨b2, #[.int .i64 1, .int .i64 0, .int .i64 0, .int .i64 (ky : Int), .string (mkS (zW (1 + wy / 4)))], 48⟩ :: (on2 ++ (oz ++ ([⟨b1, #[.slice none 0 0], 25⟩])))) from by simpa using hO)) (Zv (.slice B2 ((nd ++ [(⟨1, 0, 0, (ky : Int), zW (1 + wy / 4)⟩ : Nd)]).length) cn2) (zK (zJ (z8 (z7 (Zv (.slice Z ((rt st).length) cz) (Zv (.slice B2 ((nd ++ [(⟨1, 0, 0, (ky : Int), zW (1 + wy / 4)⟩ : Nd)]).length) cn2) (Zv (.int .i64 ((nd ++ [(⟨1, 0, 0, (ky : Int), zW (1 + wy / 4)⟩ : Nd)]).length : Int)) (Zu (k := .i64) (((nd ++ [(⟨1, 0, 0, (ky : Int), zW (1 + wy / 4)⟩ : Nd)]).length : Int) - 1) (IntWalk.i64_in _ (by omega)) ?_)))))))))
      rw [show (((nd ++ [(⟨1, 0, 0, (ky : Int), zW (1 + wy / 4)⟩ : Nd)]).length : Int) - 1) = (nd.length : Int) from by rw [hP]; omega]
      refine g0 3 #[.int .i64 (nd.length : Int)] (by kernel_rfl) rfl (fun _ => by kernel_rfl) (fun b3 => ?_)
      obtain ⟨i0, z0, e1, e2, e3, e4, e5⟩ := gJ
      refine zH (L' := (⟨b3, #[.int .i64 (nd.length : Int)], 3⟩ :: (on2 ++ ([] : List Blk))) ++ oz ++ ([⟨b1, #[.slice none 0 0], 25⟩])) (by simp <;> rfl) (x0 (sz := 1) (by kernel_rfl) rfl Tryd.underlying39 e1 e2 e3 e4 (by kernel_rfl) hsz (a := ⟨b3, 0, none⟩) (m := 1) (c := 1) (news := zC (nd.length : Int)) (by kernel_rfl) rfl (fun w hO j u hj => ?_) (fun u hu => by rw [List.mem_singleton.1 hu]; rfl) (by unfold maxLen; omega) (by rw [e5]; omega) (fun u3 oz2 hu3 => ?_))
      · rw [y5, cell_of_row w b3 (0 + j) (zC (nd.length : Int)).toArray 3 _ (hO.held ⟨b3, (zC (nd.length : Int)).toArray, 3⟩ (List.mem_append_left _ (List.mem_append_left _ (List.mem_cons_self ..))))]; simpa using hj
      have hu3s : SlZ u3 (rt st ++ [(nd.length : Int)]) oz2 := SlZ.add hu3
      obtain ⟨B3, cz2, rfl⟩ := Sl.form hu3s
      refine yI (L' := on2 ++ (oz2 ++ ([⟨b1, #[.slice none 0 0], 25⟩]))) (fun w hO => Own.sub [⟨b3, #[.int .i64 (nd.length : Int)], 3⟩] (show Own _ _ w (⟨b3, #[.int .i64 (nd.length : Int)], 3⟩ :: (on2 ++ (oz2 ++ ([⟨b1, #[.slice none 0 0], 25⟩])))) from by simpa using hO)) (Zv (.slice B3 ((rt st ++ [(nd.length : Int)]).length) cz2) (zK (zJ (z8 (z7 (Zv (.int .i64 z) (Zu (k := .i64) (z - 1) (IntWalk.i64_in _ (by omega)) (Zv (.int .i64 (z - 1)) (zK ?_)))))))))
      have hrl2 : (rt ((nd.length, Tr.is ky (zW (1 + wy / 4))) :: st)).length = (rt st ++ [(nd.length : Int)]).length := by rw [yW]
      rw [← hrl2]
      exact xF (L' := on2 ++ (oz2 ++ [⟨b1, #[.slice none 0 0], 25⟩])) (fun w hO => hO.perm (by simp)) (zS (m' := (z - 1).toNat) (by omega) ⟨(z - 1), ((nd.length, Tr.is ky (zW (1 + wy / 4))) :: st), (nd ++ [(⟨1, 0, 0, (ky : Int), zW (1 + wy / 4)⟩ : Nd)]), B2, cn2, B3, cz2, on2, oz2, _, ⟨m9 hlies hky3 _, hu2s, by rw [yW]; exact hu3s, by omega, by omega, by omega⟩, rfl, ZU, rfl⟩)
    refine Zd (p := (kd : Int) < 3) false (decide_eq_false (h6)) (Zv (.bool false) (Zk (Zk (Zv (.bool false) (Zv (.bool false) (ZX (z7 (Zv (.slice N nd.length cn) (Zv (.int .i64 xv) ?_)))))))))
    refine Zc (k := 38) (args := #[.int .i64 xv, .int .i64 3]) (.int .i64 (ky : Int)) (fun w _ => (gL xv 3 w (by decide) (by decide)).mono fun _ _ ⟨e1, e2⟩ => ⟨by rw [e1, show plc xv 3 = (ky : Int) from hky], e2 ▸ Below.refl _ _⟩) (Zv (.int .i64 xv) (Zc (k := 38) (args := #[.int .i64 xv, .int .i64 12]) (.int .i64 (wy : Int)) (fun w _ => (gL xv 12 w (by decide) (by decide)).mono fun _ _ ⟨e1, e2⟩ => ⟨by rw [e1, show plc xv 12 = (wy : Int) from hwy], e2 ▸ Below.refl _ _⟩) (zM (.int .i64 ((wy : Int) / 4)) (by kernel_rfl) (m6 (i := (wy : Int)) (j := 4) rfl (by kernel_rfl) (by kernel_rfl) (by omega) (by omega) (by decide)) (Zu (k := .i64) ((1 : Int) + (wy : Int) / 4) (IntWalk.i64_in _ (by omega)) (Zc (k := 39) (args := #[.int .i64 ((1 : Int) + (wy : Int) / 4)]) (.string (mkS (zW (1 + wy / 4)))) (fun w hO => by rw [show (1 : Int) + (wy : Int) / 4 = ((1 + wy / 4 : Nat) : Int) by omega]; exact wU (1 + wy / 4) (by omega) w) (Zv (ndV (⟨1, 0, 0, (ky : Int), zW (1 + wy / 4)⟩ : Nd)) (g0 48 #[.int .i64 1, .int .i64 0, .int .i64 0, .int .i64 (ky : Int), .string (mkS (zW (1 + wy / 4)))] (by kernel_rfl) rfl (fun _ => by kernel_rfl) (fun b2 => ?_))))))))
    have hP : (nd ++ [(⟨1, 0, 0, (ky : Int), zW (1 + wy / 4)⟩ : Nd)]).length = nd.length + 1 := by simp
    obtain ⟨i0, z0, e1, e2, e3, e4, e5⟩ := xD
    refine zH (L' := [⟨b2, #[.int .i64 1, .int .i64 0, .int .i64 0, .int .i64 (ky : Int), .string (mkS (zW (1 + wy / 4)))], 48⟩] ++ on ++ (oz ++ ([⟨b1, #[.slice none 0 0], 25⟩]))) (by simp <;> rfl) (x0 (sz := 5) (by kernel_rfl) rfl Tryd.underlying23 e1 e2 e3 e4 (by kernel_rfl) hsn (a := ⟨b2, 0, none⟩) (m := 1) (c := 1) (news := nC (⟨1, 0, 0, (ky : Int), zW (1 + wy / 4)⟩ : Nd)) (by kernel_rfl) rfl (fun w hO j u hj => ?_) (fun u hu => by simp only [nC, List.mem_cons, List.not_mem_nil, or_false] at hu; rcases hu with rfl | rfl | rfl | rfl | rfl <;> rfl) (by unfold maxLen; omega) (by rw [e5]; omega) (fun u2 on2 hu2 => ?_))
    · rw [y5, cell_of_row w b2 (0 + j) (nC (⟨1, 0, 0, (ky : Int), zW (1 + wy / 4)⟩ : Nd)).toArray 48 _ (hO.held ⟨b2, (nC (⟨1, 0, 0, (ky : Int), zW (1 + wy / 4)⟩ : Nd)).toArray, 48⟩ (List.mem_append_left _ (List.mem_append_left _ (List.mem_cons_self ..))))]; simpa using hj
    have hu2s : SlN u2 (nd ++ [(⟨1, 0, 0, (ky : Int), zW (1 + wy / 4)⟩ : Nd)]) on2 := SlN.add hu2
    obtain ⟨B2, cn2, rfl⟩ := Sl.form hu2s
    refine yI (L' := on2 ++ (oz ++ ([⟨b1, #[.slice none 0 0], 25⟩]))) (fun w hO => Own.sub [⟨b2, #[.int .i64 1, .int .i64 0, .int .i64 0, .int .i64 (ky : Int), .string (mkS (zW (1 + wy / 4)))], 48⟩] (show Own _ _ w (⟨b2, #[.int .i64 1, .int .i64 0, .int .i64 0, .int .i64 (ky : Int), .string (mkS (zW (1 + wy / 4)))], 48⟩ :: (on2 ++ (oz ++ ([⟨b1, #[.slice none 0 0], 25⟩])))) from by simpa using hO)) (Zv (.slice B2 ((nd ++ [(⟨1, 0, 0, (ky : Int), zW (1 + wy / 4)⟩ : Nd)]).length) cn2) (zK (zJ (z8 (z7 (Zv (.slice Z ((rt st).length) cz) (Zv (.slice B2 ((nd ++ [(⟨1, 0, 0, (ky : Int), zW (1 + wy / 4)⟩ : Nd)]).length) cn2) (Zv (.int .i64 ((nd ++ [(⟨1, 0, 0, (ky : Int), zW (1 + wy / 4)⟩ : Nd)]).length : Int)) (Zu (k := .i64) (((nd ++ [(⟨1, 0, 0, (ky : Int), zW (1 + wy / 4)⟩ : Nd)]).length : Int) - 1) (IntWalk.i64_in _ (by omega)) ?_)))))))))
    rw [show (((nd ++ [(⟨1, 0, 0, (ky : Int), zW (1 + wy / 4)⟩ : Nd)]).length : Int) - 1) = (nd.length : Int) from by rw [hP]; omega]
    refine g0 3 #[.int .i64 (nd.length : Int)] (by kernel_rfl) rfl (fun _ => by kernel_rfl) (fun b3 => ?_)
    obtain ⟨i0, z0, e1, e2, e3, e4, e5⟩ := gJ
    refine zH (L' := (⟨b3, #[.int .i64 (nd.length : Int)], 3⟩ :: (on2 ++ ([] : List Blk))) ++ oz ++ ([⟨b1, #[.slice none 0 0], 25⟩])) (by simp <;> rfl) (x0 (sz := 1) (by kernel_rfl) rfl Tryd.underlying39 e1 e2 e3 e4 (by kernel_rfl) hsz (a := ⟨b3, 0, none⟩) (m := 1) (c := 1) (news := zC (nd.length : Int)) (by kernel_rfl) rfl (fun w hO j u hj => ?_) (fun u hu => by rw [List.mem_singleton.1 hu]; rfl) (by unfold maxLen; omega) (by rw [e5]; omega) (fun u3 oz2 hu3 => ?_))
    · rw [y5, cell_of_row w b3 (0 + j) (zC (nd.length : Int)).toArray 3 _ (hO.held ⟨b3, (zC (nd.length : Int)).toArray, 3⟩ (List.mem_append_left _ (List.mem_append_left _ (List.mem_cons_self ..))))]; simpa using hj
    have hu3s : SlZ u3 (rt st ++ [(nd.length : Int)]) oz2 := SlZ.add hu3
    obtain ⟨B3, cz2, rfl⟩ := Sl.form hu3s
    refine yI (L' := on2 ++ (oz2 ++ ([⟨b1, #[.slice none 0 0], 25⟩]))) (fun w hO => Own.sub [⟨b3, #[.int .i64 (nd.length : Int)], 3⟩] (show Own _ _ w (⟨b3, #[.int .i64 (nd.length : Int)], 3⟩ :: (on2 ++ (oz2 ++ ([⟨b1, #[.slice none 0 0], 25⟩])))) from by simpa using hO)) (Zv (.slice B3 ((rt st ++ [(nd.length : Int)]).length) cz2) (zK (zJ (z8 (z7 (Zv (.int .i64 z) (Zu (k := .i64) (z - 1) (IntWalk.i64_in _ (by omega)) (Zv (.int .i64 (z - 1)) (zK ?_)))))))))
    have hrl2 : (rt ((nd.length, Tr.is ky (zW (1 + wy / 4))) :: st)).length = (rt st ++ [(nd.length : Int)]).length := by rw [yW]
    rw [← hrl2]
    exact xF (L' := on2 ++ (oz2 ++ [⟨b1, #[.slice none 0 0], 25⟩])) (fun w hO => hO.perm (by simp)) (zS (m' := (z - 1).toNat) (by omega) ⟨(z - 1), ((nd.length, Tr.is ky (zW (1 + wy / 4))) :: st), (nd ++ [(⟨1, 0, 0, (ky : Int), zW (1 + wy / 4)⟩ : Nd)]), B2, cn2, B3, cz2, on2, oz2, _, ⟨m9 hlies hky3 _, hu2s, by rw [yW]; exact hu3s, by omega, by omega, by omega⟩, rfl, ZU, rfl⟩)
  refine Zd (p := (0 : Int) < z) false (decide_eq_false (h1)) (ZX (xN (yG (zY (zZ (z8 (zF (zP (yB (L' := on ++ (oz ++ [⟨b1, #[.slice none 0 0], 25⟩])) (by simp) ?_)))))))))
  refine xT (fun L f m => ∃ (st : List (Nat × Tr)) (nd : List Nd) (N : Option Addr) (cn : Nat) (Z : Option Addr) (cz : Nat) (on : List Blk) (oz : List Blk) (j : Nat → Value), (bC st nd ∧ SlN (.slice N nd.length cn) nd on ∧ SlZ (.slice Z (rt st).length cz) (rt st) oz ∧ nd.length + st.length ≤ 14) ∧ L = on ++ (oz ++ [⟨b1, #[.slice none 0 0], 25⟩]) ∧ f = qT j [(0, v), (1, .int .i64 (i : Int)), (4, .pointer (some ⟨b1, 0, none⟩)), (5, .slice N nd.length cn), (6, .slice Z (rt st).length cz)] ∧ m = st.length + 0) (st.length + 0) ⟨st, nd, N, cn, Z, cz, on, oz, _, ⟨hlies, hsn, hsz, by have := fD hlies; omega⟩, rfl, ZU, rfl⟩ ?_
  rintro L f m ⟨st, nd, N, cn, Z, cz, on, oz, j, hrel, rfl, rfl, rfl⟩
  clear hlies hsn hsz; obtain ⟨hlies, hsn, hsz, hz14⟩ := hrel; have hrtl := xC st; have hll := fD hlies
  refine zF (ZO (Zv (.slice Z ((rt st).length) cz) (Zv (.int .i64 ((rt st).length : Int)) ?_)))
  by_cases h8 : (1 : Int) < ((rt st).length : Int)
  · obtain ⟨p, q, r, hst⟩ := mL (st := st) (by omega)
    obtain ⟨g, hgB, hcap⟩ := Sl.at0 hsz (by omega)
    have hrl : (rt st).length = r.length + 2 := by rw [xC, hst]; rfl
    have hlast : ∀ h : r.length + 1 < (rt st).length, (rt st)[r.length + 1] = (p.1 : Int) := by subst hst; exact fun h => wI p (q :: r) h
    have hprev : ∀ h : r.length < (rt st).length, (rt st)[r.length] = (q.1 : Int) := by subst hst; exact fun h => dV p q r h
    have hrr := xC r
    have hsl2 : SlZ (.slice (some ⟨g, 0, none⟩) (rt r).length cz) (rt r) oz := by
      subst hst; subst hgB
      have q9 := Sl.front x7 hsz (by rw [yW]; simp) (k := r.length) (by omega)
      rw [dU] at q9
      unfold SlZ; rw [show (rt r).length = r.length from xC r] at q9 ⊢; exact q9
    refine Zd (p := (1 : Int) < ((rt st).length : Int)) true (decide_eq_true (h8)) (ZY (ZB (zP (ZO (Zv (.slice Z ((rt st).length) cz) (Zv (.int .i64 ((rt st).length : Int)) (Zv (.int .i64 ((rt st).length : Int)) ?_)))))))
    refine ZN (zF (yB (L' := (on ++ ([] : List Blk)) ++ (oz ++ ([⟨b1, #[.slice none 0 0], 25⟩]))) (by simp) (kQ (oz ++ ([⟨b1, #[.slice none 0 0], 25⟩])) (by kernel_rfl) (fun w hO => Own.sub (on ++ ([] : List Blk)) hO) (ZT 0 (on ++ ([] : List Blk)) _ (.slice N nd.length cn) (zA (zE (zR (zE (zA zB))))) rfl (ZT 1 (on ++ ([] : List Blk)) _ (.slice Z ((rt st).length) cz) (zA (zE (zR (zE (zA zB))))) rfl (ZT 2 (on ++ ([] : List Blk)) _ (.int .i64 ((rt st).length : Int)) (zA (zE (zR (zE (zA zB))))) rfl (vZ (k := .i64) 3 _ (((rt st).length : Int) - 2) rfl (by kernel_rfl) (by kernel_rfl) (by kernel_rfl) (zA (zE (zR (zE (zA zB))))) (fun w hO => Own.sub (on ++ ([] : List Blk)) hO) (by kernel_rfl) (fun _ => by kernel_rfl) (IntWalk.i64_in _ (by omega)) (gU 4 (on ++ ([] : List Blk)) _ (.pointer (some ⟨g, 0 + (r.length) * 1, none⟩)) rfl (by kernel_rfl) (by kernel_rfl) (by kernel_rfl) (zA (zE (zR (zE (zA zB))))) (by kernel_rfl) (fun w _ => xY (b := g) (off := 0) (c := cz) (n := (rt st).length) (k := .i64) (j := ((rt st).length : Int) - 2) (e := 3) (sz := 1) rfl (by kernel_rfl) hgB (by kernel_rfl) (by kernel_rfl) (by kernel_rfl) (by omega) (by omega) (by omega) w) (jP 5 _ (a := ⟨g, 0 + (r.length) * 1, none⟩) (.int .i64 (q.1 : Int)) rfl (by kernel_rfl) (by kernel_rfl) (by kernel_rfl) (zA (zE (zR (zE (zA zB))))) (fun w hO => Own.sub (on ++ ([] : List Blk)) hO) (by kernel_rfl) rfl (by kernel_rfl) (fun w hO => Reads.load x7 (Sl.reads hsz rfl hO (fun x hx => by simp [hx])) hgB (r.length) 0 (by omega) (by omega) _ (by rw [hprev]; kernel_rfl)) (ZT 6 (on ++ ([] : List Blk)) _ (.slice Z ((rt st).length) cz) (zA (zE (zR (zE (zA zB))))) rfl ?_))))))))))
    refine ZT 7 (on ++ ([] : List Blk)) _ (.int .i64 ((rt st).length : Int)) (zA (zE (zR (zE (zA zB))))) rfl (vZ (k := .i64) 8 _ (((rt st).length : Int) - 1) rfl (by kernel_rfl) (by kernel_rfl) (by kernel_rfl) (zA (zE (zR (zE (zA zB))))) (fun w hO => Own.sub (on ++ ([] : List Blk)) hO) (by kernel_rfl) (fun _ => by kernel_rfl) (IntWalk.i64_in _ (by omega)) (gU 9 (on ++ ([] : List Blk)) _ (.pointer (some ⟨g, 0 + (r.length + 1) * 1, none⟩)) rfl (by kernel_rfl) (by kernel_rfl) (by kernel_rfl) (zA (zE (zR (zE (zA zB))))) (by kernel_rfl) (fun w _ => xY (b := g) (off := 0) (c := cz) (n := (rt st).length) (k := .i64) (j := ((rt st).length : Int) - 1) (e := 3) (sz := 1) rfl (by kernel_rfl) hgB (by kernel_rfl) (by kernel_rfl) (by kernel_rfl) (by omega) (by omega) (by omega) w) (jP 10 _ (a := ⟨g, 0 + (r.length + 1) * 1, none⟩) (.int .i64 (p.1 : Int)) rfl (by kernel_rfl) (by kernel_rfl) (by kernel_rfl) (zA (zE (zR (zE (zA zB))))) (fun w hO => Own.sub (on ++ ([] : List Blk)) hO) (by kernel_rfl) rfl (by kernel_rfl) (fun w hO => Reads.load x7 (Sl.reads hsz rfl hO (fun x hx => by simp [hx])) hgB (r.length + 1) 0 (by omega) (by omega) _ (by rw [hlast]; kernel_rfl)) (ZT 11 (on ++ ([] : List Blk)) _ (ndV (⟨4, (q.1 : Int), (p.1 : Int), 0, []⟩ : Nd)) (zA (zE (zR (zE (zA zB))))) rfl (yK 12 (by kernel_rfl) (kY _ 48 #[.int .i64 4, .int .i64 (q.1 : Int), .int .i64 (p.1 : Int), .int .i64 0, .string ⟨#[]⟩] rfl (by kernel_rfl) rfl (fun w hO => Own.sub (on ++ ([] : List Blk)) hO) (fun _ => by kernel_rfl) (fun b2 => ?_)))))))
    have hP : (nd ++ [(⟨4, (q.1 : Int), (p.1 : Int), 0, []⟩ : Nd)]).length = nd.length + 1 := by simp
    obtain ⟨i0, z0, e1, e2, e3, e4, e5⟩ := xD
    refine yT (L' := [⟨b2, #[.int .i64 4, .int .i64 (q.1 : Int), .int .i64 (p.1 : Int), .int .i64 0, .string ⟨#[]⟩], 48⟩] ++ on ++ (oz ++ ([⟨b1, #[.slice none 0 0], 25⟩]))) (by simp) (yK 13 (by kernel_rfl) (x5 (E := [⟨b2, #[.int .i64 4, .int .i64 (q.1 : Int), .int .i64 (p.1 : Int), .int .i64 0, .string ⟨#[]⟩], 48⟩]) (ob := on) (sz := 5) _ rfl (by kernel_rfl) rfl Tryd.underlying23 e1 e2 e3 e4 (by kernel_rfl) hsn (a := ⟨b2, 0, none⟩) (m := 1) (c := 1) (news := nC (⟨4, (q.1 : Int), (p.1 : Int), 0, []⟩ : Nd)) (by kernel_rfl) rfl (fun w hO j u hj => ?_) (fun u hu => by simp only [nC, List.mem_cons, List.not_mem_nil, or_false] at hu; rcases hu with rfl | rfl | rfl | rfl | rfl <;> rfl) (by unfold maxLen; omega) (by rw [e5]; omega) (fun ob' w h => Own.sub ([⟨b2, #[.int .i64 4, .int .i64 (q.1 : Int), .int .i64 (p.1 : Int), .int .i64 0, .string ⟨#[]⟩], 48⟩] ++ ob') h) (fun u2 on2 hu2 => ?_)))
    · rw [y5, cell_of_row w b2 (0 + j) (nC (⟨4, (q.1 : Int), (p.1 : Int), 0, []⟩ : Nd)).toArray 48 _ (hO.held ⟨b2, (nC (⟨4, (q.1 : Int), (p.1 : Int), 0, []⟩ : Nd)).toArray, 48⟩ (List.mem_append_left _ (List.mem_append_left _ (by first | exact List.mem_cons_self .. | (refine List.mem_cons_of_mem _ ?_; exact List.mem_cons_self ..)))))]; simpa using hj
    have hu2s : SlN u2 (nd ++ [(⟨4, (q.1 : Int), (p.1 : Int), 0, []⟩ : Nd)]) on2 := SlN.add hu2
    obtain ⟨B2, cn2, rfl⟩ := Sl.form hu2s
    refine yT (L' := (⟨b2, #[.int .i64 4, .int .i64 (q.1 : Int), .int .i64 (p.1 : Int), .int .i64 0, .string ⟨#[]⟩], 48⟩ :: (on2 ++ ([] : List Blk))) ++ (oz ++ ([⟨b1, #[.slice none 0 0], 25⟩]))) (by simp) (ZT 14 (⟨b2, #[.int .i64 4, .int .i64 (q.1 : Int), .int .i64 (p.1 : Int), .int .i64 0, .string ⟨#[]⟩], 48⟩ :: (on2 ++ ([] : List Blk))) _ (.slice B2 ((nd ++ [(⟨4, (q.1 : Int), (p.1 : Int), 0, []⟩ : Nd)]).length) cn2) (zA (zE (zR (zE (zA zB))))) rfl (xR (by kernel_rfl) (z8 (z7 (Zv (.slice Z ((rt st).length) cz) (Zv (.int .i64 ((rt st).length : Int)) (Zu (k := .i64) (((rt st).length : Int) - 2) (IntWalk.i64_in _ (by omega)) (zM (.slice (some ⟨g, 0, none⟩) ((rt r).length) cz) (by kernel_rfl) (fun w => by rw [show (rt r).length = (((rt st).length : Int) - 2).toNat from by omega]; subst hgB; exact jR (b := g) (off := 0) (n := (rt st).length) (c := cz) (k := .i64) (j := ((rt st).length : Int) - 2) (e := 3) (sz := 1) rfl (by kernel_rfl) (by kernel_rfl) (by kernel_rfl) (by kernel_rfl) (by omega) (by omega) w) (Zv (.slice B2 ((nd ++ [(⟨4, (q.1 : Int), (p.1 : Int), 0, []⟩ : Nd)]).length) cn2) (Zv (.int .i64 ((nd ++ [(⟨4, (q.1 : Int), (p.1 : Int), 0, []⟩ : Nd)]).length : Int)) (Zu (k := .i64) (((nd ++ [(⟨4, (q.1 : Int), (p.1 : Int), 0, []⟩ : Nd)]).length : Int) - 1) (IntWalk.i64_in _ (by omega)) ?_)))))))))))
    rw [show (((nd ++ [(⟨4, (q.1 : Int), (p.1 : Int), 0, []⟩ : Nd)]).length : Int) - 1) = (nd.length : Int) from by rw [hP]; omega]
    refine g0 3 #[.int .i64 (nd.length : Int)] (by kernel_rfl) rfl (fun _ => by kernel_rfl) (fun b3 => ?_)
    obtain ⟨i0, z0, e1, e2, e3, e4, e5⟩ := gJ
    refine zH (L' := (⟨b3, #[.int .i64 (nd.length : Int)], 3⟩ :: (⟨b2, #[.int .i64 4, .int .i64 (q.1 : Int), .int .i64 (p.1 : Int), .int .i64 0, .string ⟨#[]⟩], 48⟩ :: (on2 ++ ([] : List Blk)))) ++ oz ++ ([⟨b1, #[.slice none 0 0], 25⟩])) (by simp <;> rfl) (x0 (sz := 1) (by kernel_rfl) rfl Tryd.underlying39 e1 e2 e3 e4 (by kernel_rfl) hsl2 (a := ⟨b3, 0, none⟩) (m := 1) (c := 1) (news := zC (nd.length : Int)) (by kernel_rfl) rfl (fun w hO j u hj => ?_) (fun u hu => by rw [List.mem_singleton.1 hu]; rfl) (by unfold maxLen; omega) (by rw [e5]; omega) (fun u3 oz2 hu3 => ?_))
    · rw [y5, cell_of_row w b3 (0 + j) (zC (nd.length : Int)).toArray 3 _ (hO.held ⟨b3, (zC (nd.length : Int)).toArray, 3⟩ (List.mem_append_left _ (List.mem_append_left _ (List.mem_cons_self ..))))]; simpa using hj
    have hu3s : SlZ u3 (rt r ++ [(nd.length : Int)]) oz2 := SlZ.add hu3
    obtain ⟨B3, cz2, rfl⟩ := Sl.form hu3s
    refine yI (L' := ⟨b2, #[.int .i64 4, .int .i64 (q.1 : Int), .int .i64 (p.1 : Int), .int .i64 0, .string ⟨#[]⟩], 48⟩ :: (on2 ++ (oz2 ++ ([⟨b1, #[.slice none 0 0], 25⟩])))) (fun w hO => Own.sub [⟨b3, #[.int .i64 (nd.length : Int)], 3⟩] (show Own _ _ w (⟨b3, #[.int .i64 (nd.length : Int)], 3⟩ :: (⟨b2, #[.int .i64 4, .int .i64 (q.1 : Int), .int .i64 (p.1 : Int), .int .i64 0, .string ⟨#[]⟩], 48⟩ :: (on2 ++ (oz2 ++ ([⟨b1, #[.slice none 0 0], 25⟩]))))) from by simpa using hO)) (Zv (.slice B3 ((rt r ++ [(nd.length : Int)]).length) cz2) (zK (zJ ?_)))
    have hrl2 : (rt ((nd.length, Tr.one q.2 p.2) :: r)).length = (rt r ++ [(nd.length : Int)]).length := by rw [yW]
    rw [← hrl2]
    exact xF (L' := on2 ++ (oz2 ++ [⟨b1, #[.slice none 0 0], 25⟩])) (fun w hO => Own.sub [⟨b2, #[.int .i64 4, .int .i64 (q.1 : Int), .int .i64 (p.1 : Int), .int .i64 0, .string ⟨#[]⟩], 48⟩] (by simpa using hO)) (zS (m' := r.length + 1 + 0) (by omega) ⟨((nd.length, Tr.one q.2 p.2) :: r), (nd ++ [(⟨4, (q.1 : Int), (p.1 : Int), 0, []⟩ : Nd)]), B2, cn2, B3, cz2, on2, oz2, _, ⟨bB (fun _ _ _ => rfl) (fun _ _ => rfl) (fun _ _ => fT) (hst ▸ hlies), hu2s, by rw [yW]; exact hu3s, by rw [hP]; have q9 := xC st; simp only [List.length_cons]; omega⟩, rfl, ZU, rfl⟩)
  refine Zd (p := (1 : Int) < ((rt st).length : Int)) false (decide_eq_false (h8)) (ZX (xN (yG (zY (zZ (z8 (ZO (Zv (.slice N nd.length cn) ?_))))))))
  exact Zv (.agg #[.slice N nd.length cn]) (zH (L' := on ++ (oz ++ ([⟨b1, #[.slice none 0 0], 25⟩]))) rfl (yI (L' := ⟨b1, #[.slice none 0 0], 25⟩ :: (on ++ (oz))) (fun w hO => hO.perm (by simpa [List.append_assoc] using (List.perm_middle (a := ⟨b1, #[.slice none 0 0], 25⟩) (l₁ := (on ++ (oz ++ ([] : List Blk)))) (l₂ := ([] : List Blk))))) (Zs 0 ⟨b1, #[.slice none 0 0], 25⟩ (off := 0) (.agg #[.slice N nd.length cn]) (ZN (zG (ZC 0 ⟨b1, #[.slice N nd.length cn], 25⟩ (off := 0) (.agg #[.slice N nd.length cn]) Tryd.results18 (fun w hO => ⟨nd, _, on, rfl, hsn, mkg_of hlies (by omega) (by omega), hO.sublist (by first | (simp; done) | exact ((List.sublist_append_left _ _).cons _))⟩)))))))
end
end Go.Proofs.YthanpjfmlipdnaaDoor
