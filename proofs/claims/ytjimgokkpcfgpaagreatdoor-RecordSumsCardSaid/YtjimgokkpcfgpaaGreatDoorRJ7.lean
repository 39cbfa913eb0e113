/-
 What the statement's proof leans on: the ways of walking, plain mathematics, and what the program's functions return; each theorem says on what conditions.
-/
import Derived.Lib.Bytealg
import Derived.Below
import Derived.ChangeSame
import Derived.ProofKit
import Derived.OpenShut
import Derived.LaidSub
import Derived.Carry
import Derived.SliceStrings
import Derived.Lib.LaidTab
import Derived.Deep.DeepHandedRow
import Derived.ChangeArms
import Derived.ChangeSlices
import Derived.Test.YtjimgokkpcfgpaaGreatDoorRJ6
set_option maxRecDepth 1000000
set_option maxHeartbeats 8000000
set_option linter.unusedVariables false
set_option linter.unusedSimpArgs false
set_option linter.unnecessarySimpa false
namespace Go.Proofs.YtjimgokkpcfgpaaGreatDoor
open Go.RowKit

section
theorem Own.turn {M : List Nat} {W w : World} {L : List Blk} (h : Own M W w L) {l : Nat} {o : Obj} (hl : W.heap.size ≤ l) (ho : w.heap[l]? = some o) (hc : o.isCells = false) (o' : Obj) : Own M W (w.putObj l o') L := by
 refine ⟨h.os, h.tape, h.output, by rw [World.putObj_size]; exact h.size, h.drawn, fun k hk hm => (World.putObj_heap_other Om).trans (h.kept k hk hm), fun x hx => ?_, h.base, h.apart⟩
 have hx' := h.held x hx
 refine (World.putObj_heap_other fun e => ?_).trans hx'
 rw [e, ho] at hx'
 cases hx'; cases hc
theorem Own.lay {M : List Nat} {W w : World} {L : List Blk} (h : Own M W w L) (o : Obj) : Own M W (w.alloc o) L := h.on ((Below.refl _ w).alloc (Nat.le_refl _) o)
def mkQ (P : Program) (fn : Func) (R : Ending → World → Prop) : Exit → Act → World → Prop
 | .normal, a, w | .ret, a, w => LeavesInM Fence.wide 0 P fn a.tmps R a.defers .returning w
 | _, _, _ => False
theorem pq_mk {P : Program} {fn : Func} {R : Ending → World → Prop} : PQ (mkQ P fn R) := fun c a d v w h => h
theorem calls_mk {M : List Nat} {P : Program} {n : Nat} {W : World} {L : List Blk} {k : FuncId} {fn : Func} {c : Code} {args : Array Value} {R : Ending → World → Prop} (hO : Own M W W L) (hf : P.funcs[k]? = some fn) (hb : fn.body = some c) (hn : fn.ntmps = n) (hle : Nat.ble args.size n = true)
  (h : Ok M P n W (mkQ P fn R) c L (fun t => args.getD t undef)) : Calls P k args W R := by
 have hle' : args.size ≤ n := Nat.le_of_ble_eq_true hle
 have e : ({ tmps := args ++ Array.replicate (fn.ntmps - args.size) undef, defers := [] } : Act) = Fr n (fun t => args.getD t undef) := by
  unfold Fr
  congr 1
  rw [hn]
  apply Array.ext_getElem?
  intro i
  rw [Array.getElem?_ofFn, Array.getElem?_append, Array.getElem?_replicate]
  by_cases hi : i < args.size
  ·rw [if_pos hi, dif_pos Om]; simp [Array.getD, hi]
  ·rw [if_neg hi]
   by_cases h2 : i < n
   ·rw [dif_pos h2, if_pos Om]; simp [Array.getD, hi]
   ·rw [dif_neg h2, if_neg Om]
 refine (callsIn_wide (n := 0)).1 (callsIn_of_wp_marks hf hb trivial (wpIn_wide.2 ?_) rfl)
 rw [e]
 refine wp_mono (h.go W hO) fun ex a w hq => ?_
 cases ex with
 | normal => exact hq
 | ret => exact hq
 | _ => exact hq.elim
theorem x_enterM {M : List Nat} {P : Program} {W : World} {L : List Blk} {k : FuncId} {fn : Func} {args : Array Value} {R : Ending → World → Prop} (hO : Own M W W L) (hf : P.funcs[k]? = some fn) (hg : zI M P fn.ntmps W (mkQ P fn R) ⟨.code (fn.body.getD .skip), [], L, fun t => args.getD t undef⟩)
  (hb : fn.body.isSome = true := by kernel_rfl) (hle : Nat.ble args.size fn.ntmps = true := by kernel_rfl) : Calls P k args W R := by
 cases hb' : fn.body with
 | none => rw [hb'] at hb; cases hb
 | some b => rw [hb'] at hg; exact calls_mk hO hf hb' rfl hle (hg.go pq_mk)
def rndQ (M1 : List Nat) (B : Nat) (r : List UInt8) (rel : List UInt8 → List Blk → Prop) (relx : List Blk → Prop) (Wr : World) : Exit → Act → World → Prop
 | .normal, _, w => ∃ L', rel r L' ∧ Own M1 Wr w (kE B r :: L')
 | .ret, _, w => ∃ L', relx L' ∧ Own M1 Wr w L'
 | _, _, _ => False
theorem pq_rnd {M1 : List Nat} {B : Nat} {r : List UInt8} {rel : List UInt8 → List Blk → Prop} {relx : List Blk → Prop} {Wr : World} : PQ (rndQ M1 B r rel relx Wr) := fun c a d v w h => h
theorem out_rnd {M1 : List Nat} {B : Nat} {r : List UInt8} {rel : List UInt8 → List Blk → Prop} {relx : List Blk → Prop} {Wr : World} {id : Nat} {K : Act → World → Prop} : ¬ LetsOut (Exit.then K (Exit.inBlock id (rndQ M1 B r rel relx Wr))) := fun ⟨_, _, h⟩ => h
theorem out_lend {M : List Nat} {W w w' : World} {L L' : List Blk} (h : Own M W w L) (h' : Own (L.map Blk.b) w w' L') : Own M W w' L' := by
 have := Own.back (R := []) (by rw [List.append_nil]; exact h) h'
 rwa [List.append_nil] at this
theorem wM {w w' : World} {L L' : List Blk} {l : Nat} {o : Obj} (hh : ∀ x ∈ L, w.heap[x.b]? = some (.cells x.cs x.ty)) (h : Own (L.map Blk.b) w w' L') (ho : w.heap[l]? = some o) (hc : o.isCells = false) : w'.heap[l]? = some o := by
 refine (h.kept l (Array.getElem?_eq_some_iff.1 ho).1 fun hm => ?_).trans ho
 obtain ⟨x, hx, rfl⟩ := List.mem_map.1 hm
 rw [hh x hx] at ho
 cases ho; cases hc
theorem wp_lines {M : List Nat} {n : Nat} {Q : Exit → Act → World → Prop} {W0 w : World} {L0 : List Blk} {f : Nat → Value} {g : Operand} {t B : Nat} {assign body : Code} {s : List UInt8}
  (hg : ev n f g = .func (.func 138) #[] #[.pointer (some ⟨B, 0, none⟩)])
  (rel : List UInt8 → List Blk → Prop) (relx : List Blk → Prop) (f1 : List UInt8 → Nat → Value)
  (hA : ∀ (p : List UInt8) (l : Nat) (w : World) (K : Act → World → Prop), K (Fr n (f1 p)) w → assign.wpIn (Fence.wide.inRound l) 1 Tryz.prog (Exit.then K (fun _ _ _ => False)) { tmps := (Fr n f).tmps.setIfInBounds t (.string (mkS p)), defers := [] } w)
  (hB : ∀ (r : List UInt8) (L : List Blk) (l : Nat) (Wr : World), r ≠ [] → rel r L → Own M W0 Wr (kE B (lnR r) :: L) → body.wpIn (Fence.wide.inRound l) 1 Tryz.prog (rndQ ((kE B (lnR r) :: L).map Blk.b) B (lnR r) rel relx Wr) (Fr n (f1 (lnH r))) Wr)
  (h0 : rel s L0) (hO : Own M W0 w (kE B s :: L0)) (hs : s.length ≤ 1000000)
  (hdone : ∀ D L w', W0.heap.size ≤ D → rel [] L → Own M W0 w' (kE B [] :: L) → w'.heap[D]? = some (.deferred (some [])) → Q .normal { Fr n f with defers := [{ target := .collected D, args := #[] }] } w')
  (hret : ∀ D L w', W0.heap.size ≤ D → relx L → Own M W0 w' L → w'.heap[D]? = some (.deferred (some [])) → Q .ret { Fr n f with defers := [{ target := .collected D, args := #[] }] } w') :
  (Code.rangeFunc g #[t] assign body).wp Tryz.prog Q (Fr n f) w := by
 refine (wpIn_wide (n := 1)).1 (wpIn_rangeFunc ?_)
 intro fn hfn
 obtain ⟨rc, hrc⟩ : ∃ rc : LoopState → Option Code → Loop, rc = fun st pe => { state := st, pending := pe, fn, tmps := (Fr n f).tmps, params := #[t], assign, body, defers := w.heap.size } := ⟨_, rfl⟩
 obtain ⟨W1, hW1⟩ : ∃ W1, (w.alloc (.deferred (some []))).alloc (.loop (rc .ready none)) = W1 := ⟨_, rfl⟩
 obtain ⟨l, hl⟩ : ∃ l, w.heap.size + 1 = l := ⟨_, rfl⟩
 have hWl : W0.heap.size ≤ l := by have := hO.size; omega
 have hL1 : W1.heap[l]? = some (.loop (rc .ready none)) := by
  rw [← hW1, ← hl]; have := World.alloc_heap_new (w.alloc (.deferred (some []))) (.loop (rc .ready none)); rwa [World.size_alloc] at this
 have hK1 : W1.heap[w.heap.size]? = some (.deferred (some [])) := by
  rw [← hW1]; exact (Below.heap_alloc _ _ _ (by simp)).trans (World.alloc_heap_new w _)
 have hO1 : Own M W0 W1 (kE B s :: L0) := by rw [← hW1]; exact (hO.lay _).lay _
 have hD := hO.size
 refine ⟨l, [{ target := .collected w.heap.size, args := #[] }], W1, { target := .fn (.func 138) #[Zp B 0], args := #[.func (.yield l) #[] #[]] }, W1, 138, #[.func (.yield l) #[] #[], Zp B 0], W1, ?_, ?_, fun _ _ => trivial, ?_, fun q => (by cases q), ?_⟩
 ·rw [← hW1, ← hl, hrc]; exact run_enterLoop_outer _ _ _ _ _
 ·simp only [resolve, kN, hg]
  simp [go_sem]
  rfl
 ·simp [invoke, go_sem, enters_of Tryz.func138 Kr rfl]
 have hlt : ∀ {w : World} {k : Nat} {o : Obj}, w.heap[k]? = some o → k < w.heap.size := fun h => (Array.getElem?_eq_some_iff.1 h).1
 refine (callsIn_wide.2 (lines_any l B (fun r w' => (∃ L, rel r L ∧ Own M W0 w' (kE B r :: L)) ∧ w'.heap[l]? = some (.loop (rc .ready none)) ∧ w'.heap[w.heap.size]? = some (.deferred (some [])))
  (fun p r' w' => (∃ r L, r ≠ [] ∧ p = lnH r ∧ r' = lnR r ∧ rel r L ∧ Own M W0 w' (kE B (lnR r) :: L)) ∧ w'.heap[l]? = some (.loop (rc .ready none)) ∧ w'.heap[w.heap.size]? = some (.deferred (some [])))
  (fun w' => (∃ L, relx L ∧ Own M W0 w' L) ∧ w'.heap[l]? = some (.loop (rc .done (some .ret))) ∧ w'.heap[w.heap.size]? = some (.deferred (some [])))
  (fun r w1 ⟨⟨L, _, h⟩, _⟩ => (h.sublist (L' := [kE B r]) (List.cons_sublist_cons.2 (List.nil_sublist _))).lend)
  (fun r w1 w2 ⟨⟨L, q, h⟩, h2, h3⟩ h' => ⟨⟨L, q, Own.back (ob := [kE B r]) (ob' := [kE B r]) (R := L) h h'⟩, wM (L := [kE B r]) (fun x hx => h.held x (by rw [List.mem_singleton.1 hx]; exact List.mem_cons_self ..)) h' h2 rfl, wM (L := [kE B r]) (fun x hx => h.held x (by rw [List.mem_singleton.1 hx]; exact List.mem_cons_self ..)) h' h3 rfl⟩)
  (fun r w1 w2 ⟨⟨L, q, h⟩, h2, h3⟩ hne h' => ⟨⟨r, L, hne, rfl, rfl, q, Own.back (ob := [kE B r]) (ob' := [kE B (lnR r)]) (R := L) h h'⟩, wM (L := [kE B r]) (fun x hx => h.held x (by rw [List.mem_singleton.1 hx]; exact List.mem_cons_self ..)) h' h2 rfl, wM (L := [kE B r]) (fun x hx => h.held x (by rw [List.mem_singleton.1 hx]; exact List.mem_cons_self ..)) h' h3 rfl⟩)
  (fun w1 w2 ⟨⟨L, q, h⟩, h2, h3⟩ hb => ⟨⟨L, q, h.on hb⟩, (hb.block _ (hlt h2)).trans h2, (hb.block _ (hlt h3)).trans h3⟩)
  ?_ s W1 ⟨⟨L0, h0, hO1⟩, hL1, hK1⟩ hs)).mono ?_
 ·rintro p r' w1 ⟨⟨r, L, hne, rfl, rfl, hrel, h⟩, h2, h3⟩
  have hy := run_yield (P := Tryz.prog) (args := #[.string (mkS (lnH r))]) h2 (by rw [hrc]; rfl)
  rw [hrc] at hy
  refine ⟨fn, (Fr n f).tmps.setIfInBounds t (.string (mkS (lnH r))), assign, body, by rw [hy]; simp, roundIn_of_wpIn trivial (hA (lnH r) l w1 _ ?_)⟩
  refine ⟨_, run_beginRound h2 (by rw [hrc]), ?_⟩
  have h4 := h.turn hWl h2 rfl (.loop { rc .ready none with state := .busy })
  have hl2 : (w1.putObj l (.loop { rc .ready none with state := .busy })).heap[l]? = some (.loop { rc .ready none with state := .busy }) := World.putObj_heap_same (hlt h2)
  have hk2 : (w1.putObj l (.loop { rc .ready none with state := .busy })).heap[w.heap.size]? = some (.deferred (some [])) := (World.putObj_heap_other Om).trans h3
  refine wpIn_mono (hB r L l _ hne hrel h4) fun e a w3 hp => ?_
  cases e with
  | normal =>
   obtain ⟨L', q1, q2⟩ := hp
   have hl3 := wM h4.held q2 hl2 rfl
   have hk3 := wM h4.held q2 hk2 rfl
   exact ⟨_, _, run_endRound none hl3, .inl ⟨rfl, ⟨L', q1, (out_lend h4 q2).turn hWl hl3 rfl _⟩, (World.putObj_heap_same (hlt hl3)).trans (by rw [hrc]; rfl), (World.putObj_heap_other Om).trans hk3⟩⟩
  | ret =>
   obtain ⟨L', q1, q2⟩ := hp
   have hl3 := wM h4.held q2 hl2 rfl
   have hk3 := wM h4.held q2 hk2 rfl
   exact ⟨_, _, run_endRound (some .ret) hl3, .inr ⟨rfl, ⟨L', q1, (out_lend h4 q2).turn hWl hl3 rfl _⟩, (World.putObj_heap_same (hlt hl3)).trans (by rw [hrc]; rfl), (World.putObj_heap_other Om).trans hk3⟩⟩
  | _ => exact hp.elim
 ·rintro e w2 ⟨rfl, (⟨⟨L, q, h⟩, h2, h3⟩ | ⟨⟨L, q, h⟩, h2, h3⟩)⟩
  ·exact ⟨none, _, by have := run_endLoop (P := Tryz.prog) h2 (by rw [hrc]; simp); rw [hrc] at this; exact this, hdone w.heap.size L _ hD q (h.turn hWl h2 rfl _) ((World.putObj_heap_other Om).trans h3)⟩
  ·exact ⟨some .ret, _, by have := run_endLoop (P := Tryz.prog) h2 (by rw [hrc]; simp); rw [hrc] at this; exact this, wpIn_ret (hret w.heap.size L _ hD q (h.turn hWl h2 rfl _) ((World.putObj_heap_other Om).trans h3))⟩
end
section
def jF : Nat → Rt → Nat → Nat → List UInt8 → Int × Rt × Nat
 | 0, x, k, i, _ => (0, x, k)
 | f + 1, x, k, i, r =>
  if r = [] then (0, x, k)
  else if (z8 10 r).2.2 then
   match xK x k (z8 10 r).1 lays with
   | some (y, kk) => jF f y kk (i + 1) (z8 10 r).2.1
   | none => (((i + 1 : Nat) : Int), x, k)
  else (((i + 1 : Nat) : Int), x, k)
structure FewR (x : Rt) (m : Nat) : Prop where
 n : x.needs.length ≤ m
 b : x.bars.length ≤ m
 f : x.fts.length ≤ m
 a : ∀ n ∈ x.needs, n.any.length ≤ m
theorem FewR.up {x : Rt} {m m' : Nat} (h : FewR x m) (hm : m ≤ m') : FewR x m' := ⟨Nat.le_trans h.n hm, Nat.le_trans h.b hm, Nat.le_trans h.f hm, fun n hn => Nat.le_trans (h.a n hn) hm⟩
theorem d9 {α : Type} (f : α → α) : ∀ l : List α, (yM f l).length = l.length
 | [] => rfl
 | [a] => rfl
 | a :: b :: r => by rw [yM, List.length_cons, d9 f (b :: r)]; simp
theorem mD {α : Type} {f : α → α} {p : α → Prop} (hf : ∀ y, p y → p (f y)) : ∀ {l : List α}, (∀ y ∈ l, p y) → ∀ y ∈ yM f l, p y
 | [], h => h
 | [a], h => fun y hy => by
  rw [yM, List.mem_singleton] at hy; rw [hy]; exact hf a (h a (List.mem_singleton.2 rfl))
 | a :: b :: r, h => fun y hy => by
  rw [yM] at hy
  rcases List.mem_cons.1 hy with rfl | hy
  ·exact h _ (List.mem_cons_self ..)
  ·exact mD hf (fun z hz => h z (List.mem_cons_of_mem _ hz)) y hy
theorem add_few {x : Rt} {m : Nat} (h : FewR x m) (kd : Nat) (ps : List (List UInt8)) : FewR (fY x kd ps).1 (m + 1) := by
 have h1 := h.up (Nat.le_succ m)
 unfold fY
 split
 ·exact ⟨h1.n, h1.b, h1.f, h1.a⟩
 ·refine ⟨by rw [List.length_append]; exact Nat.succ_le_succ h.n, h1.b, h1.f, fun n hn => ?_⟩
  rcases List.mem_append.1 hn with hn | hn
  ·exact h1.a n hn
  ·rw [List.mem_singleton.1 hn]; exact Nat.zero_le _
 ·refine ⟨by rw [d9]; exact h1.n, h1.b, h1.f, fun n hn => ?_⟩
  have key : ∀ {l : List Nt}, (∀ y ∈ l, y.any.length ≤ m) → ∀ y ∈ yM (fun n => { n with any := n.any ++ [anyW ps (ps.getD 4 [])] }) l, y.any.length ≤ m + 1 := by
   intro l
   induction l with
   | nil => intro _ y hy; cases hy
   | cons a r ih =>
    intro hl y hy
    cases r with
    | nil =>
     rw [yM, List.mem_singleton] at hy
     rw [hy]; show (a.any ++ _).length ≤ _
     rw [List.length_append]; exact Nat.succ_le_succ (hl a (List.mem_singleton.2 rfl))
    | cons b r =>
     rw [yM] at hy
     rcases List.mem_cons.1 hy with rfl | hy
     ·exact Nat.le_succ_of_le (hl _ (List.mem_cons_self ..))
     ·exact ih (fun z hz => hl z (List.mem_cons_of_mem _ hz)) y hy
  exact key h.a n hn
 ·exact ⟨by rw [d9]; exact h1.n, h1.b, h1.f, mD (f := fun n : Nt => { n with wh := ps.getD 1 [] }) (p := fun n : Nt => n.any.length ≤ m + 1) (fun y hy => hy) h1.a⟩
 ·exact ⟨by rw [d9]; exact h1.n, h1.b, h1.f, mD (f := fun n : Nt => { n with opt := ps.getD 1 [] }) (p := fun n : Nt => n.any.length ≤ m + 1) (fun y hy => hy) h1.a⟩
 ·exact ⟨h1.n, by rw [List.length_append]; exact Nat.succ_le_succ h.b, h1.f, h1.a⟩
 ·exact ⟨h1.n, by rw [d9]; exact h1.b, h1.f, h1.a⟩
 ·exact ⟨h1.n, h1.b, by rw [List.length_append]; exact Nat.succ_le_succ h.f, h1.a⟩
 ·exact h1
theorem take_few {x y : Rt} {m k kk : Nat} {s : List UInt8} (h : FewR x m) : ∀ {L : List La}, xK x k s L = some (y, kk) → FewR y (m + 1)
 | [], e => by cases e
 | l :: r, e => by
  rw [xK] at e
  split at e
  ·split at e
   ·simp only [Option.some.injEq, Prod.mk.injEq] at e
    rw [← e.1]; exact add_few h _ _
   ·cases e
  ·exact take_few h e
theorem take_inv {x y : Rt} {k kk : Nat} {s : List UInt8} (hI : InvA x k) (h : xK x k s lays = some (y, kk)) : InvA y kk ∧ gS ⟨x, stg k⟩ s = some ⟨y, stg kk⟩ := by
 have := take_line hI s
 rw [h] at this
 cases hl : gS ⟨x, stg k⟩ s with
 | none => rw [hl] at this; exact this.elim
 | some z => rw [hl] at this; exact ⟨this.2, by rw [this.1]⟩
theorem take_not {x : Rt} {k : Nat} {s : List UInt8} (hI : InvA x k) (h : xK x k s lays = none) : gS ⟨x, stg k⟩ s = none := by
 have := take_line hI s
 rw [h] at this
 cases hl : gS ⟨x, stg k⟩ s with
 | none => rfl
 | some z => rw [hl] at this; exact this.elim
theorem resA_read : ∀ (f : Nat) (x : Rt) (k i : Nat) (r : List UInt8), InvA x k → r.length ≤ f →
  let ls := zB 10 [] r
  ((jF f x k i r).1 = 0 → InvA (jF f x k i r).2.1 (jF f x k i r).2.2 ∧ bE ⟨x, stg k⟩ ls.dropLast = some ⟨(jF f x k i r).2.1, stg (jF f x k i r).2.2⟩ ∧ ls.getLast? = some [])
  ∧ ((jF f x k i r).1 ≠ 0 → (bE ⟨x, stg k⟩ ls.dropLast = none ∧ (jF f x k i r).1 = badS ⟨x, stg k⟩ i ls.dropLast) ∨ ((∃ y, bE ⟨x, stg k⟩ ls.dropLast = some y) ∧ ls.getLast? ≠ some [] ∧ (jF f x k i r).1 = ((i + ls.length : Nat) : Int)))
 | f, x, k, i, [], hI, _ => by
  have e : jF f x k i [] = (0, x, k) := by cases f with
   | zero => rfl
   | succ f => rw [jF, if_pos rfl]
  rw [e]
  exact ⟨fun _ => ⟨hI, rfl, rfl⟩, fun h => absurd rfl h⟩
 | 0, x, k, i, c :: r, hI, h => by simp at h
 | f + 1, x, k, i, c :: t, hI, hf => by
  obtain ⟨r, hr⟩ : ∃ r, c :: t = r := ⟨_, rfl⟩
  have hne : r ≠ [] := by rw [← hr]; simp
  rw [hr] at hf ⊢
  have hsp := x4 10 r []
  rw [List.nil_append] at hsp
  rw [jF, if_neg hne]
  cases hq : (z8 10 r).2.2 with
  | false =>
   rw [hq, if_neg Bool.false_ne_true] at hsp
   have hb := fW 10 r
   rw [hq, if_neg Bool.false_ne_true, List.append_nil] at hb
   rw [if_neg Bool.false_ne_true, hsp]
   refine ⟨fun h => absurd h (by show ((i + 1 : Nat) : Int) ≠ 0; omega), fun _ => .inr ⟨⟨_, rfl⟩, ?_, rfl⟩⟩
   show some (z8 10 r).1 ≠ some []
   rw [← hb]; simpa using hne
  | true =>
   have hl := wP 10 r
   rw [hq, if_pos rfl] at hl hsp
   rw [if_pos rfl, hsp]
   have hsne : zB 10 [] (z8 10 r).2.1 ≠ [] := qA 10 _ _
   obtain ⟨L, hL⟩ : ∃ L, zB 10 [] (z8 10 r).2.1 = L := ⟨_, rfl⟩
   have hd : ((z8 10 r).1 :: L).dropLast = (z8 10 r).1 :: L.dropLast := List.dropLast_cons_of_ne_nil (hL ▸ hsne)
   have hg : ((z8 10 r).1 :: L).getLast? = L.getLast? := by
    rw [hL] at hsne
    cases L with
    | nil => exact absurd rfl hsne
    | cons a b => simp [List.getLast?_cons_cons]
   rw [hL]
   dsimp only
   rw [hd, hg]
   cases ht : xK x k (z8 10 r).1 lays with
   | none =>
    have hn := take_not hI ht
    refine ⟨fun h => absurd h (by show ((i + 1 : Nat) : Int) ≠ 0; omega), fun _ => .inl ⟨?_, ?_⟩⟩
    ·rw [bE, hn]
    ·rw [badS, hn]
   | some yk =>
    obtain ⟨y, kk⟩ := yk
    obtain ⟨hI', hs⟩ := take_inv hI ht
    have ih := resA_read f y kk (i + 1) (z8 10 r).2.1 hI' Om
    rw [hL] at ih
    dsimp only at ih ⊢
    rw [bE, badS, hs]
    refine ⟨ih.1, fun h => ?_⟩
    rcases ih.2 h with ⟨q1, q2⟩ | ⟨q1, q2, q3⟩
    ·exact .inl ⟨q1, q2⟩
    ·refine .inr ⟨q1, q2, ?_⟩
     rw [q3, List.length_cons]; congr 1; omega
theorem inv_nil : InvA bP 0 := ⟨by decide, fun _ => rfl, fun h => absurd h (by decide), fun h => absurd h (by decide)⟩
def dU (s : List UInt8) : Int := if s = [] then 1 else (jF s.length bP 0 0 s).1
def recA (s : List UInt8) : Rt := (jF s.length bP 0 0 s).2.1
theorem stg_zero {k : Nat} (h : k ≤ 8) : stg k = 0 ↔ k = 0 := by
 have : ∀ j, j ≤ 8 → (stg j = 0 ↔ j = 0) := by decide
 exact this k h
end
section
set_option linter.unnecessarySimpa false
def findRF : Code → Code × Code
 | .rangeFunc _ _ a b => (a, b)
 | .seq x y => match findRF x with
  | (.skip, .skip) => findRF y
  | r => r
 | .block _ x => findRF x
 | _ => (.skip, .skip)
def fV (i : Nat) : Code → Array Oper
 | .region j a _ => if j = i then a else #[]
 | .seq x y => if (fV i x).size = 0 then fV i y else fV i x
 | .cond _ x y => if (fV i x).size = 0 then fV i y else fV i x
 | .block _ x => fV i x
 | .rangeFunc _ _ x y => if (fV i x).size = 0 then fV i y else fV i x
 | _ => #[]
section
variable {M : List Nat} {P : Program} {n : Nat} {W : World} {Q : Exit → Act → World → Prop} {c : Xc}
theorem x_range (h : List Nat) {g : Operand} {t : Nat} (assign body rest : Code) (lv : List (Nat × Value)) (L1 : List Blk) (hs : ∀ w f, Own M W w L1 → (Code.rangeFunc g #[t] assign body).wp P (Exit.inBlock 0 (Exit.then (rest.wp P Q) Q)) (Fr n (jR f lv)) w)
  (hkt : (xgl P n nS h c, (xgo P n nS h c).top, (xgo P n nS h c).k, (xgo P n nS h c).L, xV (xgo P n nS h c).f lv) = (xgr P n nS h c, .code (.rangeFunc g #[t] assign body), [.blk 0, .code rest], L1, lv.map Prod.snd) := by kernel_rfl) : zI M P n W Q c := by
 simp only [Prod.mk.injEq] at hkt
 obtain ⟨hk, e1, e2, e3, e4⟩ := hkt
 refine zP h c hk ?_
 generalize xgo P n nS h c = d at *
 obtain ⟨top, kk, L, f⟩ := d
 dsimp only at e1 e2 e3 e4
 subst e1; subst e2; subst e3
 exact ⟨fun _ => ⟨fun w hO => by have := hs w f hO; rw [← vC _ (qG e4)] at this; exact this⟩⟩
theorem x_retM {fn : Func} {R : Ending → World → Prop} (h : List Nat) (i : Nat) (v : Value) (hR : ∀ w, Own M W w (xgo P n nS h c).L → R (.returned v) w) (hkt : (xgl P n nS h c, ((xgo P n nS h c).top, (xgo P n nS h c).k, fn.results, (xgo P n nS h c).L[i]?, ev n (xgo P n nS h c).f (.tmp (xRt fn 0)), yO P (xRy fn 0) (jB (xgo P n nS h c).L i).cs 0)) = (xgr P n nS h c, (.fin .ret, [], #[.cell (xRt fn 0) (xRy fn 0)], some (jB (xgo P n nS h c).L i), .pointer (some ⟨(jB (xgo P n nS h c).L i).b, 0, none⟩), some v)) := by kernel_rfl) : zI M P n W (mkQ P fn R) c := by
 obtain ⟨hk, ht⟩ := Prod.mk.inj hkt
 refine zP h c hk ?_
 generalize xgo P n nS h c = d at hR ht ⊢
 obtain ⟨top, kk, L, f⟩ := d
 simp only [Prod.mk.injEq] at ht
 obtain ⟨rfl, rfl, e3, e4, e5, e6⟩ := ht
 exact ⟨fun _ => ⟨fun w hO => (((fin_cell (M := M) (P := P) (n := n) (W := W) (R := R) i _ v e3 e4 e5 e6 hR).go w hO).2)⟩⟩
end
theorem results_cellB {P : Program} {n : Nat} {f : Nat → Value} {fn : Func} {p : Tmp} {ty : TypeId} {x : Blk} {v : Value} {w : World} (hres : fn.results = #[.cell p ty]) (hp : ev n f (.tmp p) = .pointer (some ⟨x.b, 0, none⟩)) (hx : w.heap[x.b]? = some (.cells x.cs x.ty)) (hv : yO P ty x.cs 0 = some v) : (results fn (Fr n f).tmps).run P w = .ok v w := by
 have e : (Fr n f).tmps.getD p undef = .pointer (some ⟨x.b, 0, none⟩) := (kM n f p).trans hp
 have hr := yY hv hx
 have e' : (Fr n f).tmps[p]?.getD undef = .pointer (some ⟨x.b, 0, none⟩) := by simpa using e
 simp [results, hres, e', asAddr, hr]
theorem leave_mark {P : Program} {fn : Func} {R : Ending → World → Prop} {tmps : Array Value} {w : World} {D : Nat} {v : Value} (hK : w.heap[D]? = some (.deferred (some []))) (hres : (results fn tmps).run P (w.putObj D (.deferred none)) = .ok v (w.putObj D (.deferred none))) (hR : R (.returned v) (w.putObj D (.deferred none))) : LeavesInM Fence.wide 0 P fn tmps R [{ target := .collected D, args := #[] }] .returning w :=
 ⟨by simp, .inl ⟨_, _, rfl, run_takeDeferred hK, v, hres, hR⟩⟩
theorem store_marks {P : Program} {n id i off : Nat} {f : Nat → Value} {o : Oper} {ds : List Deferred} {Q : Exit → Act → World → Prop} {M : List Nat} {W w : World} {L : List Blk} (x : Blk) {T : TypeId} {t : TypeInfo} {p q : Operand} (v : Value) (hw : zT #[o] n f o = true) (ho : o.op = .store T p q) (hd : o.dst = none) (hL : L[i]? = some x)
  (hp : ev n f p = .pointer (some ⟨x.b, off, none⟩)) (hq : ev n f q = v) (hi : P.info? T = some t) (hs : v.cells.size = t.size) (hle : off + t.size ≤ x.cs.size) (h1 : ∀ u ∈ v.cells.toList, u.oneCell' = true) (hO : Own M W w L)
  (h : ∀ w', Own M W w' (L.set i ⟨x.b, zW x.cs off v.cells, x.ty⟩) → (∀ k, k ≠ x.b → w'.heap[k]? = w.heap[k]?) → Q .normal { Fr n f with defers := ds } w') : (Code.region id #[o] false).wp P Q { Fr n f with defers := ds } w := by
 have hst := run_storeCells_at (P := P) x.b off x.ty v.cells.toList 0 x.cs w (hO.get hL) (by simp; omega) h1
 have hr : (execOp (ev n f) o).run P w = .ok .skip (w.setRow x.b (zW x.cs off v.cells)) := by
  unfold execOp
  simp only [ho, hp, hq, Instr.storeAt, Instr.sureAddr, Sem.run_bind, Sem.run_pure, Result.andThen_ok, storeVar, sizeOf, typeInfo, hi, hs, run_program]
  simp only [ne_eq, not_true_eq_false, if_false]
  have : (storeCells ⟨x.b, off, none⟩ v.cells.toList).run P w = .ok () (w.setRow x.b (zW x.cs off v.cells)) := by
   rw [hst]; unfold zW; simp
  simp [this]
 refine wp_region_list ?_
 show wpList P #[o] Q [o] { Fr n f with defers := ds } w
 unfold wpList
 have hwt : Region.wanted o (yielded #[o] ({ Fr n f with defers := ds } : Act).tmps) = true := (qQ #[o] n f o).trans hw
 rw [if_pos hwt]
 refine .inl ?_
 unfold Oper.wp
 have he : ({ Fr n f with defers := ds } : Act).eval = ev n f := kN n f
 rw [he, hr, Oper.upon_skip, show ({ Fr n f with defers := ds } : Act).put o.dst undef = { Fr n f with defers := ds } by rw [hd]; rfl]
 unfold wpList
 exact h _ (hO.put hL _) fun k hk => by
  unfold World.setRow
  simp [World.setRow, hk, Array.getElem?_modify, Ne.symm hk]
end
section
set_option linter.unnecessarySimpa false
theorem qLines_any (s : List UInt8) (W : World) : YC 92 #[.string (mkS s)] W fun e w' => ∃ v ob, e = .returned v ∧ (∃ B, v = .func (.func 138) #[] #[.pointer (some ⟨B, 0, none⟩)] ∧ ob = [kE B s]) ∧ Own [] W w' ob :=
 zQ Tryz.func92 (wK [] fun b1 => x_val 3 [] (.func (.func 138) #[] #[.pointer (some ⟨b1, 0, none⟩)]) (fun w => Kr) (zF [] (.func (.func 138) #[] #[.pointer (some ⟨b1, 0, none⟩)]) fun w hO => ⟨_, _, rfl, ⟨b1, rfl, rfl⟩, hO.past 0 [kE b1 s]⟩))
theorem suf_cut (r : List UInt8) : Lib.hasSuffix (lnH r) [10] = (z8 10 r).2.2 ∧ ((z8 10 r).2.2 = true → Lib.trimSuffix (lnH r) [10] = (z8 10 r).1) := by
 unfold lnH
 cases hq : (z8 10 r).2.2 with
 | true =>
  rw [if_pos rfl]
  have h1 : Lib.hasSuffix ((z8 10 r).1 ++ [10]) [10] = true := List.isSuffixOf_iff_suffix.2 (List.suffix_append _ _)
  exact ⟨h1, fun _ => by unfold Lib.trimSuffix; rw [if_pos h1]; simp⟩
 | false =>
  rw [if_neg Bool.false_ne_true]
  refine ⟨?_, fun h => absurd h Bool.false_ne_true⟩
  have h1 := split_free 10 r [] (by simp) r (by rw [split_one 10 hq]; exact List.mem_singleton.2 rfl)
  cases h2 : Lib.hasSuffix r [10] with
  | false => rfl
  | true => exact absurd ((List.isSuffixOf_iff_suffix.1 h2).subset (List.mem_singleton.2 rfl)) h1
theorem qSuf_any (p : List UInt8) (w : World) (hp : p.length ≤ 1000000) : YC 93 #[.string (mkS p), .string ⟨#[10]⟩] w (YR (.tuple #[.string (mkS (Lib.trimSuffix p [10])), .bool (Lib.hasSuffix p [10])]) w) :=
 (Tryz.strings_CutSuffix _ _ w (by rw [yD]; omega)).mono fun e w' ⟨h1, h2⟩ => ⟨by rw [h1]; rfl, h2 ▸ Below.refl _ _⟩
def g6 (b : Nat) (z : Int) : Blk := ⟨b, #[YI z], 3⟩
def tkV (rb : Nat) : Value := .func (.func 43) #[.pointer (some ⟨rb, 0, none⟩)] #[]
def fnB (b rb : Nat) : Blk := ⟨b, #[tkV rb], 42⟩
structure RefB (rb : Nat) (s : List UInt8) (ob : List Blk) (W : World) (e : Ending) (w' : World) : Prop where
 ex : ∃ x' k' ob', e = .returned (YI (dU s)) ∧ RdR rb k' x' ob' ∧ Own (ob.map Blk.b) W w' ob' ∧ (s ≠ [] → dU s = 0 → x'.rt = recA s ∧ FewR x'.rt 4096)
noncomputable abbrev qRF : Code × Code := findRF (Tryz.f41.body.getD .skip)
noncomputable abbrev qRg (i : Nat) : Array Oper := fV i (Tryz.f41.body.getD .skip)
theorem qBody_is : qRF.2 = .block 1 (.seq (.region 6 (qRg 6) false) (.seq (.region 7 (qRg 7) false) (.seq (.region 8 (qRg 8) false) (.cond (.tmp 28) (.seq (.region 9 (qRg 9) false) .ret) .skip)))) := by kernel_rfl
structure RefI (rb b3 b4 b5 : Nat) (s r : List UInt8) (L : List Blk) : Prop where
 ex : ∃ x k i ob fu, L = g6 b5 ((i : Nat) : Int) :: g6 b4 0 :: fnB b3 rb :: ob ∧ RdR rb k x ob ∧ InvA x.rt k ∧ FewR x.rt i ∧ i + r.length ≤ s.length ∧ r.length ≤ fu ∧ jF fu x.rt k i r = jF s.length bP 0 0 s
structure RefX (rb b3 b4 b5 : Nat) (s : List UInt8) (L : List Blk) : Prop where
 ex : ∃ x k i ob, L = g6 b5 i :: g6 b4 (dU s) :: fnB b3 rb :: ob ∧ RdR rb k x ob ∧ dU s ≠ 0
theorem FewR.few {x : Rv} {m : Nat} (h : FewR x.rt m) (hm : m ≤ 5000) : Few x := by
 have h' := h.up hm
 refine ⟨?_, ?_, ?_, fun n hn => ?_⟩
 ·have := h'.n; unfold Rv.rt at this; simpa using this
 ·have := h'.b; unfold Rv.rt at this; simpa using this
 ·have := h'.f; simp only [Rv.rt, kA] at this; simpa using this
 ·have := h'.a n.nt (by unfold Rv.rt; exact List.mem_map.2 ⟨n, hn, rfl⟩)
  unfold Nv.nt at this; simpa using this
def bLv (b3 b4 b5 : Nat) : List (Nat × Value) := [(3, .pointer (some ⟨b3, 0, none⟩)), (4, .pointer (some ⟨b4, 0, none⟩)), (5, .pointer (some ⟨b5, 0, none⟩))]
theorem ref_body {M : List Nat} {W0 : World} {rb b3 b4 b5 B : Nat} {s : List UInt8} (hs : s.length ≤ 4096) (hne0 : s ≠ []) (hK : ∀ w, Own M W0 w [] → HasLib w ∧ LyAt w) (f : Nat → Value) (r : List UInt8) (L : List Blk) (l : Nat) (Wr : World) (hne : r ≠ []) (hrel : RefI rb b3 b4 b5 s r L) (hOw : Own M W0 Wr (kE B (lnR r) :: L)) :
  qRF.2.wpIn (Fence.wide.inRound l) 1 Tryz.prog (rndQ ((kE B (lnR r) :: L).map Blk.b) B (lnR r) (RefI rb b3 b4 b5 s) (RefX rb b3 b4 b5 s) Wr) (Fr Tryz.f41.ntmps (upd (jR f (bLv b3 b4 b5)) (some 6) (.string (mkS (lnH r))))) Wr := by
 obtain ⟨x, k, i, ob, fu, rfl, hR, hI, hF, hi, hfu, hres⟩ := hrel
 have hlen := lnR_len hne
 obtain ⟨p, hp⟩ : ∃ p, lnH r = p := ⟨_, rfl⟩
 obtain ⟨rr, hrr⟩ : ∃ rr, lnR r = rr := ⟨_, rfl⟩
 obtain ⟨hsuf, htrim⟩ := suf_cut r
 have hpl : p.length ≤ 4096 := by
  rw [← hp]; unfold lnH
  rcases ix_cut 10 r with ⟨c1, _, c3, _⟩ | ⟨c1, _⟩
  ·rw [if_pos c1, ← c3, List.length_take]; omega
  ·rw [c1, if_neg Bool.false_ne_true]; omega
 rw [hp] at hsuf htrim ⊢
 rw [hrr] at hOw hlen ⊢
 obtain ⟨M1, hM1⟩ : ∃ M1, (kE B rr :: g6 b5 ((i : Nat) : Int) :: g6 b4 0 :: fnB b3 rb :: ob).map Blk.b = M1 := ⟨_, rfl⟩
 have hOl := hOw.lend
 obtain ⟨ln, hln⟩ : ∃ ln, Lib.trimSuffix p [10] = ln := ⟨_, rfl⟩
 obtain ⟨en, hen⟩ : ∃ en, Lib.hasSuffix p [10] = en := ⟨_, rfl⟩
 have hcs : ∀ w, YC 93 #[.string (mkS p), .string ⟨#[10]⟩] w (YR (.tuple #[.string (mkS ln), .bool en]) w) := fun w => by
  have := qSuf_any p w Om
  rw [hln, hen] at this; exact this
 have hlnl : ln.length ≤ 4096 := by
  rw [← hln]; unfold Lib.trimSuffix
  split
  ·rw [List.length_take]; omega
  ·exact hpl
 rw [hM1] at hOl ⊢
 rw [qBody_is]
 refine wpIn_block (wpIn_seq (fD (M := M1) (W := Wr) (L := kE B rr :: g6 b5 ((i : Nat) : Int) :: g6 b4 0 :: fnB b3 rb :: ob) (yW (tD pq_rnd)) out_rnd Kr ?_ Wr hOl))
 refine x_i 15 [1] ((i + 1 : Nat) : Int) (x_fin [1] (bLv b3 b4 b5 ++ [(6, .string (mkS p))]) fun w6 f6 hO6 => ?_)
 have hO6' := hO6.past 0 (kE B rr :: g6 b5 ((i + 1 : Nat) : Int) :: g6 b4 0 :: fnB b3 rb :: ob)
 clear hO6
 refine wpIn_seq (fD (M := M1) (W := Wr) (L := kE B rr :: g6 b5 ((i + 1 : Nat) : Int) :: g6 b4 0 :: fnB b3 rb :: ob) (yW (tD pq_rnd)) out_rnd Kr ?_ w6 hO6')
 refine zE (v := .tuple #[.string (mkS ln), .bool en]) [] (fun w hO => hcs w) (x_fin [] (bLv b3 b4 b5 ++ [(7, .string (mkS ln)), (8, .bool en)]) fun w7 f7 hO7 => ?_)
 have hO7' := hO7.past 0 (kE B rr :: g6 b5 ((i + 1 : Nat) : Int) :: g6 b4 0 :: fnB b3 rb :: ob)
 clear hO7
 refine wpIn_seq (fD (M := M1) (W := Wr) (L := kE B rr :: g6 b5 ((i + 1 : Nat) : Int) :: g6 b4 0 :: fnB b3 rb :: ob) (yW (tD pq_rnd)) out_rnd Kr ?_ w7 hO7')
 have hM0 : ∀ {w : World} {L' : List Blk}, Own M1 Wr w L' → Own M W0 w L' := fun h => out_lend hOw (by rw [hM1]; exact h)
 have hrefuse : ∀ (w8 : World) (f8 : Nat → Value) (x' : Rv) (k' : Nat) (ob' : List Blk), Own M1 Wr w8 (kE B rr :: g6 b5 ((i + 1 : Nat) : Int) :: g6 b4 0 :: fnB b3 rb :: ob') → RdR rb k' x' ob' → (jF fu x.rt k i r).1 = ((i + 1 : Nat) : Int) → (Code.cond (.tmp 28) (.seq (.region 9 (qRg 9) false) .ret) .skip).wpIn (Fence.wide.inRound l) 1 Tryz.prog (Exit.inBlock 1 (rndQ M1 B rr (RefI rb b3 b4 b5 s) (RefX rb b3 b4 b5 s) Wr)) (Fr Tryz.f41.ntmps (jR f8 (bLv b3 b4 b5 ++ [(28, .bool true)]))) w8 := fun w8 f8 x' k' ob' hO8 hR' hz => by
  have hbz : dU s = ((i + 1 : Nat) : Int) := by unfold dU; rw [if_neg hne0, ← hres]; exact hz
  refine wpIn_cond_true (by rw [kN]; kernel_rfl) (wpIn_seq (fD (M := M1) (W := Wr) (L := kE B rr :: g6 b5 ((i + 1 : Nat) : Int) :: g6 b4 0 :: fnB b3 rb :: ob') (yW (tD pq_rnd)) out_rnd Kr ?_ w8 hO8))
  refine x_fin [1, 2] [] fun w9 f9 hO9 => wpIn_ret ⟨g6 b5 ((i + 1 : Nat) : Int) :: g6 b4 (dU s) :: fnB b3 rb :: ob', ⟨x', k', _, ob', rfl, hR', by rw [hbz]; omega⟩, ?_⟩
  rw [hbz]
  exact hO9.past 1 (g6 b5 ((i + 1 : Nat) : Int) :: g6 b4 ((i + 1 : Nat) : Int) :: fnB b3 rb :: ob')
 refine x_bb 21 [] en (fun h21 => ?_) (fun h21 => ?_)
 rotate_left
 ·have hc : (z8 10 r).2.2 = false := by rw [← hsuf, hen]; exact h21
  refine x_fin [] (bLv b3 b4 b5 ++ [(28, .bool true)]) fun w8 f8 hO8 => ?_
  have hO8' := hO8.past 0 (kE B rr :: g6 b5 ((i + 1 : Nat) : Int) :: g6 b4 0 :: fnB b3 rb :: ob)
  clear hO8
  refine hrefuse w8 f8 x k ob hO8' hR ?_
  cases fu with
  | zero => exact absurd (List.eq_nil_of_length_eq_zero (Nat.le_zero.1 hfu)) hne
  | succ fu => rw [jF, if_neg hne, hc, if_neg Bool.false_ne_true]
 have hc : (z8 10 r).2.2 = true := by rw [← hsuf, hen]; exact h21
 have hln1 : (z8 10 r).1 = ln := by rw [← htrim hc, hln]
 have hrr1 : (z8 10 r).2.1 = rr := by rw [← hrr]; unfold lnR; rw [if_pos hc]
 obtain ⟨fu, rfl⟩ : ∃ f', fu = f' + 1 := ⟨fu - 1, by have := List.length_pos_iff.2 hne; omega⟩
 have hstep : jF (fu + 1) x.rt k i r = match xK x.rt k ln lays with
   | some (y, kk) => jF fu y kk (i + 1) rr
   | none => (((i + 1 : Nat) : Int), x.rt, k) := by
  rw [jF, if_neg hne, hc, if_pos rfl, hln1, hrr1]
  all_goals (cases xK x.rt k ln lays <;> rfl)
 refine xN (k := 43) (args := #[Zp rb 0, .string (mkS ln)]) (Rr := fun v ob' => ∃ b x' k', v = .bool b ∧ RdR rb k' x' ob' ∧ (match xK x.rt k ln lays with | some (y, kk) => b = true ∧ x'.rt = y ∧ k' = kk | none => b = false)) [3] (kE B rr :: g6 b5 ((i + 1 : Nat) : Int) :: g6 b4 0 :: fnB b3 rb :: ob) [kE B rr, g6 b5 ((i + 1 : Nat) : Int), g6 b4 0, fnB b3 rb] ob (fun w hO => hO) (fun w hO => (qTake_any rb k x ln ob w hR (Own.lentR hO) (by omega) (hF.few (by omega)) hI fun w' hw' => hK w' ?_).mono fun e w' ⟨b, x', k', ob', q1, q2, q3, q4⟩ => ⟨_, ob', q1, ⟨b, x', k', rfl, q2, q4⟩, q3⟩) fun v ob' ⟨b, x', k', q1, hR', hm⟩ => ?_
 ·exact (out_lend ((hM0 hO).sublist (List.sublist_append_right _ _)) hw')
 subst q1
 refine x_fin [] (bLv b3 b4 b5 ++ [(28, .bool (!b))]) fun w8 f8 hO8 => ?_
 have hO8' := hO8.past 0 (kE B rr :: g6 b5 ((i + 1 : Nat) : Int) :: g6 b4 0 :: fnB b3 rb :: ob')
 clear hO8
 cases ht : xK x.rt k ln lays with
 | none =>
  rw [ht] at hm hstep
  dsimp only at hm
  subst hm
  exact hrefuse w8 f8 x' k' ob' hO8' hR' (by rw [hstep])
 | some yk =>
  obtain ⟨y, kk⟩ := yk
  rw [ht] at hm hstep
  dsimp only at hm hstep
  obtain ⟨rfl, rfl, rfl⟩ := hm
  refine wpIn_cond_false (by rw [kN]; kernel_rfl) (wpIn_skip ⟨g6 b5 ((i + 1 : Nat) : Int) :: g6 b4 0 :: fnB b3 rb :: ob', ⟨x', k', i + 1, ob', fu, rfl, hR', (take_inv hI ht).1, take_few hF ht, by omega, by omega, ?_⟩, hO8'⟩)
  rw [← hstep]; exact hres
theorem one_round {P : Program} {n l m id : Nat} {f : Nat → Value} {o : Oper} {v : Value} {K : Act → World → Prop} {Q0 : Exit → Act → World → Prop} {w : World} (hw : zT #[o] n f o = true) (hn : noDef o = true) (hr : ∀ w, (execOp (ev n f) o).run P w = .ok (.value v) w) (h : K (Fr n (upd f o.dst v)) w) : (Code.region id #[o] false).wpIn (Fence.wide.inRound l) m P (Exit.then K Q0) (Fr n f) w := by
 refine wpIn_region_list ?_
 show wpListIn (Fence.wide.inRound l) m P #[o] (Exit.then K Q0) [o] (Fr n f) w
 unfold wpListIn
 rw [qQ, if_pos hw]
 refine ⟨fun _ _ => trivial, ?_⟩
 rw [Oper.semAt_eq _ _ _ (noDef_is hn), kN, hr, Oper.uponIn_value, vL]
 unfold wpListIn
 exact h
noncomputable abbrev qAs : Oper := (qRg 5).getD 0 default
noncomputable abbrev qSt : Oper := (qRg 10).getD 0 default
theorem qAssign_is : qRF.1 = .region 5 #[qAs] false := by kernel_rfl
theorem qStore_is : qRg 10 = #[qSt] := by kernel_rfl
theorem resA_nil (fu : Nat) (x : Rt) (k i : Nat) : jF fu x k i [] = (0, x, k) := by
 cases fu with
 | zero => rfl
 | succ f => rw [jF, if_pos rfl]
def aLv (b3 b4 b5 B : Nat) : List (Nat × Value) := [(3, .pointer (some ⟨b3, 0, none⟩)), (4, .pointer (some ⟨b4, 0, none⟩)), (5, .pointer (some ⟨b5, 0, none⟩)), (12, .func (.func 138) #[] #[.pointer (some ⟨B, 0, none⟩)])]
theorem qRefused_any (rb : Nat) (x : Rv) (s : List UInt8) (ob : List Blk) (W : World) (hR : RdR rb 0 x ob) (hO : Own (ob.map Blk.b) W W ob) (hx : x.rt = bP) (hs : s.length ≤ 4096) (hK : ∀ w, Own (ob.map Blk.b) W w [] → HasLib w ∧ LyAt w) : YC 41 #[.string (mkS s), tkV rb] W (RefB rb s ob W) := by
 obtain ⟨M, hM⟩ : ∃ M, ob.map Blk.b = M := ⟨_, rfl⟩
 rw [hM] at hO hK
 refine x_enterM hO Tryz.func41 (wK [] fun b3 => zV [] fun b4 => qH 10 [] s [] (fun h => ?_) (fun h => ?_))
 ·refine x_retM [0] 0 (YI 1) fun w hO => ⟨x, 0, ob, by rw [dU, if_pos h], hR, by rw [hM]; exact hO.past 2 ob, fun q => absurd h q⟩
 refine zV [] fun b5 => qP (R := fun v ob => ∃ B, v = .func (.func 138) #[] #[Zp B 0] ∧ ob = [kE B s]) [0] (fun w hO => qLines_any s w) ?_
 rintro v ob2 ⟨B, rfl, rfl⟩
 refine x_range [] (g := .tmp 12) (t := 13) qRF.1 qRF.2 (.seq (.region 10 (qRg 10) false) .ret) (aLv b3 b4 b5 B) (g6 b5 0 :: g6 b4 0 :: fnB b3 rb :: (ob ++ [kE B s])) fun w f hOw => ?_
 have hO0 : Own M W w (kE B s :: g6 b5 0 :: g6 b4 0 :: fnB b3 rb :: ob) := gW [] hOw fun p => by
  simp only [List.countP_append, List.countP_cons, List.countP_nil, List.cons_append, List.nil_append]; omega
 clear hOw
 have hb4 : ∀ {D : Nat} {z : Int} {w' : World} {L : List Blk}, Own M W w' L → g6 b4 z ∈ L → w'.heap[D]? = some (.deferred (some [])) → D ≠ b4 := fun hO hm hd e => by
  have := hO.held _ hm
  rw [show (g6 b4 _).b = b4 from rfl, ← e, hd] at this; cases this
 have hres4 : ev Tryz.f41.ntmps (jR f (aLv b3 b4 b5 B)) (.tmp 4) = .pointer (some ⟨b4, 0, none⟩) := by kernel_rfl
 refine wp_lines (B := B) (s := s) Kr (RefI rb b3 b4 b5 s) (RefX rb b3 b4 b5 s) (fun p => upd (upd (jR f (aLv b3 b4 b5 B)) (some 13) (.string (mkS p))) (some 6) (.string (mkS p))) (fun p l w K hk => ?_) (fun r L l Wr hne hrel hOw => ?_) ⟨x, 0, 0, ob, s.length, rfl, hR, by rw [hx]; exact inv_nil, by rw [hx]; exact ⟨Nat.le_refl _, Nat.le_refl _, Nat.le_refl _, fun n hn => by cases hn⟩, by omega, Nat.le_refl _, by rw [hx]⟩ hO0 (by omega) ?_ ?_
 ·have e : ({ tmps := (Fr Tryz.f41.ntmps (jR f (aLv b3 b4 b5 B))).tmps.setIfInBounds 13 (.string (mkS p)), defers := [] } : Act) = Fr Tryz.f41.ntmps (upd (jR f (aLv b3 b4 b5 B)) (some 13) (.string (mkS p))) := vL _ _ (some 13) _
  rw [e, qAssign_is]
  refine one_round (v := .string (mkS p)) Kr Kr (fun w => Kr) ?_
  rw [show qAs.dst = some 6 from by kernel_rfl]
  exact hk
 ·have := ref_body hs h hK (upd (jR f (aLv b3 b4 b5 B)) (some 13) (.string (mkS (lnH r)))) r L l Wr hne hrel hOw
  rw [← vC (bLv b3 b4 b5) (qG Kr)] at this
  exact this
 ·rintro D L w' hD ⟨x', k', i, ob', fu, rfl, hR', hI', hF', hi, hfu, hres⟩ hO' hdf
  rw [resA_nil] at hres
  have hb0 : dU s = 0 := by unfold dU; rw [if_neg h, ← hres]
  have hr0 : recA s = x'.rt := by unfold recA; rw [← hres]
  show (Code.seq (.region 10 (qRg 10) false) .ret).wp Tryz.prog (mkQ Tryz.prog Tryz.f41 (RefB rb s ob W)) _ w'
  refine wp_seq ?_
  rw [qStore_is]
  obtain ⟨ti, hti, _, hsz, _⟩ := int_made
  refine store_marks (i := 2) (off := 0) (g6 b4 0) (YI 0) (T := 3) (t := ti) (p := .tmp 4) (q := .const (YI 0)) Kr Kr Kr rfl hres4 Kr hti (by rw [hsz]; rfl) (by rw [hsz]; exact Nat.le_refl _) (fun u hu => by rw [List.mem_singleton.1 hu]; rfl) hO' fun w2 hO2 hk2 => ?_
  have hO2' := hO2.past 0 (kE B [] :: g6 b5 ((i : Nat) : Int) :: g6 b4 0 :: fnB b3 rb :: ob')
  clear hO2
  have hd2 : w2.heap[D]? = some (.deferred (some [])) := (hk2 D (hb4 (z := 0) hO' (List.mem_cons_of_mem _ (List.mem_cons_of_mem _ (List.mem_cons_self ..))) hdf)).trans hdf
  have hO3 := hO2'.turn hD hd2 rfl (.deferred none)
  refine wp_ret (leave_mark (v := YI 0) hd2 (results_cellB (ty := 3) (x := g6 b4 0) Kr hres4 (hO3.held (g6 b4 0) (List.mem_cons_of_mem _ (List.mem_cons_of_mem _ (List.mem_cons_self ..)))) Kr) ?_)
  exact ⟨x', k', ob', by rw [hb0], hR', by rw [hM]; exact hO3.past 4 ob', fun _ _ => ⟨hr0.symm, hF'.up Om⟩⟩
 ·rintro D L w' hD ⟨x', k', i, ob', rfl, hR', hbad⟩ hO' hdf
  have hO3 := hO'.turn hD hdf rfl (.deferred none)
  exact leave_mark (v := YI (dU s)) hdf (results_cellB (ty := 3) (x := g6 b4 (dU s)) Kr hres4 (hO3.held (g6 b4 (dU s)) (List.mem_cons_of_mem _ (List.mem_cons_self ..))) Kr) (⟨x', k', ob', rfl, hR', by rw [hM]; exact hO3.past 3 ob', fun _ q => absurd q hbad⟩)
end
section
structure BndN (n : Nt) : Prop where
 wh : n.wh.length ≤ 5000
 opt : n.opt.length ≤ 5000
 any : ∀ u ∈ n.any, u.name.length ≤ 5000 ∧ u.rng.length ≤ 5000 ∧ u.fs.length ≤ 5000 ∧ ∀ t ∈ u.fs, t.length ≤ 5000
structure nN (x : Rt) : Prop where
 name : x.name.length ≤ 5000
 pre : x.ver.pre.length ≤ 1000000
 bld : x.ver.build.length ≤ 1000000
 needs : ∀ n ∈ x.needs, BndN n
 bars : ∀ b ∈ x.bars, b.name.length ≤ 5000 ∧ b.rng.length ≤ 5000 ∧ b.wh.length ≤ 5000
 fts : ∀ f ∈ x.fts, f.name.length ≤ 5000 ∧ f.of.length ≤ 5000 ∧ ∀ t ∈ f.of, t.length ≤ 5000
theorem nU {α : Type} {f : α → α} {p : α → Prop} (hf : ∀ y, p y → p (f y)) {l : List α} (h : ∀ y ∈ l, p y) : ∀ y ∈ yM f l, p y := mD hf h
theorem add_bnd {x : Rt} (h : nN x) (kd : Nat) {ps : List (List UInt8)} (hp : ∀ p ∈ ps, p.length ≤ 4096) (hn : ps.length ≤ 5000) (hv : ∀ p : List UInt8, p.length ≤ 4096 → (wX p).pre.length ≤ 1000000 ∧ (wX p).build.length ≤ 1000000) : nN (fY x kd ps).1 := by
 have hg : ∀ i, (ps.getD i []).length ≤ 4096 := fun i => by
  rw [List.getD_eq_getElem?_getD]
  cases hi : ps[i]? with
  | none => exact Nat.zero_le _
  | some p => exact hp p (List.mem_of_getElem? hi)
 have hg' : ∀ i, (ps.getD i []).length ≤ 5000 := fun i => Nat.le_trans (hg i) (by decide)
 unfold fY
 split
 ·exact ⟨hg' 1, (hv _ (hg 2)).1, (hv _ (hg 2)).2, h.needs, h.bars, h.fts⟩
 ·refine ⟨h.name, h.pre, h.bld, fun n hn => ?_, h.bars, h.fts⟩
  rcases List.mem_append.1 hn with hn | hn
  ·exact h.needs n hn
  ·rw [List.mem_singleton.1 hn]; exact ⟨Nat.zero_le _, Nat.zero_le _, fun u hu => by cases hu⟩
 ·refine ⟨h.name, h.pre, h.bld, nU (f := fun n : Nt => { n with any := n.any ++ [anyW ps (ps.getD 4 [])] }) (fun n hn => ⟨hn.wh, hn.opt, fun u hu => ?_⟩) h.needs, h.bars, h.fts⟩
  rcases List.mem_append.1 hu with hu | hu
  ·exact hn.any u hu
  ·rw [List.mem_singleton.1 hu]
   unfold anyW
   refine ⟨hg' 1, hg' 4, ?_, ?_⟩
   ·show (if ps.getD 2 [] = [45] then ([] : List (List UInt8)) else zB 44 [] (ps.getD 2 [])).length ≤ 5000
    split
    ·exact Nat.zero_le _
    ·have := pV 44 (ps.getD 2 []); have := hg 2; omega
   ·show ∀ t ∈ (if ps.getD 2 [] = [45] then ([] : List (List UInt8)) else zB 44 [] (ps.getD 2 [])), t.length ≤ 5000
    split
    ·exact fun t ht => by cases ht
    ·exact fun t ht => by have := mZ 44 (ps.getD 2 []) [] t ht; have := hg 2; simp only [List.length_nil, Nat.zero_add] at *; omega
 ·exact ⟨h.name, h.pre, h.bld, nU (f := fun n : Nt => { n with wh := ps.getD 1 [] }) (fun n hn => ⟨hg' 1, hn.opt, hn.any⟩) h.needs, h.bars, h.fts⟩
 ·exact ⟨h.name, h.pre, h.bld, nU (f := fun n : Nt => { n with opt := ps.getD 1 [] }) (fun n hn => ⟨hn.wh, hg' 1, hn.any⟩) h.needs, h.bars, h.fts⟩
 ·refine ⟨h.name, h.pre, h.bld, h.needs, fun b hb => ?_, h.fts⟩
  rcases List.mem_append.1 hb with hb | hb
  ·exact h.bars b hb
  ·rw [List.mem_singleton.1 hb]; exact ⟨hg' 1, hg' 2, Nat.zero_le _⟩
 ·exact ⟨h.name, h.pre, h.bld, h.needs, nU (f := fun b : Bt => { b with wh := ps.getD 1 [] }) (p := fun b : Bt => b.name.length ≤ 5000 ∧ b.rng.length ≤ 5000 ∧ b.wh.length ≤ 5000) (fun b hb => ⟨hb.1, hb.2.1, hg' 1⟩) h.bars, h.fts⟩
 ·refine ⟨h.name, h.pre, h.bld, h.needs, h.bars, fun f hf => ?_⟩
  rcases List.mem_append.1 hf with hf | hf
  ·exact h.fts f hf
  ·rw [List.mem_singleton.1 hf]
   exact ⟨hg' 1, by show (ps.drop 2).length ≤ 5000; rw [List.length_drop]; omega, fun t ht => Nat.le_trans (hp t (List.mem_of_mem_drop ht)) (by decide)⟩
 ·exact h
theorem bnd_nil : nN bP := ⟨Nat.zero_le _, (by decide), (by decide), (fun n h => by cases h), (fun n h => by cases h), (fun n h => by cases h)⟩
theorem mM (c : UInt8) (s : List UInt8) : (z8 c s).1.length ≤ s.length ∧ (z8 c s).2.1.length ≤ s.length := by
 have h := wP c s
 constructor
 ·omega
 ·cases hq : (z8 c s).2.2 with
  | true => rw [hq, if_pos rfl] at h; omega
  | false =>
   have : ∀ s : List UInt8, (z8 c s).2.2 = false → (z8 c s).2.1 = [] := fun s => by
    induction s with
    | nil => intro _; rfl
    | cons b r ih =>
     unfold z8
     split
     ·intro h; cases h
     ·exact ih
   rw [this s hq]; exact Nat.zero_le _
theorem parV_len (s : List UInt8) : (wX s).pre.length ≤ s.length ∧ (wX s).build.length ≤ s.length := by
 have h1 := mM 43 s
 have h2 := mM 45 (z8 43 s).1
 unfold wX mQ
 dsimp only
 split
 ·exact ⟨Nat.zero_le _, Nat.zero_le _⟩
 ·split
  ·exact ⟨Nat.zero_le _, Nat.zero_le _⟩
  ·split
   ·exact ⟨Nat.le_trans h2.2 h1.1, h1.2⟩
   ·exact ⟨Nat.zero_le _, Nat.zero_le _⟩
theorem pcs_le (b : UInt8) : ∀ (k : Nat) (s : List UInt8), ∀ x ∈ wW b k s, x.length ≤ s.length
 | 0, s => fun x hx => by rw [wW, List.mem_singleton] at hx; rw [hx]; exact Nat.le_refl _
 | k + 1, s => fun x hx => by
  have hc := mM b s
  unfold wW at hx
  split at hx
  ·rcases List.mem_cons.1 hx with rfl | hx
   ·exact hc.1
   ·exact Nat.le_trans (pcs_le b k _ x hx) hc.2
  ·rw [List.mem_singleton.1 hx]; exact Nat.le_refl _
theorem take_kind {x y : Rt} {k kk : Nat} {s : List UInt8} : ∀ {L : List La}, (∀ l ∈ L, 1 ≤ l.kind) → xK x k s L = some (y, kk) → 1 ≤ kk
 | [], _, e => by cases e
 | l :: r, hL, e => by
  rw [xK] at e
  split at e
  ·split at e
   ·simp only [Option.some.injEq, Prod.mk.injEq] at e
    rw [← e.2]; exact hL l (List.mem_cons_self ..)
   ·cases e
  ·exact take_kind (fun l hl => hL l (List.mem_cons_of_mem _ hl)) e
theorem lays_kind : ∀ l ∈ lays, 1 ≤ l.kind := by decide
theorem resA_kind : ∀ (f : Nat) (x : Rt) (k i : Nat) (r : List UInt8), (jF f x k i r).1 = 0 → r.length ≤ f → (1 ≤ k ∨ r ≠ []) → 1 ≤ (jF f x k i r).2.2
 | 0, x, k, i, r, _, hr, h => by
  rcases h with h | h
  ·exact h
  ·exact absurd (List.eq_nil_of_length_eq_zero (Nat.le_zero.1 hr)) h
 | f + 1, x, k, i, r, h0, hr, h => by
  rw [jF] at h0 ⊢
  by_cases hn : r = []
  ·rw [if_pos hn]
   rcases h with h | h
   ·exact h
   ·exact absurd hn h
  ·rw [if_neg hn] at h0 ⊢
   have hl := wP 10 r
   cases hq : (z8 10 r).2.2 with
   | false => rw [hq, if_neg Bool.false_ne_true] at h0; exact absurd h0 (by show ((i + 1 : Nat) : Int) ≠ 0; omega)
   | true =>
    rw [hq, if_pos rfl] at h0 hl
    rw [if_pos rfl]
    cases ht : xK x k (z8 10 r).1 lays with
    | none => rw [ht] at h0; exact absurd h0 (by show ((i + 1 : Nat) : Int) ≠ 0; omega)
    | some yk =>
     obtain ⟨y, kk⟩ := yk
     rw [ht] at h0
     exact resA_kind f y kk (i + 1) _ h0 Om (.inl (take_kind lays_kind ht))
theorem lays_few : ∀ l ∈ lays, l.opn = true → l.parts ≤ 5 := by decide
theorem take_bnd {x y : Rt} {k kk : Nat} {s : List UInt8} (h : nN x) (hs : s.length ≤ 4096) : ∀ {L : List La}, (∀ l ∈ L, l.opn = true → l.parts ≤ 5) → xK x k s L = some (y, kk) → nN y
 | [], _, e => by cases e
 | l :: r, hL, e => by
  rw [xK] at e
  split at e
  ·split at e
   ·simp only [Option.some.injEq, Prod.mk.injEq] at e
    rw [← e.1]
    refine add_bnd h _ (fun p hp => ?_) ?_ fun p hp => ?_
    ·unfold x7 at hp
     split at hp
     ·exact Nat.le_trans (pcs_le _ _ _ p hp) hs
     ·have := mZ 32 s [] p hp; simp only [List.length_nil, Nat.zero_add] at this; omega
    ·unfold x7
     split
     ·rename_i ho
      have := (dC 32 (l.parts - 1) s).2; have := hL l (List.mem_cons_self ..) ho; omega
     ·have := pV 32 s; omega
    ·have := parV_len p; omega
   ·cases e
  ·exact take_bnd h hs (fun l hl => hL l (List.mem_cons_of_mem _ hl)) e
theorem resA_bnd : ∀ (f : Nat) (x : Rt) (k i : Nat) (r : List UInt8), nN x → r.length ≤ 4096 → nN (jF f x k i r).2.1
 | 0, x, k, i, r, h, _ => h
 | f + 1, x, k, i, r, h, hr => by
  have hc := mM 10 r
  rw [jF]
  split
  ·exact h
  ·split
   ·split
    ·rename_i y kk ht
     exact resA_bnd f y kk (i + 1) _ (take_bnd h Om lays_few ht) Om
    ·exact h
   ·exact h
theorem resA_ge : ∀ (f : Nat) (x : Rt) (k i : Nat) (r : List UInt8), 0 ≤ (jF f x k i r).1
 | 0, x, k, i, r => Int.le_refl _
 | f + 1, x, k, i, r => by
  rw [jF]
  split
  ·exact Int.le_refl _
  ·split
   ·split
    ·exact resA_ge f _ _ _ _
    ·exact Int.natCast_nonneg _
   ·exact Int.natCast_nonneg _
theorem recA_bnd {s : List UInt8} (hs : s.length ≤ 4096) : nN (recA s) := resA_bnd _ _ _ _ _ bnd_nil hs
theorem resA_few : ∀ (f : Nat) (x : Rt) (k i : Nat) (r : List UInt8), FewR x i → i + r.length ≤ 4096 → FewR (jF f x k i r).2.1 4096
 | 0, x, k, i, r, h, hr => h.up Om
 | f + 1, x, k, i, r, h, hr => by
  have hl := wP 10 r
  rw [jF]
  split
  ·exact h.up Om
  ·split
   ·rename_i hq
    rw [if_pos hq] at hl
    split
    ·rename_i y kk ht
     exact resA_few f y kk (i + 1) _ (take_few h ht) Om
    ·exact h.up Om
   ·exact h.up Om
theorem recA_few {s : List UInt8} (hs : s.length ≤ 4096) : FewR (recA s) 4096 := resA_few _ _ _ _ _ ⟨Nat.le_refl _, Nat.le_refl _, Nat.le_refl _, (fun n h => by cases h)⟩ Om
theorem parse_is {s : List UInt8} (hs : s.length ≤ 4096) : vX s = if dU s ≠ 0 then (bP, 2, dU s) else if (yL (recA s)).1 ≠ 0 then (bP, (yL (recA s)).1, 0) else (recA s, 0, 0) := by
 unfold vX
 rw [if_neg Om]
 by_cases h : s = []
 ·subst h; rfl
 have hr := resA_read s.length bP 0 0 s inv_nil (Nat.le_refl _)
 dsimp only at hr
 have hb : dU s = (jF s.length bP 0 0 s).1 := by unfold dU; rw [if_neg h]
 have e0 : stg 0 = 0 := rfl
 rw [e0] at hr
 by_cases hz : dU s = 0
 ·obtain ⟨q1, q2, q3⟩ := hr.1 (hb ▸ hz)
  rw [if_neg (fun q => q hz)]
  rw [q2]
  dsimp only
  rw [if_pos q3]
  unfold doneS
  dsimp only
  have hk : (jF s.length bP 0 0 s).2.2 ≠ 0 := by
   have := resA_kind s.length bP 0 0 s (hb ▸ hz) (Nat.le_refl _) (.inr h); omega
  rw [if_neg (fun q => hk ((stg_zero q1.le).1 q))]
  rfl
 ·rw [if_pos hz]
  rcases hr.2 (hb ▸ hz) with ⟨q1, q2⟩ | ⟨⟨y, q1⟩, q2, q3⟩
  ·rw [q1]; dsimp only; rw [← q2, hb]
  ·rw [q1]; dsimp only; rw [if_neg q2, hb, q3]; simp
theorem read_bnd {s : List UInt8} (hs : s.length ≤ 4096) (h : (vX s).2.1 = 0) : nN (vX s).1 ∧ FewR (vX s).1 4096 := by
 rw [parse_is hs] at h ⊢
 split at h
 ·exact absurd h (by show (2 : Int) ≠ 0; decide)
 ·split at h
  ·rename_i q; exact absurd h q
  ·rename_i q1 q2
   rw [if_neg q1, if_neg q2]; exact ⟨recA_bnd hs, recA_few hs⟩
end
section
set_option linter.unnecessarySimpa false
theorem RdQ.nso {x : Rv} {o1 oa og oi o4 o7 o8 : List Blk} (h : RdQ x o1 oa og oi o4 o7 o8) : NsO x.nA x.nc x.needs o1 (oi ++ (oa ++ og)) := by
 refine ⟨h.needs.top, fun y hy => ?_⟩
 rcases h.needs.split with ⟨e, _⟩ | ⟨ini, n, e, hi, hw, hf⟩
 ·rw [e] at hy; cases hy
 ·rw [e] at hy
  rcases List.mem_append.1 hy with hy | hy
  ·obtain ⟨o, q1, q2⟩ := hi y hy
   exact ⟨o, q1, fun b hb => List.mem_append_left _ (q2 b hb)⟩
  ·rw [List.mem_singleton.1 hy]
   exact ⟨oa ++ og, ⟨oa, og, rfl, hw, hf⟩, fun b hb => List.mem_append_right _ hb⟩
theorem rec_inn {x : Rv} {o1 o2 o4 o7 o8 L : List Blk} {M : List Nat} {W w : World} (h1 : NsO x.nA x.nc x.needs o1 o2) (h4 : Sl 54 3 (.slice x.bA x.bars.length x.bc) x.bars.length (x.bars.flatMap bvC) o4) (h7 : FtO x.fA x.fc x.fts o7 o8) (hO : Own M W w L) (s1 : ∀ b ∈ o1, b ∈ L) (s2 : ∀ b ∈ o2, b ∈ L) (s4 : ∀ b ∈ o4, b ∈ L) (s7 : ∀ b ∈ o7, b ∈ L) (s8 : ∀ b ∈ o8, b ∈ L) (hB : nN x.rt) (hF : FewR x.rt 4096) : RcIn w w.heap.size x := by
 obtain ⟨r1, r2⟩ := h1.reads hO s1 s2
 have hN : ∀ n ∈ x.needs, BndN n.nt := fun n hn => hB.needs n.nt (List.mem_map.2 ⟨n, hn, rfl⟩)
 have hA : ∀ n ∈ x.needs, ∀ u ∈ n.any, u.name.length ≤ 5000 ∧ u.rng.length ≤ 5000 ∧ u.fs.length ≤ 5000 ∧ ∀ t ∈ u.fs, t.length ≤ 5000 := fun n hn u hu => (hN n hn).any u.wt (List.mem_map.2 ⟨u, hu, rfl⟩)
 have hBr : ∀ b ∈ x.bars, b.name.length ≤ 5000 ∧ b.rng.length ≤ 5000 ∧ b.wh.length ≤ 5000 := fun b hb => hB.bars b.bt (List.mem_map.2 ⟨b, hb, rfl⟩)
 have hFt : ∀ f ∈ x.fts, f.name.length ≤ 5000 ∧ f.of.length ≤ 5000 ∧ ∀ t ∈ f.of, t.length ≤ 5000 := fun f hf => hB.fts f.ft (List.mem_map.2 ⟨f, hf, rfl⟩)
 have l1 : x.needs.length ≤ 4096 := by have := hF.n; unfold Rv.rt at this; simpa using this
 have l2 : x.bars.length ≤ 4096 := by have := hF.b; unfold Rv.rt at this; simpa using this
 have l3 : x.fts.length ≤ 4096 := by have := hF.f; simp only [Rv.rt, kA] at this; simpa using this
 refine ⟨r1, r2, fun n hn u hu => ?_, Sl.reads h4 rfl hO s4, ⟨Sl.reads h7.top rfl hO s7, fun f hf => ?_, by omega, fun f hf => (hFt f hf).2.1, fun f hf => by have := (hFt f hf).1; omega, fun f hf t ht => by have := (hFt f hf).2.2 t ht; omega⟩, by omega, fun n hn => ?_, fun n hn u hu => (hA n hn u hu).2.2.1, by omega, ⟨by have := hB.name; show x.name.length ≤ _; exact Nat.le_trans this (by decide), hB.pre, hB.bld⟩, fun n hn => ⟨Nat.le_trans (hN n hn).wh (by decide), Nat.le_trans (hN n hn).opt (by decide)⟩, fun n hn u hu => ⟨by have := (hA n hn u hu).1; omega, by have := (hA n hn u hu).2.1; omega, fun t ht => by have := (hA n hn u hu).2.2.2 t ht; omega⟩, fun b hb => by have := hBr b hb; exact ⟨by omega, by omega, by omega⟩⟩
 ·obtain ⟨o, ⟨⟨p1, p2, rfl, hp, he⟩⟩, ho⟩ := h1.each n hn
  obtain ⟨o', q1, q2⟩ := he u hu
  exact SlT.reads q1 rfl hO fun b hb => s2 b (ho b (List.mem_append_right _ (q2 b hb)))
 ·obtain ⟨o, ho, hs⟩ := h7.each f hf
  exact SlT.reads ho rfl hO fun b hb => s8 b (hs b hb)
 ·have := hF.a n.nt (List.mem_map.2 ⟨n, hn, rfl⟩)
  unfold Nv.nt at this
  simp only [List.length_map] at this
  omega
theorem fin_cell3 {M : List Nat} {P : Program} {n : Nat} {W : World} {L : List Blk} {f : Nat → Value} {fn : Func} {R : Ending → World → Prop} {p u t : Tmp} {ty : TypeId} (i : Nat) (x : Blk) (v v' v2 : Value) (hres : fn.results = #[.cell p ty, .tmp u, .tmp t]) (hL : L[i]? = some x) (hp : ev n f (.tmp p) = .pointer (some ⟨x.b, 0, none⟩)) (hv : yO P ty x.cs 0 = some v) (hv' : ev n f (.tmp u) = v') (hv2 : ev n f (.tmp t) = v2)
  (hR : ∀ w, Own M W w L → R (.returned (.tuple #[v, v', v2])) w) : Fin M n W (bodyPost P fn R) .ret L f := ⟨fun w hO => by
 refine bodyPost_ret (v := .tuple #[v, v', v2]) ?_ rfl (hR w hO)
 have e : (Fr n f).tmps.getD p undef = .pointer (some ⟨x.b, 0, none⟩) := (kM n f p).trans hp
 have hr := yY hv (hO.get hL)
 have e' : (Fr n f).tmps[p]?.getD undef = .pointer (some ⟨x.b, 0, none⟩) := by simpa using e
 have e2 : (Fr n f).tmps.getD u undef = v' := (kM n f u).trans hv'
 have e2' : (Fr n f).tmps[u]?.getD undef = v' := by simpa using e2
 have e3 : (Fr n f).tmps.getD t undef = v2 := (kM n f t).trans hv2
 have e3' : (Fr n f).tmps[t]?.getD undef = v2 := by simpa using e3
 simp [results, hres, e', e2', e3', asAddr, hr]⟩
section
variable {M : List Nat} {P : Program} {n : Nat} {W : World} {Q : Exit → Act → World → Prop} {c : Xc}
theorem x_retc3 {fn : Func} {R : Ending → World → Prop} (h : List Nat) (i : Nat) (v v' v2 : Value) (hR : ∀ w, Own M W w (xgo P n nS h c).L → R (.returned (.tuple #[v, v', v2])) w) (hkt : (xgl P n nS h c, ((xgo P n nS h c).top, (xgo P n nS h c).k, fn.results, (xgo P n nS h c).L[i]?, ev n (xgo P n nS h c).f (.tmp (xRt fn 0)), yO P (xRy fn 0) (jB (xgo P n nS h c).L i).cs 0, ev n (xgo P n nS h c).f (.tmp (xRt fn 1)), ev n (xgo P n nS h c).f (.tmp (xRt fn 2)))) = (xgr P n nS h c, (.fin .ret, [], #[.cell (xRt fn 0) (xRy fn 0), .tmp (xRt fn 1), .tmp (xRt fn 2)], some (jB (xgo P n nS h c).L i), .pointer (some ⟨(jB (xgo P n nS h c).L i).b, 0, none⟩), some v, v', v2)) := by kernel_rfl) : zI M P n W (bodyPost P fn R) c := by
 obtain ⟨hk, ht⟩ := Prod.mk.inj hkt
 refine zP h c hk ?_
 generalize xgo P n nS h c = d at hR ht ⊢
 obtain ⟨top, kk, L, f⟩ := d
 simp only [Prod.mk.injEq] at ht
 obtain ⟨rfl, rfl, e3, e4, e5, e6, e7, e8⟩ := ht
 exact ⟨fun _ => fin_cell3 i _ v v' v2 e3 e4 e5 e6 e7 e8 hR⟩
end
structure ParB (s : List UInt8) (W : World) (e : Ending) (w' : World) : Prop where
 ex : ∃ x ob', e = .returned (.tuple #[rvV x, YI (vX s).2.1, YI (vX s).2.2]) ∧ x.rt = (vX s).1 ∧ RecO x ob' ∧ nN x.rt ∧ FewR x.rt 4096 ∧ Own [] W w' ob'
def rv0 : Rv := ⟨[], 0, 0, 0, [], [], none, 0, [], none, 0, [], none, 0, []⟩
theorem rv0_rt : rv0.rt = bP := rfl
theorem rec0 : RecO rv0 [] := ⟨⟨[], [], [], [], [], rfl, NsO.nil, Sl.nil _ _, FtO.nil⟩⟩
theorem few0 : FewR bP 4096 := ⟨Nat.zero_le _, Nat.zero_le _, Nat.zero_le _, (fun n h => by cases h)⟩
theorem par0 {s : List UInt8} {W w : World} {z k : Int} (h : vX s = (bP, z, k)) (hO : Own [] W w []) : ParB s W (.returned (.tuple #[rvV rv0, YI z, YI k])) w :=
 ⟨rv0, [], by rw [h], by rw [h, rv0_rt], rec0, by rw [rv0_rt]; exact bnd_nil, by rw [rv0_rt]; exact few0, hO⟩
theorem rdq0 : RdQ rv0 [] [] [] [] [] [] [] := ⟨⟨Sl.nil _ _, .inl ⟨rfl, rfl, rfl⟩⟩, Sl.nil _ _, FtO.nil⟩
theorem qParse_any (s : List UInt8) (W : World) (hs : s.length ≤ 1000000) (hK : RecLib W) (hL : LyAt W) : YC 20 #[.string (mkS s)] W (ParB s W) := by
 refine zQ Tryz.func20 (zV [] fun b2 => y8 11 [] ((s.length : Int) > 4096) (fun h11 => ?_) (fun h11 => ?_))
 ·refine x_retc3 [0] 0 (rvV rv0) (YI 3) (YI 0) fun w hO => par0 ?_ hO.no
  unfold vX; rw [if_pos Om]
 have hs4 : s.length ≤ 4096 := by omega
 have hread := parse_is hs4
 have hcl : ∀ w, YC 42 #[.string (mkS s)] w (YR (.string (mkS s)) w) := fun w => wG s w Om
 refine zV [] fun b5 => zE (v := .string (mkS s)) [] (fun w hO => hcl w) (x_val 15 [] (tkV b5) (fun w => Kr) ?_)
 refine xN (k := 41) (args := #[.string (mkS s), tkV b5]) (Rr := fun v ob' => ∃ x' k', v = YI (dU s) ∧ RdR b5 k' x' ob' ∧ (s ≠ [] → dU s = 0 → x'.rt = recA s ∧ FewR x'.rt 4096)) [] (rdB rv0 0 b5 :: [rcB rv0 b2]) [rcB rv0 b2] [rdB rv0 0 b5] (fun w hO => hO.swap) (fun w hO => ?_) fun v ob' ⟨x', k', q1, hR', hx⟩ => ?_
 ·have hb5 : ∀ k ∈ [rdB rv0 0 b5].map Blk.b, W.heap.size ≤ k := fun k hk => by
   have h5 := hO.base (rdB rv0 0 b5) (by simp)
   rcases h5 with h5 | h5
   ·rw [List.map_singleton, List.mem_singleton] at hk; rw [hk]; exact h5
   ·cases h5
  refine (qRefused_any b5 rv0 s [rdB rv0 0 b5] w ⟨[], [], [], [], [], [], [], rfl, rdq0⟩ (Own.lentR hO) rv0_rt hs4 fun w' hw' => ?_).mono fun e w' ⟨x', k', ob', q1, q2, q3, q4⟩ => ⟨_, ob', q1, ⟨x', k', rfl, q2, q4⟩, q3⟩
  have hb : Below W.heap.size W w' := hO.below.trans (hw'.belowB hb5 hO.below.size)
  exact ⟨hK.lib.on hb, hL.on hb⟩
 subst q1
 refine y8 18 [] (dU s > 0) (fun h18 => ?_) (fun h18 => ?_)
 ·refine x_retc3 [0] 0 (rvV rv0) (YI 2) (YI (dU s)) fun w hO => par0 ?_ hO.no
  rw [hread, if_pos Om]
 have hge : 0 ≤ dU s := by
  unfold dU
  split
  ·omega
  ·exact resA_ge _ _ _ _ _
 have hz : dU s = 0 := by omega
 have hne : s ≠ [] := fun e => by rw [e] at hz; exact absurd hz (by decide)
 obtain ⟨hrt, hF⟩ := hx hne hz
 have hB : nN x'.rt := hrt ▸ recA_bnd hs4
 rw [if_neg (fun q => q hz), ← hrt] at hread
 obtain ⟨o1, oa, og, oi, o4, o7, o8, rfl, hQ⟩ := hR'
 obtain ⟨T, hT⟩ : ∃ T, o1 ++ zY oa og oi o4 o7 o8 = T := ⟨_, rfl⟩
 have sub : ∀ b, (b ∈ o1 ∨ b ∈ oi ++ (oa ++ og) ∨ b ∈ o4 ∨ b ∈ o7 ∨ b ∈ o8) → b ∈ T := fun b hb => by
  rw [← hT]; unfold zY; simp only [List.mem_append] at hb ⊢; grind
 rw [hT]
 obtain ⟨c, hc⟩ : ∃ c, yL x'.rt = c := ⟨_, rfl⟩
 have hck : ∀ w, Own [] W w T → YC 14 #[rvV x'] w (YR (.tuple #[YI c.1, YI c.2]) w) := fun w hO => hc ▸ qCheck_any x' w (rec_inn hQ.nso hQ.bars hQ.fts hO (fun b hb => sub b (.inl hb)) (fun b hb => sub b (.inr (.inl hb))) (fun b hb => sub b (.inr (.inr (.inl hb)))) (fun b hb => sub b (.inr (.inr (.inr (.inl hb))))) (fun b hb => sub b (.inr (.inr (.inr (.inr hb))))) hB hF) (hK.on hO.below)
 rw [hc] at hread
 refine zE (v := .tuple #[YI c.1, YI c.2]) [1] (fun w hO => hck w (hO.past 2 T)) (x_bn 28 [] (c.1 = 0) (fun h28 => ?_) (fun h28 => ?_))
 ·refine x_retc3 [1, 0] 0 (rvV x') (YI 0) (YI 0) fun w hO => ?_
  rw [if_neg (fun q => q h28)] at hread
  refine ⟨x', o4 ++ (o1 ++ (oi ++ (oa ++ og))) ++ (o7 ++ o8), by rw [hread], by rw [hread], ⟨⟨o1, _, o4, o7, o8, rfl, hQ.nso, hQ.bars, hQ.fts⟩⟩, hB, hF, gW [] (hO.past 2 T) fun p => ?_⟩
  rw [← hT]
  simp only [zY, List.countP_append, List.countP_cons, List.countP_nil, List.cons_append, List.nil_append]; omega
 ·refine x_retc3 [0] 0 (rvV rv0) (YI c.1) (YI 0) fun w hO => par0 ?_ hO.no
  rw [hread, if_pos h28]
end
section
set_option linter.unnecessarySimpa false
section
variable {M : List Nat} {n : Nat} {W : World} {Q : Exit → Act → World → Prop} {c : Xc}
end
end
section
set_option linter.unnecessarySimpa false
section
variable {M : List Nat} {n : Nat} {W : World} {Q : Exit → Act → World → Prop} {c : Xc}
end
def stV (s : List UInt8) : Value := .string (mkS s)
end
section
set_option linter.unnecessarySimpa false
theorem RecO.inn {x : Rv} {ob L : List Blk} {M : List Nat} {W w : World} (h : RecO x ob) (hO : Own M W w L) (hs : ∀ b ∈ ob, b ∈ L) (hB : nN x.rt) (hF : FewR x.rt 4096) : RcIn w w.heap.size x := by
 obtain ⟨o1, o2, o4, o7, o8, rfl, h1, h4, h7⟩ := h
 exact rec_inn h1 h4 h7 hO (fun b hb => hs b (by simp [hb])) (fun b hb => hs b (by simp [hb])) (fun b hb => hs b (by simp [hb])) (fun b hb => hs b (by simp [hb])) (fun b hb => hs b (by simp [hb])) hB hF
def ParV (s : List UInt8) (v : Value) (ob : List Blk) : Prop := ∃ x, v = .tuple #[rvV x, YI (vX s).2.1, YI (vX s).2.2] ∧ x.rt = (vX s).1 ∧ RecO x ob ∧ nN x.rt ∧ FewR x.rt 4096
theorem parse_call (s : List UInt8) (W : World) (hs : s.length ≤ 1000000) (hK : RecLib W) (hL : LyAt W) : YC 20 #[.string (mkS s)] W fun e w' => ∃ v ob, e = .returned v ∧ ParV s v ob ∧ Own [] W w' ob :=
 (qParse_any s W hs hK hL).mono fun e w' ⟨⟨x, ob, q1, q2, q3, q4, q5, q6⟩⟩ => ⟨_, ob, q1, ⟨x, rfl, q2, q3, q4, q5⟩, q6⟩
def awS1 : List UInt8 := [112, 97, 99, 107, 97, 103, 101, 32, 97, 112, 112, 32, 49, 46, 48, 46, 48, 10, 110, 101, 101, 100, 10, 97, 110, 121, 32, 98, 32, 120, 32, 102, 117, 108, 108, 32, 94, 49, 10, 119, 104, 101, 110, 32, 111, 115, 32, 61, 32, 120, 10, 98, 97, 114, 32, 99, 32, 42, 10, 102, 101, 97, 116, 117, 114, 101, 32, 121, 32, 98, 47, 122, 10]
def awS2 : List UInt8 := [112, 97, 99, 107, 97, 103, 101, 32, 97, 112, 112, 32, 49, 46, 48, 46, 48, 10, 97, 110, 121, 32, 98, 32, 45, 32, 102, 117, 108, 108, 32, 42, 10]
theorem aw1 : (vX awS1).2 = (0, 0) ∧ (vX awS1).1.needs.length = 1 ∧ (vX awS1).1.bars.length = 1 ∧ (yL (vX awS1).1).1 = 0 ∧ (yK (vX awS1).1).length = 73 := by decide +kernel
theorem aw2 : (vX awS2).2 = (2, 2) := by decide +kernel
theorem awake12_any (W : World) (hK : RecLib W) (hL : LyAt W) : YC 13 #[] W (YR (.bool true) W) := by
 obtain ⟨a1, a2, a3, a4, a5⟩ := aw1
 have c1 : ∀ w, Below W.heap.size W w → YC 20 #[.string (mkS awS1)] w fun e w' => ∃ v ob, e = .returned v ∧ (∃ x, v = .tuple #[rvV x, YI 0, YI 0] ∧ x.rt = (vX awS1).1 ∧ RecO x ob ∧ nN x.rt ∧ FewR x.rt 4096) ∧ Own [] w w' ob := fun w hb => by
  refine (parse_call awS1 w (by decide) (hK.on hb) (hL.on hb)).mono fun e w' ⟨v, ob, q1, ⟨x, q2, q3⟩, q4⟩ => ⟨v, ob, q1, ⟨x, ?_, q3⟩, q4⟩
  rw [q2, a1]
 have c2 : ∀ w, Below W.heap.size W w → YC 20 #[.string (mkS awS2)] w fun e w' => ∃ v ob, e = .returned v ∧ (∃ x, v = .tuple #[rvV x, YI 2, YI 2]) ∧ Own [] w w' ob := fun w hb => by
  refine (parse_call awS2 w (by decide) (hK.on hb) (hL.on hb)).mono fun e w' ⟨v, ob, q1, ⟨x, q2, q3⟩, q4⟩ => ⟨v, ob, q1, ⟨x, ?_⟩, q4⟩
  rw [q2, aw2]
 refine zQ Tryz.func13 (qP (R := fun v ob => ∃ x, v = .tuple #[rvV x, YI 0, YI 0] ∧ x.rt = (vX awS1).1 ∧ RecO x ob ∧ nN x.rt ∧ FewR x.rt 4096) [] (fun w hO => c1 w hO.below) ?_)
 rintro v ob ⟨x, rfl, hx, hR, hB, hF⟩
 have hp : ∀ w, Own [] W w ob → YC 16 #[rvV x] w (YR (.tuple #[.string (mkS (yK x.rt)), YI 0]) w) := fun w hO => by
  have := fN x w (hR.inn hO (fun b hb => hb) hB hF) (hK.on hO.below)
  have h0 : (yL x.rt).1 = 0 := by rw [hx]; exact a4
  rw [mP, h0, if_pos rfl] at this
  exact this
 have hn : x.needs.length = 1 := by
  have : x.rt.needs.length = 1 := by rw [hx]; exact a2
  simpa [Rv.rt] using this
 have hbr : x.bars.length = 1 := by
  have : x.rt.bars.length = 1 := by rw [hx]; exact a3
  simpa [Rv.rt] using this
 have hl : (yK x.rt).length = 73 := by rw [hx]; exact a5
 refine zV [] fun b1 => zE (v := .tuple #[.string (mkS (yK x.rt)), YI 0]) [0, 0] (fun w hO => hp w (hO.past 1 ob)) (qP (R := fun v ob => ∃ x, v = .tuple #[rvV x, YI 2, YI 2]) [] (fun w hO => c2 w hO.below) ?_)
 rintro v2 ob2 ⟨y, rfl⟩
 refine zV [] fun b6 => y8 38 [0, 1] ((x.needs.length : Int) = 1) (fun _ => y8 44 [1] ((x.bars.length : Int) = 1) (fun _ => y8 49 [] (((yK x.rt).length : Int) = 73) (fun _ => ?_) (fun h => absurd (by rw [hl]; rfl) h)) (fun h => absurd (by rw [hbr]; rfl) h)) (fun h => absurd (by rw [hn]; rfl) h)
 exact zF [] Z4 fun w hO => ⟨rfl, hO.below⟩
end
section
theorem nmF_word : ∀ j, j < 4 → wdL (nmF j) = true ∧ (zX (nmF j)).1 = 1 ∧ (zX (nmF j)).2.1 = nmF j
 | 0, _ => ⟨by kernel_rfl, by kernel_rfl, by kernel_rfl⟩
 | 1, _ => ⟨by kernel_rfl, by kernel_rfl, by kernel_rfl⟩
 | 2, _ => ⟨by kernel_rfl, by kernel_rfl, by kernel_rfl⟩
 | 3, _ => ⟨by kernel_rfl, by kernel_rfl, by kernel_rfl⟩
theorem opt_kind : ∀ j, j < 4 → (zX ([63] ++ qI j)).1 = 2
 | 0, _ => by kernel_rfl
 | 1, _ => by kernel_rfl
 | 2, _ => by kernel_rfl
 | 3, _ => by kernel_rfl
theorem pull_kind : ∀ j, j < 5 → (zX (yP j ++ [47] ++ [120])).1 = 3
 | 0, _ => by kernel_rfl
 | 1, _ => by kernel_rfl
 | 2, _ => by kernel_rfl
 | 3, _ => by kernel_rfl
 | 4, _ => by kernel_rfl
def four (a b c d : Bool) : List (List UInt8) := (if a then [nmF 0] else []) ++ ((if b then [nmF 1] else []) ++ ((if c then [nmF 2] else []) ++ if d then [nmF 3] else []))
theorem rise_16 : ∀ a b c d, kZ (four a b c d) = true := by decide
theorem rise_four (keep : Nat → Bool) : kZ (((List.range 4).filter keep).map nmF) = true := by
 have e : List.range 4 = [0, 1, 2, 3] := rfl
 have h := rise_16 (keep 0) (keep 1) (keep 2) (keep 3)
 rw [e]
 unfold four at h
 cases h0 : keep 0 <;> cases h1 : keep 1 <;> cases h2 : keep 2 <;> cases h3 : keep 3 <;> simp only [h0, h1, h2, h3] at h <;> simpa [List.filter, h0, h1, h2, h3] using h
theorem feats_may {own : Nat} {keep : Nat → Bool} {x : Rv} (h : RecG own keep x) : fT (kA x.fts) = true := by
 have hn : (kA x.fts).map Ft.name = ((List.range 4).filter keep).map nmF := by
  rw [← h.fts.names]; unfold kA; rw [List.map_map]; rfl
 have hin : ∀ f ∈ kA x.fts, ∃ j, j < 4 ∧ f.name = nmF j := fun f hf => by
  have : f.name ∈ (kA x.fts).map Ft.name := List.mem_map_of_mem hf
  rw [hn] at this
  obtain ⟨j, hj, e⟩ := List.mem_map.1 this
  exact ⟨j, List.mem_range.1 (List.mem_filter.1 hj).1, e.symm⟩
 have his : ∀ j, j < 4 → keep j = true → isT (kA x.fts) (nmF j) = true := fun j hj hk => by
  have : nmF j ∈ (kA x.fts).map Ft.name := by rw [hn]; exact List.mem_map_of_mem (List.mem_filter.2 ⟨List.mem_range.2 hj, hk⟩)
  obtain ⟨f, hf, e⟩ := List.mem_map.1 this
  unfold isT findT
  rw [Bool.or_eq_true]
  exact .inr (List.findIdx?_isSome.trans (List.any_eq_true.2 ⟨f, hf, decide_eq_true e⟩))
 unfold fT
 simp only [Bool.and_eq_true, decide_eq_true_eq, List.all_eq_true]
 refine ⟨⟨⟨?_, fun f hf => ?_⟩, by rw [hn]; exact rise_four keep⟩, fun f hf => ?_⟩
 ·have e := congrArg List.length hn
  rw [List.length_map, List.length_map] at e
  have := List.length_filter_le keep (List.range 4)
  rw [List.length_range] at this; omega
 ·obtain ⟨j, hj, e⟩ := hin f hf
  rw [e]; exact (nmF_word j hj).1
 ·obtain ⟨y, hy, rfl⟩ := List.mem_map.1 hf
  have hg := h.fts.each y hy
  unfold qU
  simp only [Bool.and_eq_true, decide_eq_true_eq, List.all_eq_true]
  refine ⟨⟨Nat.le_trans hg.len Om, hg.rise⟩, fun s hs => ?_⟩
  unfold bM
  simp only [Bool.and_eq_true, Bool.or_eq_true, decide_eq_true_eq]
  rcases hg.all s hs with ⟨m, hm, hne, rfl⟩ | ⟨m, hm, w, hw, rfl⟩ | ⟨j, hj, hk, rfl⟩
  ·rcases (h.needs m hm).opt with e | ⟨j, hj, e⟩
   ·exact absurd e hne
   ·rw [e, opt_kind j hj]; exact ⟨by omega, .inl Om⟩
  ·have key : ∀ (a : Bool) (u : Wv), WishG own a u → (zX (u.name ++ [47] ++ [120])).1 = 3 := fun a u hu => by
    obtain ⟨k, _, e⟩ := hu.name
    rw [e]; exact pull_kind _ Om
   have h3 : (zX (w.name ++ [47] ++ [120])).1 = 3 := by
    rcases (h.needs m hm).any with ⟨u, e, hu⟩ | ⟨u, z, e, _, _⟩
    ·rw [hw] at e; injection e with e1 _; rw [e1]; exact key _ _ hu
    ·rw [hw] at e; simp at e
   rw [h3]; exact ⟨by omega, .inl Om⟩
  ·obtain ⟨_, k1, k2⟩ := nmF_word j hj
   rw [k1, k2]; exact ⟨by omega, .inr (his j hj hk)⟩
end
section
theorem check_is {r : Rt} (h1 : nmL r.name = true) (h2 : r.ver.may = true) (h3 : r.needs.length ≤ 8) (h4 : r.bars.length ≤ 8) (h5 : ∀ n ∈ r.needs, gR r.name n = 0) (h6 : ∀ b ∈ r.bars, wQ r.name b = 0) (h7 : fT r.fts = true) (h8 : ∀ f ∈ r.fts, x5 (gM r.needs) f.of = 0) (h9 : (yK r).length ≤ 4096) : yL r = (0, 0) := by
 have hp : vZ r = (0, 0) := by
  unfold vZ
  rw [j8 h5, if_neg (by simp), j8 h6, if_neg (by simp), if_neg (by simp [h7]), j8 h8]
 unfold yL
 rw [if_neg (by simp [h1]), if_neg (by simp [h2]), if_neg Om, hp, if_neg (by simp), if_neg Om]
theorem few_all12 : ∀ op ∈ [(7 : Int), 6, 3, 1, 2], ∀ a : Nat, a < 3 → ∀ b : Nat, b < 2 → gB (Co.print ⟨op, 3, ⟨(a : Int), (b : Int), 0, [], []⟩⟩) = true := by decide +kernel
theorem few_plain {t : List UInt8} (h : FewT t) : gB t = true := by
 rcases h with rfl | ⟨c, hc, rfl⟩
 ·decide +kernel
 ·obtain ⟨a, b, ha, hb, hv⟩ := hc.v
  have e : c = ⟨c.op, 3, ⟨(a : Int), (b : Int), 0, [], []⟩⟩ := by rw [← hv, ← hc.parts]
  rw [e]
  refine few_all12 c.op ?_ a ha b hb
  rcases hc.op with e | e | e | e | e <;> rw [e] <;> decide
theorem when_all : ∀ k : Nat, k < 3 → ∀ c : Nat, c < 2 → ∀ j : Nat, j < 4 → xG (xM k ++ sepT c ++ qI j) = true := by decide +kernel
theorem when_plain {t : List UInt8} (h : WhenT t) : xG t = true := by
 rcases h with rfl | ⟨k, c, j, hk, rfl⟩
 ·decide +kernel
 ·have hj : ∃ i, i < 4 ∧ qI j = qI i := by
   by_cases h : j < 4
   ·exact ⟨j, h, rfl⟩
   ·exact ⟨3, by decide, by unfold qI; rw [if_neg Om, if_neg Om, if_neg Om]; rfl⟩
  have hc : ∃ i, i < 2 ∧ sepT c = sepT i := by
   by_cases h : c < 2
   ·exact ⟨c, h, rfl⟩
   ·exact ⟨1, by decide, by unfold sepT; rw [if_neg Om]; rfl⟩
  obtain ⟨i, hi, e⟩ := hj
  obtain ⟨d, hd, e2⟩ := hc
  rw [e, e2]; exact when_all k hk d hd i hi
theorem nameT_apart : ∀ a : Nat, a < 5 → ∀ b : Nat, b < 5 → a ≠ b → yP a ≠ yP b := by decide
theorem kind_opt : ∀ j : Nat, j < 4 → zX ([63] ++ qI j) = (2, qI j, []) := by decide +kernel
theorem kind_pull : ∀ j : Nat, j < 5 → zX (yP j ++ [47] ++ [120]) = (3, yP j, [120]) := by decide +kernel
theorem verG_all : ∀ a : Nat, a < 3 → ∀ b : Nat, b < 2 → ∀ q ∈ [(([] : List UInt8), ([] : List UInt8)), ([114, 99, 46, 49], []), ([], [55])], (Ver.mk a b 0 q.1 q.2).may = true ∧ (Ver.mk a b 0 q.1 q.2).print.length ≤ 20 := by decide +kernel
theorem wishG_zero {own : Nat} {al : Bool} {u : Wv} (h : WishG own al u) : qZ (yP (own % 5)) u.wt al = 0 := by
 obtain ⟨k, hk, e⟩ := h.name
 have hne : u.name ≠ yP (own % 5) := by rw [e]; exact nameT_apart _ Om _ Om Om
 have hf : wfsOk u.fs al = true := by
  rcases h.fs with e | ⟨ha, e | e⟩
  ·rw [e]; cases al <;> decide
  ·rw [e, ha]; decide
  ·rw [e, ha]; decide
 unfold qZ
 rw [if_neg (show ¬ nmL u.wt.name = false by rw [show u.wt.name = u.name from rfl, e, nameT_ok]; simp), if_neg (show ¬ u.wt.name = _ from hne), if_neg (show ¬ gB u.wt.rng = false by rw [show u.wt.rng = u.rng from rfl, few_plain h.rng]; simp), if_neg (show ¬ wfsOk u.wt.fs al = false by rw [show u.wt.fs = u.fs from rfl, hf]; simp)]
theorem need_zero {own : List UInt8} {n : Nt} (h1 : n.any ≠ []) (h2 : n.any.length ≤ 3) (h3 : ∀ x ∈ n.any, qZ own x (decide (n.any.length = 1)) = 0) (h4 : xG n.wh = true) (h5 : n.opt = [] ∨ wdL n.opt = true) : gR own n = 0 := by
 unfold gR
 rw [if_neg h1, if_neg Om, if_neg (by rw [dL h3]; simp), if_neg (by simp [h4]), if_neg (fun h => by
  rcases h5 with e | e
  ·exact h.1 e
  ·rw [e] at h; exact absurd h.2 (by simp))]
theorem needG_zero {own : Nat} {n : Nv} (h : NeedG own n) : gR (yP (own % 5)) n.nt = 0 := by
 have hop : n.nt.opt = [] ∨ wdL n.nt.opt = true := by
  rcases h.opt with e | ⟨j, _, e⟩
  ·exact .inl e
  ·exact .inr (by rw [show n.nt.opt = n.opt from rfl, e]; exact wordT_ok j)
 rcases h.any with ⟨w, e, hw⟩ | ⟨w, u, e, hw, hu⟩
 ·have e' : n.nt.any = [w.wt] := by unfold Nv.nt; rw [e]; rfl
  refine need_zero (by rw [e']; simp) (by rw [e']; simp) (fun x hx => ?_) (when_plain h.wh) hop
  rw [e'] at hx ⊢
  rw [List.mem_singleton.1 hx]; exact wishG_zero hw
 ·have e' : n.nt.any = [w.wt, u.wt] := by unfold Nv.nt; rw [e]; rfl
  refine need_zero (by rw [e']; simp) (by rw [e']; simp) (fun x hx => ?_) (when_plain h.wh) hop
  rw [e'] at hx ⊢
  simp only [List.mem_cons, List.not_mem_nil, or_false] at hx
  rcases hx with rfl | rfl
  ·exact wishG_zero hw
  ·exact wishG_zero hu
theorem barG_zero {own : Nat} {b : Bv} (h : BarG own b) : wQ (yP (own % 5)) b.bt = 0 := by
 obtain ⟨k, hk, e⟩ := h.name
 have hne : b.name ≠ yP (own % 5) := by rw [e]; exact nameT_apart _ Om _ Om Om
 unfold wQ
 rw [if_neg (show ¬ nmL b.bt.name = false by rw [show b.bt.name = b.name from rfl, e, nameT_ok]; simp), if_neg (show ¬ b.bt.name = _ from hne), if_neg (show ¬ gB b.bt.rng = false by rw [show b.bt.rng = b.rng from rfl, few_plain h.rng]; simp), if_neg (show ¬ xG b.bt.wh = false by rw [show b.bt.wh = b.wh from rfl, when_plain h.wh]; simp)]
theorem item_zero {own : Nat} {keep : Nat → Bool} {x : Rv} (h : RecG own keep x) {s : List UInt8} (hs : ItemG x.needs keep s) : gM x.rt.needs s = 0 ∧ s.length ≤ 7 := by
 unfold gM wordOf
 rcases hs with ⟨m, hm, hne, rfl⟩ | ⟨m, hm, w, hw, rfl⟩ | ⟨j, hj, hk, rfl⟩
 ·rcases (h.needs m hm).opt with e | ⟨j, hj, e⟩
  ·exact absurd e hne
  ·have ho : optR x.rt.needs m.opt = true := by
    unfold optR
    exact List.any_eq_true.2 ⟨m.nt, List.mem_map_of_mem hm, decide_eq_true rfl⟩
   have h4 := wordT_four j
   rw [e] at ho ⊢
   rw [kind_opt j hj]
   refine ⟨?_, by rw [List.length_append]; simp only [List.length_cons, List.length_nil]; omega⟩
   rw [if_neg (fun q => by rw [ho] at q; exact absurd q.2 (by simp)), if_neg (fun q => absurd (show (2 : Int) = 3 from q.1) (by decide))]
 ·have key : ∃ a, WishG own a w := by
   rcases (h.needs m hm).any with ⟨u, e, hu⟩ | ⟨u, z, e, _, _⟩
   ·rw [hw] at e; injection e with e1 _; exact ⟨true, e1 ▸ hu⟩
   ·rw [hw] at e; simp at e
  obtain ⟨a, hu⟩ := key
  obtain ⟨k, hk, e⟩ := hu.name
  have hp : pulR x.rt.needs w.name = true := by
   unfold pulR
   refine List.any_eq_true.2 ⟨m.nt, List.mem_map_of_mem hm, ?_⟩
   unfold pulN Nv.nt
   rw [hw]
   exact decide_eq_true rfl
  have h4 := nameT_len ((own + 1 + k) % 5)
  rw [e] at hp ⊢
  rw [kind_pull _ Om]
  refine ⟨?_, by simp only [List.length_append, List.length_cons, List.length_nil]; omega⟩
  rw [if_neg (fun q => absurd (show (3 : Int) = 2 from q.1) (by decide)), if_neg (fun q => by rw [hp] at q; exact absurd q.2 (by simp))]
 ·obtain ⟨_, k1, _⟩ := nmF_word j hj
  rw [k1]
  refine ⟨by rw [if_neg (fun q => absurd q.1 (by decide)), if_neg (fun q => absurd q.1 (by decide))], ?_⟩
  unfold nmF dfl
  repeat' split
  all_goals simp
theorem rec_good {own : Nat} {keep : Nat → Bool} {x : Rv} (h : RecG own keep x) : yL x.rt = (0, 0) ∧ (yK x.rt).length ≤ 3000 := by
 have hn : nmL x.rt.name = true := by rw [show x.rt.name = x.name from rfl, h.name]; exact nameT_ok _
 obtain ⟨a, b, ha, hb, e1, e2, e3⟩ := h.ver
 have hv : x.rt.ver.may = true ∧ x.rt.ver.print.length ≤ 20 := by
  have e : x.rt.ver = Ver.mk a b 0 x.pre x.bld := by show Ver.mk x.maj x.min x.pat x.pre x.bld = _; rw [e1, e2, e3]
  rw [e]
  refine verG_all a ha b hb (x.pre, x.bld) ?_
  rcases h.pb with ⟨e, e'⟩ | ⟨e, e'⟩ | ⟨e, e'⟩ <;> rw [e, e'] <;> simp
 have hN : ∀ n ∈ x.rt.needs, gR x.rt.name n = 0 := fun n hn => by
  obtain ⟨m, hm, rfl⟩ := List.mem_map.1 hn
  rw [show x.rt.name = x.name from rfl, h.name]; exact needG_zero (h.needs m hm)
 have hB : ∀ n ∈ x.rt.bars, wQ x.rt.name n = 0 := fun n hn => by
  obtain ⟨m, hm, rfl⟩ := List.mem_map.1 hn
  rw [show x.rt.name = x.name from rfl, h.name]; exact barG_zero (h.bars m hm)
 have hF : ∀ f ∈ x.rt.fts, x5 (gM x.rt.needs) f.of = 0 ∧ (wO f).length ≤ 57 := fun f hf => by
  obtain ⟨y, hy, rfl⟩ := List.mem_map.1 hf
  have hg := h.fts.each y hy
  refine ⟨dL fun s hs => (item_zero h (hg.all s hs)).1, ?_⟩
  have hnm : y.name.length ≤ 7 := by
   have : y.name ∈ x.fts.map Fv.name := List.mem_map_of_mem hy
   rw [h.fts.names] at this
   obtain ⟨j, hj, e⟩ := List.mem_map.1 this
   rw [← e]
   unfold nmF dfl
   repeat' split
   all_goals simp
  have := jn_most 32 7 (l := x8 :: y.name :: y.of) fun s hs => by
   rcases List.mem_cons.1 hs with rfl | hs
   ·decide
   ·rcases List.mem_cons.1 hs with rfl | hs
    ·exact hnm
    ·exact (item_zero h (hg.all s hs)).2
  have hl := hg.len
  show (zD 32 (x8 :: y.name :: y.of) ++ [10]).length ≤ 57
  simp only [List.length_append, List.length_cons, List.length_nil] at this ⊢
  omega
 have l1 : x.rt.needs.length ≤ 2 := by rw [show x.rt.needs.length = x.needs.length from List.length_map ..]; exact h.nlen
 have l2 : x.rt.bars.length ≤ 1 := by rw [show x.rt.bars.length = x.bars.length from List.length_map ..]; exact h.blen
 have l3 : x.rt.fts.length ≤ 4 := by
  have e := congrArg List.length h.fts.names
  rw [List.length_map, List.length_map] at e
  have := List.length_filter_le keep (List.range 4)
  rw [List.length_range] at this
  rw [show x.rt.fts.length = x.fts.length from List.length_map ..]; omega
 have hT : (yK x.rt).length ≤ 3000 := by
  have k1 := mK gK 900 (l := x.rt.needs) fun n hx => needT_short (hN n hx)
  have k2 := mK bX 300 (l := x.rt.bars) fun n hx => barT_short (hB n hx)
  have k3 := mK wO 57 (l := x.rt.fts) fun f hx => (hF f hx).2
  have k4 := nm_short hn
  unfold yK wZ
  simp only [List.length_append, fK, List.length_cons, List.length_nil]; omega
 exact ⟨check_is hn hv.1 Om Om hN hB (feats_may h) (fun f hf => (hF f hf).1) Om, hT⟩
end
section
theorem digit_all : ∀ a : Nat, a < 3 → ∀ b : Nat, b < 2 → ∀ q ∈ [(([] : List UInt8), ([] : List UInt8)), ([114, 99, 46, 49], []), ([], [55])], (Ver.mk ((a : Int) + 1) b 0 q.1 q.2).may = true ∧ (Ver.mk a b 0 q.1 q.2).print = UInt8.ofNat (48 + a) :: (Ver.mk a b 0 q.1 q.2).print.drop 1 ∧ (Ver.mk ((a : Int) + 1) b 0 q.1 q.2).print = UInt8.ofNat (49 + a) :: (Ver.mk a b 0 q.1 q.2).print.drop 1 := by decide +kernel
theorem set_mid {α : Type} (c d : α) (R : List α) : ∀ P : List α, (P ++ d :: R).set P.length c = P ++ c :: R
 | [] => rfl
 | a :: P => by
  show a :: (P ++ d :: R).set P.length c = _
  rw [set_mid c d R P]; rfl
def fS (r : Rt) : Rt := { r with ver := { r.ver with maj := r.ver.maj + 1 } }
theorem sum_other {own : Nat} {keep : Nat → Bool} {x : Rv} (h : RecG own keep x) : yL (fS x.rt) = (0, 0) ∧ pP (yK (fS x.rt)) ≠ pP (yK x.rt) := by
 obtain ⟨a, b, ha, hb, e1, e2, e3⟩ := h.ver
 have hg := rec_good h
 obtain ⟨k1, k2, k3, k4, k5, k6⟩ := qW (r := x.rt) (by rw [hg.1])
 have hq : (x.pre, x.bld) ∈ [(([] : List UInt8), ([] : List UInt8)), ([114, 99, 46, 49], []), ([], [55])] := by
  rcases h.pb with ⟨e, e'⟩ | ⟨e, e'⟩ | ⟨e, e'⟩ <;> rw [e, e'] <;> simp
 obtain ⟨m1, m2, m3⟩ := digit_all a ha b hb _ hq
 have ev : x.rt.ver = Ver.mk a b 0 x.pre x.bld := by show Ver.mk x.maj x.min x.pat x.pre x.bld = _; rw [e1, e2, e3]
 have ew : (fS x.rt).ver = Ver.mk ((a : Int) + 1) b 0 x.pre x.bld := by
  show Ver.mk (x.maj + 1) x.min x.pat x.pre x.bld = _; rw [e1, e2, e3]
 obtain ⟨R, t1, t2⟩ : ∃ R, yK x.rt = (fK ++ x.name ++ [32]) ++ UInt8.ofNat (48 + a) :: R ∧ yK (fS x.rt) = (fK ++ x.name ++ [32]) ++ UInt8.ofNat (49 + a) :: R := by
  refine ⟨(Ver.mk a b 0 x.pre x.bld).print.drop 1 ++ [10] ++ x.rt.needs.flatMap gK ++ x.rt.bars.flatMap bX ++ x.rt.fts.flatMap wO, ?_, ?_⟩
  ·unfold yK wZ
   rw [ev, m2]
   simp only [List.append_assoc, List.cons_append, List.nil_append, List.drop_succ_cons, List.drop_zero]; rfl
  ·unfold yK wZ
   rw [ew, m3]
   simp only [List.append_assoc, List.cons_append, List.nil_append]; rfl
 have hlen : (yK (fS x.rt)).length = (yK x.rt).length := by rw [t1, t2]; simp
 refine ⟨?_, fun e => ?_⟩
 ·unfold yL
  have hp : vZ (fS x.rt) = vZ x.rt := rfl
  have hz : yL x.rt = (0, 0) := hg.1
  rw [if_neg (show ¬ nmL (fS x.rt).name = false by rw [show (fS x.rt).name = x.rt.name from rfl, k1]; simp), if_neg (by rw [ew, show (Ver.mk ((a : Int) + 1) b 0 x.pre x.bld).may = true from m1]; simp), if_neg (show ¬ (8 < (fS x.rt).needs.length ∨ 8 < (fS x.rt).bars.length) from fun q => by have q' : 8 < x.rt.needs.length ∨ 8 < x.rt.bars.length := q; omega), hp, if_neg (by simp [k5]), if_neg Om]
 ·have hk : (fK ++ x.name ++ [32]).length < (yK x.rt).length := by rw [t1]; simp
  have hs := dSum_one (l := yK x.rt) hk (c := UInt8.ofNat (49 + a))
  have hset : (yK x.rt).set (fK ++ x.name ++ [32]).length (UInt8.ofNat (49 + a)) = yK (fS x.rt) := by rw [t1, t2]; exact set_mid _ _ _ _
  rw [hset] at hs
  have hc := hs.1 e
  have hget : (yK x.rt)[(fK ++ x.name ++ [32]).length] = UInt8.ofNat (48 + a) := by
   simp only [t1]
   rw [List.getElem_append_right (Nat.le_refl _)]
   simp
  rw [hget] at hc
  have key : ∀ a : Nat, a < 3 → UInt8.ofNat (49 + a) ≠ UInt8.ofNat (48 + a) := by decide
  exact key a ha hc
def qX (r : Rt) : Rt := { r with fts := [] }
def zoo : Bt := ⟨[122, 111, 111], [42], []⟩
theorem zoo_apart : ∀ k : Nat, k < 5 → [122, 111, 111] ≠ yP k := by decide
theorem bare_good {own : Nat} {keep : Nat → Bool} {x : Rv} (h : RecG own keep x) : yL (qX x.rt) = (0, 0) ∧ yL { qX x.rt with bars := x.rt.bars ++ [zoo] } = (0, 0) ∧ yK { qX x.rt with bars := x.rt.bars ++ [zoo] } = yK (qX x.rt) ++ [98, 97, 114, 32, 122, 111, 111, 32, 42, 10] := by
 have hg := rec_good h
 obtain ⟨k1, k2, k3, k4, k5, k6⟩ := qW (r := x.rt) (by rw [hg.1])
 obtain ⟨p1, p2, _, _⟩ := fO k5
 have hl : (yK (qX x.rt)).length ≤ (yK x.rt).length := by
  unfold yK qX
  simp only [List.flatMap_nil, List.append_nil, List.length_append]
  show (wZ x.rt).length + _ + _ ≤ _
  omega
 have ht : yK { qX x.rt with bars := x.rt.bars ++ [zoo] } = yK (qX x.rt) ++ [98, 97, 114, 32, 122, 111, 111, 32, 42, 10] := bar_more (r := qX x.rt) rfl zoo
 have hz : wQ x.rt.name zoo = 0 := by
  rw [show x.rt.name = yP (own % 5) from h.name]
  unfold wQ
  rw [if_neg (by decide +kernel), if_neg (show ¬ zoo.name = yP (own % 5) from zoo_apart (own % 5) Om), if_neg (by decide +kernel), if_neg (by decide +kernel)]
 have hb1 : x.rt.bars.length ≤ 1 := by rw [show x.rt.bars.length = x.bars.length from List.length_map ..]; exact h.blen
 refine ⟨check_is k1 k2 k3 k4 p1 p2 rfl (fun f hf => by cases hf) (by omega), check_is k1 k2 k3 (show (x.rt.bars ++ [zoo]).length ≤ 8 by rw [List.length_append]; simp only [List.length_cons, List.length_nil]; omega) p1 (fun b hb => ?_) rfl (fun f hf => by cases hf) ?_, ht⟩
 ·rcases List.mem_append.1 hb with hb | hb
  ·exact p2 b hb
  ·rw [List.mem_singleton.1 hb]; exact hz
 ·rw [ht, List.length_append]
  have := hg.2
  simp only [List.length_cons, List.length_nil]; omega
end
section
set_option linter.unnecessarySimpa false
structure MadeR (x : Rv) (ob : List Blk) : Prop where
 mem : RecO x ob
 gen : ∃ own keep, RecG own keep x
 chk : yL x.rt = (0, 0)
 len : (yK x.rt).length ≤ 3000
 bnd : nN x.rt
 few : FewR x.rt 4096
theorem made_of {x : Rv} {ob : List Blk} {own : Nat} {keep : Nat → Bool} (h : RecG own keep x) (hR : RecO x ob) : MadeR x ob := by
 obtain ⟨g1, g2⟩ := rec_good h
 have hb := read_back (r := x.rt) (by rw [g1])
 have := read_bnd (s := yK x.rt) Om (by rw [hb])
 rw [hb] at this
 exact ⟨hR, ⟨own, keep, h⟩, g1, g2, this.1, this.2⟩
theorem MadeR.inn {x : Rv} {ob L : List Blk} {M : List Nat} {W w : World} (h : MadeR x ob) (hO : Own M W w L) (hs : ∀ b ∈ ob, b ∈ L) : RcIn w w.heap.size x := h.mem.inn hO hs h.bnd h.few
theorem made_call (v : Value) (l : List Int) (own : Nat) (W : World) (hv : ReadsI W W.heap.size v l) (hl : l.length ≤ 9223372036854775807) (ho : own ≤ 1000) : YC 23 #[v, YI 0, YI (own : Int)] W fun e w' => ∃ v' ob, e = .returned v' ∧ (∃ x, v' = rvV x ∧ MadeR x ob) ∧ Own [] W w' ob :=
 (record_gen v l 0 own W hv hl Om ho).mono fun e w' ⟨x, ob, q1, ⟨q2, q3⟩, q4⟩ => ⟨_, ob, q1, ⟨x, rfl, made_of q2 q3⟩, q4⟩
theorem made_print {x : Rv} {ob L : List Blk} {M : List Nat} {W w : World} (h : MadeR x ob) (hO : Own M W w L) (hs : ∀ b ∈ ob, b ∈ L) (hK : RecLib w) : YC 16 #[rvV x] w (YR (.tuple #[.string (mkS (yK x.rt)), YI 0]) w) := by
 have := fN x w (h.inn hO hs) hK
 rw [mP, h.chk, if_pos rfl] at this
 exact this
end
section
open Go.ChangeShapes Go.WideShapes Go.ChangeAt Go.RowKit
theorem open_texts {H : Type} {enc : TypeId × Value → H} {W : World} {base : Nat} {v : Value} {d : DataW H} {ps : List MemPlace} (hval : Value.okWide Tryz.prog W .any base 58 v)
  (h : DataW.Trod enc Tryz.prog W 0 (fun _ => true) true 58 v d ps) : ∃ l : List (List UInt8), ReadsT W W.heap.size v l ∧ l.length ≤ maxLen ∧ ∀ x ∈ l, x.length ≤ maxLen := by
 obtain ⟨A, len, cap, rfl⟩ := okWide_slice Tryz.underlying58 hval
 obtain ⟨fuel, hf⟩ := h
 rcases open_strings Tryz.underlying58 Tryz.underlying9 strCells1 hf with ⟨hcs, _⟩ | ⟨a, len', cap', ss, hcs, _, hl, hm, hz, _, hcell, hws⟩
 ·simp [Value.cells] at hcs
  obtain ⟨rfl, rfl, rfl⟩ := hcs
  exact ⟨[], ⟨none, 0, rfl, fun h => by cases h⟩, by simp, by simp⟩
 ·simp [Value.cells] at hcs
  obtain ⟨rfl, rfl, rfl⟩ := hcs
  simp only [if_true] at hz
  have hlen : ((ss.take len).map (·.data.toList)).length = len := by rw [List.length_map, List.length_take]; omega
  refine ⟨(ss.take len).map (·.data.toList), ⟨some a, cap, by rw [hlen], fun h0 => ⟨a, rfl, ?_, fun j hj => ?_⟩⟩, by rw [hlen]; omega, fun x hx => ?_⟩
  ·have := cell_lt (hcell 0 Om)
   rwa [pD] at this
  ·have hj2 : j < ss.length := by omega
   rw [hcell j hj2, List.getElem_map, List.getElem_take]
   simp only [List.getD, List.getElem?_eq_getElem hj2, Option.getD_some]
   rfl
  ·obtain ⟨s, hs, rfl⟩ := List.mem_map.1 hx
   have := hws s (List.mem_of_mem_take hs)
   rw [j6]; exact this
theorem powType : (Tryz.prog.globals[3]?).map (·.type) = some 269 := by kernel_rfl
theorem powNamed : Tryz.prog.globalNamed "internal/strconv.uint64pow10" = some 3 := by kernel_rfl
theorem powCells : Tryz.prog.cellsOf 269 = 20 := by kernel_rfl
theorem u64Cells : Tryz.prog.cellsOf 36 = 1 := by kernel_rfl
theorem hasTab_of {W : World} {l : List (String × DataW Unit)} (h : laidMetH Tryz.prog l W) (e : (l.filter fun x => x.1 == "internal/strconv.uint64pow10") = [("internal/strconv.uint64pow10", Lib.tabData .u64 Lib.pow10Tab)]) : HasTab W := by
 have h2 := h.filter (fun x => x.1 == "internal/strconv.uint64pow10")
 rw [e] at h2
 exact Lib.tabBelow_of_tabIs (Lib.tabIs_of_head (rest := []) powNamed powType Tryz.underlying269 Tryz.underlying36 u64Cells powCells h2)
end
section
open Go.ChangeShapes Go.WideShapes Go.ChangeAt Go.RowKit
theorem cells_of_strs {H : Type} {enc : TypeId × Value → H} {P : Program} {w : World} {base : Nat} {sp : Nat → Bool} {held : Bool} {fuel : Nat} {t e : TypeId} {n : Nat} {cs : List Value} {ss : List (List UInt8)} {p : List MemPlace}
  (ht : P.underlying t = some (.array n e)) (he : P.underlying e = some .string) (hce : P.cellsOf e = 1) (hct : P.cellsOf t = n)
  (h : DataW.trod enc P w base sp held fuel t cs = some (.agg (ss.map fun s => .lit (.string s)), p)) : cs = ss.map fun s => Value.string (mkS s) := by
 cases fuel with
 | zero => simp [DataW.trod] at h
 | succ fuel =>
  simp only [DataW.trod, ht, hce, hct, Nat.mul_one] at h
  split at h
  ·rename_i hl
   obtain ⟨xs, hm, hx⟩ := Option.map_eq_some_iff.1 h
   have hxs : xs.map (·.1) = ss.map fun s => (DataW.lit (.string s) : DataW H) := by
    have := congrArg Prod.fst hx
    simpa using this
   have hxl : xs.length = n := by simpa using Lib.mapM_length hm
   have hzl : ss.length = n := by
    have := congrArg List.length hxs
    simp at this
    omega
   apply List.ext_getElem?
   intro i
   by_cases hi : i < n
   ·obtain ⟨b, hb, hf⟩ := Lib.mapM_at hm i i (by simp [hi])
    obtain ⟨s, hc, rfl, _⟩ := DataW.trod_string he hf
    have h1 : cs[i]? = some (.string s) := by
     have := congrArg (·[0]?) hc
     simpa [List.getElem?_take, List.getElem?_drop] using this
    have h2 : (xs.map (·.1))[i]? = some (DataW.lit (.string s.data.toList) : DataW H) := by simp [hb]
    rw [hxs] at h2
    simp only [List.getElem?_map, Option.map_eq_some_iff, DataW.lit.injEq, Lit.string.injEq] at h2
    obtain ⟨z', hz', e9⟩ := h2
    rw [h1, List.getElem?_map, hz', e9]
    show some (Value.string s) = some (Value.string (mkS s.data.toList))
    rw [show mkS s.data.toList = s from by cases s; unfold mkS; simp]
   ·rw [List.getElem?_eq_none (by omega), List.getElem?_eq_none (by simp; omega)]
  ·cases h
theorem keysType : (Tryz.prog.globals[2]?).map (·.type) = some 144 := by kernel_rfl
theorem keysNamed : Tryz.prog.globalNamed "linchpin/mark.keys" = some 2 := by kernel_rfl
theorem keysCells : Tryz.prog.cellsOf 144 = 3 := by kernel_rfl
theorem mkLib_of {W : World} {l : List (String × DataW Unit)} (h : laidMetH Tryz.prog l W) (e : (l.filter fun x => x.1 == "linchpin/mark.keys") = [("linchpin/mark.keys", .agg [.lit (.string [111, 115]), .lit (.string [97, 114, 99, 104]), .lit (.string [97, 98, 105])])]) : MkLib W := by
 have h2 := h.filter (fun x => x.1 == "linchpin/mark.keys")
 rw [e] at h2
 obtain ⟨ps, ⟨g', t', cs, fuel, p, q, hg', ht', hvar, hd, _, hps⟩, _, hcell⟩ := h2
 obtain rfl := Option.some.inj (keysNamed.symm.trans hg')
 obtain rfl := Option.some.inj (keysType.symm.trans ht')
 have hcs : cs.toList = [[111, 115], [97, 114, 99, 104], [97, 98, 105]].map fun s => Value.string (mkS s) := cells_of_strs (n := 3) Tryz.underlying144 Tryz.underlying9 strCells1 keysCells hd
 have hsz : cs.size = 3 := by rw [← Array.length_toList, hcs]; rfl
 have hm : MemPlace.cell 2 0 ∈ ps := by
  rw [hps]
  refine List.mem_append_left _ (List.mem_append_left _ ?_)
  exact MemPlace.mem_row.2 ⟨0, by rw [hsz]; decide, rfl⟩
 obtain ⟨⟨c, t, hb⟩, _⟩ := hcell _ _ hm
 have hv : W.var? Tryz.prog "linchpin/mark.keys" = some c := by
  unfold World.var?
  rw [keysNamed]
  simp only [Option.bind_some, hb]
 have hcc : c = cs := Option.some.inj (hv.symm.trans hvar)
 refine ⟨(Array.getElem?_eq_some_iff.1 hb).1, t, ?_⟩
 rw [hb, hcc]
 congr 2
 apply Array.toList_inj.1
 rw [hcs]
 rfl
end
section
open Go.ChangeShapes Go.WideShapes Go.ChangeAt Go.RowKit
def layR (l : La) : DataW Unit := .agg [.lit (.int .i64 (l.kind : Int)), .lit (.string l.word), .lit (.int .i64 (l.lo : Int)), .lit (.int .i64 (l.hi : Int)), .lit (.int .i64 (l.parts : Int)), .lit (.bool l.opn), .lit (.bool l.more)]
def layD : DataW Unit := .agg (lays.map layR)
theorem size_lay12 : Tryz.prog.cellsOf 131 = 7 := by kernel_rfl
theorem size_lays12 : Tryz.prog.cellsOf 132 = 56 := by kernel_rfl
theorem laysType : (Tryz.prog.globals[0]?).map (·.type) = some 132 := by kernel_rfl
theorem laysNamed : Tryz.prog.globalNamed "linchpin/record.layouts" = some 0 := by kernel_rfl
theorem lay_row {enc : TypeId × Value → Unit} {w : World} {base : Nat} {sp : Nat → Bool} {held : Bool} {fuel : Nat} {cs : List Value} {p : List MemPlace} {l : La} (h : DataW.trod enc Tryz.prog w base sp held fuel 131 cs = some (layR l, p)) : cs = (laV l).cells.toList := by
 obtain ⟨xs, n, _, hx, hl, hxl, hg⟩ := DataW.trod_struct Tryz.underlying131 h
 rw [size_lay12] at hl
 have hx1 : DataW.agg (xs.map (·.1)) = layR l := (congrArg Prod.fst hx).symm
 unfold layR at hx1
 injection hx1 with hx1
 match cs, hl with
 | [c0, c1, c2, c3, c4, c5, c6], _ =>
  have g : ∀ i, i < 7 → ∃ y, xs[i]? = some y := fun i hi => ⟨_, List.getElem?_eq_getElem (by rw [hxl]; exact hi)⟩
  obtain ⟨y0, e0⟩ := g 0 Om
  obtain ⟨y1, e1⟩ := g 1 Om
  obtain ⟨y2, e2⟩ := g 2 Om
  obtain ⟨y3, e3⟩ := g 3 Om
  obtain ⟨y4, e4⟩ := g 4 Om
  obtain ⟨y5, e5⟩ := g 5 Om
  obtain ⟨y6, e6⟩ := g 6 Om
  have q : ∀ (i : Nat) (y : DataW Unit × List MemPlace), xs[i]? = some y → (xs.map (·.1))[i]? = some y.1 := fun i y hy => by rw [List.getElem?_map, hy]; rfl
  have q0 := q 0 _ e0; have q1 := q 1 _ e1; have q2 := q 2 _ e2; have q3 := q 3 _ e3; have q4 := q 4 _ e4; have q5 := q 5 _ e5; have q6 := q 6 _ e6
  rw [hx1] at q0 q1 q2 q3 q4 q5 q6
  obtain ⟨a0, h0, z0, _⟩ := DataW.trod_int Tryz.underlying3 ((hg 0 _ rfl).trans e0)
  obtain ⟨a1, h1, z1, _⟩ := DataW.trod_string Tryz.underlying9 ((hg 1 _ rfl).trans e1)
  obtain ⟨a2, h2, z2, _⟩ := DataW.trod_int Tryz.underlying3 ((hg 2 _ rfl).trans e2)
  obtain ⟨a3, h3, z3, _⟩ := DataW.trod_int Tryz.underlying3 ((hg 3 _ rfl).trans e3)
  obtain ⟨a4, h4, z4, _⟩ := DataW.trod_int Tryz.underlying3 ((hg 4 _ rfl).trans e4)
  obtain ⟨a5, h5, z5⟩ := DataW.trod_bool Tryz.underlying4 ((hg 5 _ rfl).trans e5)
  obtain ⟨a6, h6, z6⟩ := DataW.trod_bool Tryz.underlying4 ((hg 6 _ rfl).trans e6)
  have r0 : List.take (Tryz.prog.cellsOf 3) (List.drop 0 [c0, c1, c2, c3, c4, c5, c6]) = _ := h0
  have r1 : List.take (Tryz.prog.cellsOf 9) (List.drop 1 [c0, c1, c2, c3, c4, c5, c6]) = _ := h1
  have r2 : List.take (Tryz.prog.cellsOf 3) (List.drop 2 [c0, c1, c2, c3, c4, c5, c6]) = _ := h2
  have r3 : List.take (Tryz.prog.cellsOf 3) (List.drop 3 [c0, c1, c2, c3, c4, c5, c6]) = _ := h3
  have r4 : List.take (Tryz.prog.cellsOf 3) (List.drop 4 [c0, c1, c2, c3, c4, c5, c6]) = _ := h4
  have r5 : List.take (Tryz.prog.cellsOf 4) (List.drop 5 [c0, c1, c2, c3, c4, c5, c6]) = _ := h5
  have r6 : List.take (Tryz.prog.cellsOf 4) (List.drop 6 [c0, c1, c2, c3, c4, c5, c6]) = _ := h6
  rw [show Tryz.prog.cellsOf 3 = 1 by kernel_rfl] at r0 r2 r3 r4
  rw [strCells1] at r1
  rw [show Tryz.prog.cellsOf 4 = 1 by kernel_rfl] at r5 r6
  obtain rfl : c0 = _ := List.singleton_inj.1 r0
  obtain rfl : c1 = _ := List.singleton_inj.1 r1
  obtain rfl : c2 = _ := List.singleton_inj.1 r2
  obtain rfl : c3 = _ := List.singleton_inj.1 r3
  obtain rfl : c4 = _ := List.singleton_inj.1 r4
  obtain rfl : c5 = _ := List.singleton_inj.1 r5
  obtain rfl : c6 = _ := List.singleton_inj.1 r6
  rw [z0] at q0; rw [z1] at q1; rw [z2] at q2; rw [z3] at q3; rw [z4] at q4; rw [z5] at q5; rw [z6] at q6
  have i0 : a0 = (l.kind : Int) := by injection q0 with q; injection q with q; injection q with _ q; exact q.symm
  have i1 : a1.data.toList = l.word := by injection q1 with q; injection q with q; injection q with q; exact q.symm
  have i2 : a2 = (l.lo : Int) := by injection q2 with q; injection q with q; injection q with _ q; exact q.symm
  have i3 : a3 = (l.hi : Int) := by injection q3 with q; injection q with q; injection q with _ q; exact q.symm
  have i4 : a4 = (l.parts : Int) := by injection q4 with q; injection q with q; injection q with _ q; exact q.symm
  have i5 : a5 = l.opn := by injection q5 with q; injection q with q; injection q with q; exact q.symm
  have i6 : a6 = l.more := by injection q6 with q; injection q with q; injection q with q; exact q.symm
  have i1' : a1 = mkS l.word := by rw [← i1]; cases a1; unfold mkS; simp
  rw [i0, i1', i2, i3, i4, i5, i6]
  rfl
theorem chunk7 {f : La → List Value} (hf : ∀ l, (f l).length = 7) : ∀ (ls : List La) (cs : List Value), cs.length = ls.length * 7 → (∀ i (h : i < ls.length), (cs.drop (i * 7)).take 7 = f ls[i]) → cs = ls.flatMap f
 | [], cs, hl, _ => by simpa using hl
 | l :: ls, cs, hl, h => by
  have h0 : (cs.drop (0 * 7)).take 7 = f l := h 0 (by simp)
  rw [Nat.zero_mul, List.drop_zero] at h0
  have := chunk7 hf ls (cs.drop 7) (by rw [List.length_drop, hl, List.length_cons]; omega) fun i hi => by
   rw [List.drop_drop, show 7 + i * 7 = (i + 1) * 7 by omega]
   exact h (i + 1) (by simpa using hi)
  rw [List.flatMap_cons, ← h0, ← this, List.take_append_drop]
theorem lay_cells {enc : TypeId × Value → Unit} {w : World} {base : Nat} {sp : Nat → Bool} {held : Bool} {fuel : Nat} {cs : List Value} {p : List MemPlace} (h : DataW.trod enc Tryz.prog w base sp held fuel 132 cs = some (layD, p)) : cs = layC.toList := by
 obtain ⟨xs, n, _, hx, hl, hxl, hg⟩ := DataW.trod_array Tryz.underlying132 h
 rw [size_lays12] at hl
 have hx1 : DataW.agg (xs.map (·.1)) = layD := (congrArg Prod.fst hx).symm
 unfold layD at hx1
 injection hx1 with hx1
 have h8 : lays.length = 8 := rfl
 have := chunk7 (f := fun l => (laV l).cells.toList) (fun l => rfl) lays cs (by rw [hl, h8]) fun i hi => by
  have hx2 : i < xs.length := by omega
  have h1 := hg i Om
  rw [List.getElem?_eq_getElem hx2, size_lay12] at h1
  have h2 : (xs.map (·.1))[i]? = (lays.map layR)[i]? := by rw [hx1]
  rw [List.getElem?_map, List.getElem?_map, List.getElem?_eq_getElem hx2, List.getElem?_eq_getElem hi] at h2
  have h3 : xs[i].1 = layR lays[i] := Option.some.inj h2
  obtain ⟨a, b⟩ : ∃ b, xs[i] = (layR lays[i], b) := ⟨xs[i].2, by rw [← h3]⟩
  rw [b] at h1
  exact lay_row h1
 rw [this]
 unfold layC
 rfl
theorem lyAt_of {W : World} {l : List (String × DataW Unit)} (h : laidMetH Tryz.prog l W) (e : (l.filter fun x => x.1 == "linchpin/record.layouts") = [("linchpin/record.layouts", layD)]) : LyAt W := by
 have h2 := h.filter (fun x => x.1 == "linchpin/record.layouts")
 rw [e] at h2
 obtain ⟨ps, ⟨g', t', cs, fuel, p, q, hg', ht', hvar, hd, _, hps⟩, _, hcell⟩ := h2
 obtain rfl := Option.some.inj (laysNamed.symm.trans hg')
 obtain rfl := Option.some.inj (laysType.symm.trans ht')
 have hcs : cs.toList = layC.toList := lay_cells hd
 have hsz : cs.size = 56 := by rw [← Array.length_toList, hcs]; rfl
 have hm : MemPlace.cell 0 0 ∈ ps := by
  rw [hps]
  refine List.mem_append_left _ (List.mem_append_left _ ?_)
  exact MemPlace.mem_row.2 ⟨0, by rw [hsz]; decide, rfl⟩
 obtain ⟨⟨c, t, hb⟩, _⟩ := hcell _ _ hm
 have hv : W.var? Tryz.prog "linchpin/record.layouts" = some c := by
  unfold World.var?
  rw [laysNamed]
  simp only [Option.bind_some, hb]
 have hcc : c = cs := Option.some.inj (hv.symm.trans hvar)
 refine ⟨(Array.getElem?_eq_some_iff.1 hb).1, t, ?_⟩
 rw [hb, hcc]
 congr 2
 exact Array.toList_inj.1 hcs
end
section
open Go.ChangeShapes Go.WideShapes Go.ChangeAt Go.RowKit
theorem open_nums {H : Type} {enc : TypeId × Value → H} {W : World} {base : Nat} {v : Value} {d : DataW H} {ps : List MemPlace} (hval : Value.okWide Tryz.prog W .any base 43 v)
  (h : DataW.Trod enc Tryz.prog W 0 (fun _ => true) true 43 v d ps) : ∃ l : List Int, ReadsI W W.heap.size v l ∧ l.length ≤ maxLen := by
 obtain ⟨A, len, cap, rfl⟩ := okWide_slice Tryz.underlying43 hval
 obtain ⟨fuel, hf⟩ := h
 rcases open_ints Tryz.underlying43 Tryz.underlying3 Kr hf with ⟨hcs, _⟩ | ⟨a, len', cap', zs, hcs, _, hl, hm, hz, _, hcell, _⟩
 ·simp [Value.cells] at hcs
  obtain ⟨rfl, rfl, rfl⟩ := hcs
  exact ⟨[], ⟨none, 0, rfl, fun h => by cases h⟩, by simp⟩
 ·simp [Value.cells] at hcs
  obtain ⟨rfl, rfl, rfl⟩ := hcs
  simp only [if_true] at hz
  have hlen : (zs.take len).length = len := by rw [List.length_take]; omega
  refine ⟨zs.take len, ⟨some a, cap, by rw [hlen], fun h0 => ⟨a, rfl, ?_, fun j hj => ?_⟩⟩, by rw [hlen]; omega⟩
  ·have := cell_lt (hcell 0 Om)
   rwa [add_block] at this
  ·have hj2 : j < zs.length := by omega
   rw [hcell j hj2, List.getElem_take]
   simp only [List.getD, List.getElem?_eq_getElem hj2, Option.getD_some]
end
end Go.Proofs.YtjimgokkpcfgpaaGreatDoor
