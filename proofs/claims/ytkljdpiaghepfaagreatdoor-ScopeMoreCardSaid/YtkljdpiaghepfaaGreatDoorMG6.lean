/-
  What the statement's proof leans on: the ways of walking, tO mathematics, and what the program's functions return; each theorem says on what conditions.
-/
import Derived.Test.YtkljdpiaghepfaaGreatDoorMG5
set_option maxRecDepth 1000000
set_option maxHeartbeats 8000000
set_option linter.unusedVariables false
set_option linter.unusedSimpArgs false
set_option linter.unnecessarySimpa false
namespace Go.Proofs.YtkljdpiaghepfaaGreatDoor
open Go.RowKit

section
theorem nE {l : List Sp} {c d : Cu} (hl : x5 l) (hc : c.short) (hd : d.short) : x5 (qD l c d) := by
  unfold qD
  split
  · intro x hx
    rcases List.mem_append.1 hx with h | h
    · exact hl x h
    · obtain rfl : x = _ := by simpa using h
      exact ⟨hc, hd⟩
  · exact hl
theorem add_any (A : Option Addr) (cap : Nat) (l : List Sp) (ob : List Blk) (c d : Cu) (W : World) (hv : SlS (.slice A l.length cap) l ob) (hO : Own (ob.map Blk.b) W W ob) (hn : l.length ≤ 1000000) (hl : x5 l) (hc : c.short) (hd : d.short) :
    Calls Tryz.prog 131 #[.slice A l.length cap, zI c, zI d] W fun e w' => ∃ v' ob', e = .returned v' ∧ SlS v' (qD l c d) ob' ∧ Own (ob.map Blk.b) W w' ob' := by
  unfold SlS at hv ⊢
  refine nC (n := 19) hO Tryz.func131 rfl (by kernel_rfl) (by kernel_rfl) (ZO (Zb (zI c) (fun b1 => Zb (zI d) (fun b2 => Zv (.slice none 0 0) (ZR (Zl 1 ⟨b1, (zI c).cells, 78⟩ (off := 0) (zI c) (Zl 0 ⟨b2, (zI d).cells, 78⟩ (off := 0) (zI d) ?_)))))))
  refine Zv (.agg (ZJ2 c d)) (Za (.agg Z8) (fun b3 => Zs 0 ⟨b3, Z8, 80⟩ (off := 0) (.agg (ZJ2 c d)) (ZN (zB (ZO (Zl 0 ⟨b3, (ZJ2 c d), 80⟩ (off := 0) (.agg (ZJ2 c d)) (Zc (k := 139) (args := #[.agg (ZJ2 c d)]) (.bool ((Sp.mk c d).may)) (fun w _ => bG ⟨c, d⟩ w ⟨hc, hd⟩) ?_)))))))
  cases h1 : (Sp.mk c d).may with
  | true =>
    refine Zv Z5 (ZX (ZB (ZO (Zv (.slice A l.length cap) (Zl 0 ⟨b3, (ZJ2 c d), 80⟩ (off := 0) (.agg (ZJ2 c d)) (vG 80 (ZJ2 c d) (by kernel_rfl) rfl (fun _ => by kernel_rfl) (fun b4 => kM (L' := [⟨b4, (ZJ2 c d), 80⟩, ⟨b3, (ZJ2 c d), 80⟩, ⟨b2, (zI d).cells, 78⟩, ⟨b1, (zI c).cells, 78⟩] ++ ob ++ []) (by rw [List.append_nil]; rfl) ?_)))))))
    obtain ⟨i, z, e1, e2, e3, e4, e5⟩ := qH
    refine gQ (sz := 14) (by kernel_rfl) rfl Tryz.underlying29 e1 e2 e3 e4 (by kernel_rfl) hv (a := ⟨b4, 0, none⟩) (m := 1) (c := 1) (news := x6 ⟨c, d⟩) (by kernel_rfl) rfl (fun w hO j u hj => ?_) (gI _) (by unfold maxLen; omega) (by rw [e5]; omega) (fun v' ob' hv' => ?_)
    · rw [y7, cell_of_row w b4 (0 + j) (x6 ⟨c, d⟩).toArray 80 _ (hO.held ⟨b4, (x6 ⟨c, d⟩).toArray, 80⟩ (List.mem_append_left _ (List.mem_append_left _ (List.mem_cons_self ..))))]; simpa using hj
    refine Zv (v') (ZN (zG (ZF (v') Tryz.results131 (fun w hO => ⟨v', ob', rfl, by unfold qD; rw [h1, if_pos rfl, List.length_append, List.flatMap_append]; simpa using hv', Own.take hO (fun x hx => List.mem_append_left _ (List.mem_append_right _ hx)) ?_⟩))))
    have := hO.apart; rw [List.append_nil, List.map_append, List.nodup_append] at this; exact this.2.1
  | false =>
    refine Zv Z4 (ZY (ZO (Zv (.slice A l.length cap) (Zv (.slice A l.length cap) (ZN (zG (zD ?_)))))))
    exact ZF (.slice A l.length cap) Tryz.results131 (fun w hO => ⟨_, ob, rfl, by unfold qD; rw [h1, if_neg (by decide)]; exact hv, Own.sub [_, _, _] hO⟩)
theorem add_call {M : List Nat} {W w : World} {v : Value} {l : List Sp} {E ob : List Blk} (c d : Cu) (hO : Own M W w (E ++ ob)) (hv : SlS v l ob) (hn : l.length ≤ 1000000) (hl : x5 l) (hc : c.short) (hd : d.short) :
    Calls Tryz.prog 131 #[v, zI c, zI d] w fun e w' => ∃ v' L', e = .returned v' ∧ (∃ ob', L' = E ++ ob' ∧ SlS v' (qD l c d) ob') ∧ Own M W w' L' := by
  obtain ⟨A, cap, rfl⟩ := hv.form
  refine (add_any A cap l ob c d w hv (Own.lend (hO.sub E)) hn hl hc hd).mono fun e w' ⟨v', ob', h1, h2, h3⟩ => ⟨v', E ++ ob', h1, ⟨ob', rfl, h2⟩, ?_⟩
  have hp : Own M W w (ob ++ E) := hO.perm List.perm_append_comm
  exact (Own.join hp h3).perm List.perm_append_comm
theorem uY {M : List Nat} {W w : World} {v : Value} {l : List Sp} {E ob : List Blk} (hO : Own M W w (E ++ ob)) (hv : SlS v l ob) (hn : l.length ≤ 1000000) (hl : x5 l) :
    Calls Tryz.prog 132 #[v] w fun e w' => ∃ v' L', e = .returned v' ∧ (∃ ob', L' = E ++ ob' ∧ SlS v' l ob') ∧ Own M W w' L' := by
  obtain ⟨A, cap, rfl⟩ := hv.form
  refine (unshare_any A cap l ob w hv (Own.lend (hO.sub E)) hn hl).mono fun e w' ⟨ob', h1, h2, h3⟩ => ⟨_, E ++ ob', h1, ⟨ob', rfl, h2⟩, ?_⟩
  have hp : Own M W w (ob ++ E) := hO.perm List.perm_append_comm
  exact (Own.join hp h3).perm List.perm_append_comm
theorem dO (k : Int) : (y8 k).short := ⟨Nat.zero_le 1000000, Nat.zero_le 1000000⟩
structure NotB (l : List Sp) (k : Nat) (v : Value) (out : List Sp) (f : Cu) (ob : List Blk) : Prop where
  le : k ≤ l.length
  sl : SlS v out ob
  len : out.length ≤ k
  short : x5 out
  fs : f.short
  eq : (l.take k).foldl tQ ([], y8 (-1)) = (out, f)
theorem NotB.start (l : List Sp) : NotB l 0 (.slice none 0 0) [] (y8 (-1)) [] := ⟨Nat.zero_le _, Sl.nil _ _, Nat.le_refl _, fun s hs => by simp at hs, dO _, by rw [List.take_zero]; rfl⟩
theorem NotB.step {l : List Sp} {k : Nat} {v v2 : Value} {out : List Sp} {f : Cu} {ob ob2 : List Blk} (h : NotB l k v out f ob) (hk : k < l.length) {s : Sp} (hs : l[k] = s) (hss : s.short) (h2 : SlS v2 (qD out f s.lo) ob2) : NotB l (k + 1) v2 (qD out f s.lo) s.hi ob2 :=
  ⟨by omega, h2, by have := h.len; have := nG out f s.lo; omega, nE h.short h.fs hss.1, hss.2, by rw [List.take_succ_eq_append_getElem hk, List.foldl_append, h.eq, hs]; rfl⟩
theorem not4_any (A : Option Addr) (cap : Nat) (l : List Sp) (W : World) (hv : Reads x6 W W.heap.size A l) (hn : l.length ≤ 300000) (hl : x5 l) :
    Calls Tryz.prog 135 #[.slice A l.length cap] W fun e w' => ∃ v' ob', e = .returned v' ∧ SlS v' (if zN l then jM l else []) ob' ∧ Own [] W w' ob' := by
  refine Z2 (n := 30) Tryz.func135 rfl (ZO (Zv (.slice none 0 0) (ZN (zB (ZO (Zv (.slice A l.length cap) (Zc (k := 129) (args := #[.slice A l.length cap]) (.bool (zN l)) (fun w hO => jY A cap l w (hv.on hO.below hO.size) (by omega) hl) ?_)))))))
  cases h1 : zN l with
  | true =>
    refine Zv Z5 (ZX (ZB (ZO (Zv (.slice none 0 0) (ZN (zB ?_))))))
    refine zC (Zv (.agg Z0) (Za (.agg ZE) (fun b1 => Zs 0 ⟨b1, ZE, 78⟩ (off := 0) (.agg Z0) (ZN (zB (ZO (Zv (.slice A l.length cap) (Zv (.int .i64 (l.length : Int)) (Zv (.int .i64 0) ?_)))))))))
    refine ZN (zP (x7 (fun L f m => ∃ (k : Nat) (v : Value) (out : List Sp) (fc : Cu) (ob : List Blk) (j : Nat → Value), (NotB l k v out fc ob) ∧ L = ⟨b1, (zI fc).cells, 78⟩ :: ob ∧ f = kL j [(3, v), (4, Zp b1 0), (11, .slice A l.length cap), (12, .int .i64 (l.length : Int)), (13, .int .i64 (k : Int))] ∧ m = l.length - k) (l.length - 0) ⟨0, _, [], y8 (-1), [], _, NotB.start l, rfl, ZU, rfl⟩ ?_))
    rintro L f m ⟨k, v, out, fc, ob, j, hrel, rfl, rfl, rfl⟩
    have hkl := hrel.le; have hlen := hrel.len
    refine zB (zC ?_)
    by_cases h2 : (k : Int) < (l.length : Int)
    · have hk : k < l.length := by omega
      obtain ⟨b, off, hA, hlt, hcell⟩ := hv (by omega)
      obtain ⟨s, hs⟩ : ∃ s, l[k] = s := ⟨_, rfl⟩
      have hsk : s.short := hs ▸ hl l[k] (List.getElem_mem hk)
      refine Zg h2 (ZN (zB (Zt (ZB (zB (zP (ZO (zX (Zp b (off + k * 14)) (by kernel_rfl) (ZA (b := b) (off := off) (c := cap) (n := l.length) (k := .i64) (j := (k : Int)) (e := 80) (sz := 14) hA) ?_))))))))
      refine Zo (yT s) (a := ⟨b, off + k * 14, none⟩) (fun w hO => yF yA (fun j u h => (hO.below.cell (p := ⟨b, off + j, none⟩) hlt).trans (hcell j u h)) k 0 hk (by omega) _ (by rw [hs]; kernel_rfl)) (Za (.agg Z8) (fun b2 => Zs 0 ⟨b2, Z8, 80⟩ (off := 0) (yT s) (ZR (Zv (v) (Zl 1 ⟨b1, (zI fc).cells, 78⟩ (off := 0) (.agg (ZJ fc)) (Zv (Zp b2 0) (Zl 0 ⟨b2, (yT s).cells, 80⟩ (off := 0) (.agg (ZJ s.lo)) (Zr (k := 131) (args := #[v, zI fc, zI s.lo]) (fun v' L' => ∃ ob', L' = [⟨b2, (yT s).cells, 80⟩, ⟨b1, (zI fc).cells, 78⟩] ++ ob' ∧ SlS v' (qD out fc s.lo) ob') (fun w hO => add_call (E := [⟨b2, (yT s).cells, 80⟩, ⟨b1, (zI fc).cells, 78⟩]) fc s.lo hO hrel.sl (by omega) hrel.short hrel.fs hsk.1) (fun v2 L2 hv2 => ?_)))))))))
      obtain ⟨ob2, rfl, hs2⟩ := hv2
      refine Zv (v2) (ZN (zC (Zv (Zp b2 7) (Zl 0 ⟨b2, (yT s).cells, 80⟩ (off := 7) (.agg (ZJ s.hi)) (Zs 1 ⟨b1, (zI fc).cells, 78⟩ (off := 0) (.agg (ZJ s.hi)) (zU (zV (zF (zC (Zu (k := .i64) (((k + 1 : Nat) : Int)) (IntWalk.i64_in _ (by omega)) ?_))))))))))
      exact Zv (.int .i64 ((k + 1 : Nat) : Int)) (zU (y6 (fun w hO => Own.sub [_] hO) (zY (m' := l.length - (k + 1)) (by omega) ⟨k + 1, v2, qD out fc s.lo, s.hi, ob2, _, hrel.step hk hs hsk hs2, rfl, ZU, rfl⟩)))
    refine Zh h2 (ZN (zB (Zf (yE (zH (zS (zM (zF (zB (zC ?_))))))))))
    refine Zv (v) (Zl 0 ⟨b1, (zI fc).cells, 78⟩ (off := 0) (.agg (ZJ fc)) (Zv (.agg Z6) (Zr (k := 131) (args := #[v, zI fc, zI (y8 1)]) (fun v' L' => ∃ ob', L' = [⟨b1, (zI fc).cells, 78⟩] ++ ob' ∧ SlS v' (qD out fc (y8 1)) ob') (fun w hO => add_call (E := [⟨b1, (zI fc).cells, 78⟩]) fc (y8 1) hO hrel.sl (by omega) hrel.short hrel.fs (dO 1)) (fun v3 L2 hv2 => ?_))))
    obtain ⟨ob3, rfl, hs3⟩ := hv2
    refine Zr (k := 132) (args := #[v3]) (fun v' L' => ∃ ob', L' = [⟨b1, (zI fc).cells, 78⟩] ++ ob' ∧ SlS v' (qD out fc (y8 1)) ob') (fun w hO => uY (E := [⟨b1, (zI fc).cells, 78⟩]) hO hs3 (by have := nG out fc (y8 1); omega) (nE hrel.short hrel.fs (dO 1))) (fun v4 L2 hv2 => ?_)
    obtain ⟨ob4, rfl, hs4⟩ := hv2
    exact Zv (v4) (ZN (zG (ZF (v4) Tryz.results135 (fun w hO => ⟨v4, ob4, rfl, by rw [if_pos rfl, show jM l = qD out fc (y8 1) from by rw [← notG_eq h1]; unfold notG; have he := hrel.eq; rw [List.take_of_length_le (by omega)] at he; rw [he]]; exact hs4, Own.sub [_] hO⟩))))
  | false =>
    refine Zv Z4 (ZY (ZO (Zv (.slice none 0 0) (ZN (zG (zD (ZF (.slice none 0 0) Tryz.results135 ?_)))))))
    exact fun w hO => ⟨_, [], rfl, by rw [if_neg (by decide)]; exact Sl.nil _ _, by simpa using hO⟩
end
section
abbrev VSp := {s : Sp // s.may = true ∧ s.short}
instance : Inhabited VSp := ⟨⟨⟨y8 (-1), y8 1⟩, by decide, dO _, dO _⟩⟩
def uE (x : VSp) : List Value := x6 x.1
def cfV (x y : VSp) : Int := zQ x.1.lo y.1.lo
theorem swoV : Go.Sort.SWO (ltOf cfV) := by
  have ml : ∀ x : VSp, x.1.lo.may = true := fun x => (y9 x.2.1).1
  refine ⟨fun x => ?_, fun x y z h1 h2 => ?_, fun x y z h1 h2 => ?_⟩
  · unfold ltOf cfV; rw [gC]; rfl
  · unfold ltOf cfV at *
    rw [decide_eq_true_eq] at *
    exact xY (ml x) (ml y) (ml z) h1 h2
  · unfold ltOf cfV at *
    rw [decide_eq_false_iff_not] at *
    have := vE (ml z) (ml y) (ml x) (u6 h2) (u6 h1)
    have h3 := xM (a := x.1.lo) (b := z.1.lo)
    omega
theorem make1_any (s t : Sp) (W : World) (hs : s.short) (ht : t.short) :
    Calls Tryz.prog 179 #[yT s, yT t] W fun e w' => e = .returned (.int .i64 (zQ s.lo t.lo)) ∧ Below W.heap.size W w' := by
  refine Z2 (n := 10) Tryz.func179 rfl (ZO (Zb (yT s) (fun b1 => Zb (yT t) (fun b2 => Zv (.int .i64 0) (ZR (Zv (Zp b1 0) (Zl 1 ⟨b1, (yT s).cells, 80⟩ (off := 0) (.agg (ZJ s.lo)) ?_)))))))
  exact Zv (Zp b2 0) (Zl 0 ⟨b2, (yT t).cells, 80⟩ (off := 0) (.agg (ZJ t.lo)) (Zc (k := 173) (args := #[.agg (ZJ s.lo), .agg (ZJ t.lo)]) (.int .i64 (zQ s.lo t.lo)) (fun w _ => mI s.lo t.lo w hs.1 ht.1) (Zv (.int .i64 (zQ s.lo t.lo)) (ZN (zG (ZF (.int .i64 (zQ s.lo t.lo)) Tryz.results179 (fun w hO => ⟨rfl, hO.below⟩)))))))
theorem lays4 (blk off size : Nat) (w : World) : CmpLays Tryz.prog 179 #[] uE 14 cfV blk off size w := fun m os dk _ x y =>
  (make1_any x.1 y.1 _ x.2.2 y.2.2).mono fun e w' ⟨h1, h2⟩ => ⟨h1, h2.asGrow⟩
theorem flatK_list (d : Array VSp) : (Go.Sort.flatK uE 14 d).toList = d.toList.flatMap uE := by
  apply List.ext_getElem?
  intro t
  have hlen : (d.toList.flatMap uE).length = d.size * 14 := by rw [xE (g := uE) (sz := 14) (fun x : VSp => yA x.1)]; simp
  by_cases ht : t < d.size * 14
  · have hk : t / 14 < d.toList.length := by simp; omega
    have h1 : (Go.Sort.flatK uE 14 d).toList[t]? = some (Go.Sort.flatK uE 14 d)[t]! := by
      rw [getElem!_pos _ t (by simpa using ht), Array.getElem?_toList, Array.getElem?_eq_getElem (by simpa using ht)]
    have h2 := flat_at (g := uE) (sz := 14) (fun x : VSp => yA x.1) d.toList (t / 14) hk
    have h3 : (d.toList.flatMap uE)[t]? = (uE d.toList[t / 14])[t % 14]? := by
      have e : t = t / 14 * 14 + t % 14 := by omega
      have hm : t % 14 < 14 := Nat.mod_lt _ (by decide)
      rw [← h2, List.getElem?_take, if_pos hm, List.getElem?_drop, ← e]
    rw [h1, h3, Go.Sort.get_flatK uE 14 d t ht]
    have hd : d[t / 14]! = d.toList[t / 14] := by rw [getElem!_pos d (t / 14) (by simpa using hk)]; simp
    have hlt : t % 14 < (uE d.toList[t / 14]).length := by rw [show (uE d.toList[t / 14]).length = 14 from yA _]; exact Nat.mod_lt _ (by decide)
    rw [hd, List.getElem?_eq_getElem hlt, getElem!_pos (uE d.toList[t / 14]) (t % 14) hlt]
  · rw [List.getElem?_eq_none (by simpa using Nat.le_of_not_lt ht), List.getElem?_eq_none (by rw [hlen]; omega)]
theorem take_put (cur F : Array Value) (h : F.size ≤ cur.size) : (Go.Sort.putCells id 0 F cur).toList.take F.size = F.toList := by
  apply List.ext_getElem?
  intro j
  by_cases hj : j < F.size
  · rw [List.getElem?_take_of_lt hj, Array.getElem?_toList]
    simp [Go.Sort.putCells, hj, show j < cur.size by omega]
  · rw [List.getElem?_take_eq_none (by omega), List.getElem?_eq_none (by simp; omega)]
theorem size_put (cur F : Array Value) : (Go.Sort.putCells id 0 F cur).size = cur.size := by simp [Go.Sort.putCells]
theorem perm_val {l m : List VSp} (h : l.Perm m) : (l.map (·.1)).Perm (m.map (·.1)) := h.map _
theorem sorted_of (l : List VSp) (h : ∀ i j (hi : i < j) (hj : j < l.length), ¬ zQ l[j].1.lo (l[i]'(by omega)).1.lo < 0) : fR (l.map (·.1)) := by
  induction l with
  | nil => trivial
  | cons s r ih =>
    refine ⟨fun t ht => ?_, ih fun i j hi hj => h (i + 1) (j + 1) (by omega) (by simpa using hj)⟩
    obtain ⟨y, hy, rfl⟩ := List.mem_map.1 ht
    obtain ⟨j, hj, rfl⟩ := List.mem_iff_getElem.1 hy
    exact u6 (h 0 (j + 1) (by omega) (by simpa using hj))
theorem lift_list (l : List Sp) (hm : ∀ s ∈ l, s.may = true ∧ s.short) : ∃ m : List VSp, m.map (·.1) = l := by
  induction l with
  | nil => exact ⟨[], rfl⟩
  | cons s r ih =>
    obtain ⟨m, e⟩ := ih (fun t ht => hm t (List.mem_cons_of_mem _ ht))
    exact ⟨⟨s, hm s (List.mem_cons_self ..)⟩ :: m, by rw [List.map_cons, e]⟩
theorem sort_any (g cap : Nat) (cur : Array Value) (l : List Sp) (W : World) (hm : ∀ s ∈ l, s.may = true ∧ s.short) (hO : Own [g] W W [⟨g, cur, 80⟩]) (hcap : l.length ≤ cap) (hmax : cap ≤ maxLen) (hsz : cur.size = cap * 14) (hcur : cur.toList.take (l.length * 14) = l.flatMap x6) (hn : l.length ≤ 1000000) :
    Calls Tryz.prog 178 #[.slice (some ⟨g, 0, none⟩) l.length cap, .func (.func 179) #[] #[]] W fun e w' =>
      e = .returned (.tuple #[]) ∧ ∃ l' cur', l'.Perm l ∧ fR l' ∧ cur'.size = cap * 14 ∧ cur'.toList.take (l.length * 14) = l'.flatMap x6 ∧ Own [g] W w' [⟨g, cur', 80⟩] := by
  obtain ⟨m, rfl⟩ := lift_list l hm
  have hlen : (m.map (·.1)).length = m.toArray.size := by simp
  have hg : W.heap[g]? = some (.cells cur 80) := hO.held _ List.mem_cons_self
  have hglt : g < W.heap.size := hO.lt (x := ⟨g, cur, 80⟩) List.mem_cons_self
  have hflat : (m.map (·.1)).flatMap x6 = m.flatMap uE := by rw [List.flatMap_map]; rfl
  have hH : Go.Sort.HoldsK uE 14 W g 0 m.toArray := by
    intro j hj
    have hj' : j < m.length * 14 := by simpa using hj
    have e : (Go.Sort.flatK uE 14 m.toArray).toList[j]? = cur.toList[j]? := by
      rw [flatK_list, show m.toArray.toList = m from by simp, ← hflat, ← hcur, List.getElem?_take, if_pos (by simpa using hj')]
    have e2 : cur[j]? = some (Go.Sort.flatK uE 14 m.toArray)[j]! := by
      rw [← Array.getElem?_toList, ← e, Array.getElem?_toList, Array.getElem?_eq_getElem hj, getElem!_pos _ j hj]
    refine ⟨?_, by simp [World.frozen?, hg]⟩
    simp only [World.cell?, hg, Nat.zero_add]
    simpa using e2
  have hcon := Tryz.slices_SortFunc 14 Tryz.isAgg80 Tryz.sizeOf80 uE (fun x => yA x.1) (fun x v hv => gI x.1 v hv) cfV swoV 179 #[] g 0 cap m.toArray W
    (enters_of Tryz.func179 (by kernel_rfl) rfl) (lays4 g 0 m.toArray.size W) hH hglt (by simp at hlen ⊢; rw [List.length_map] at hn; omega)
  rw [hlen]
  change Calls Tryz.prog 178 _ _ _ at hcon
  refine hcon.mono fun e w' ⟨he, d', n, os, hp, hs, hw⟩ => ⟨he, d'.toList.map (·.1), Go.Sort.putCells id 0 (Go.Sort.flatK uE 14 d') cur, ?_, ?_, ?_, ?_, ?_⟩
  · have h2 := hp.2.2
    have hsz2 := hp.1
    rw [show d'.extract 0 m.toArray.size = d' from by rw [← hsz2]; simp, show m.toArray.extract 0 m.toArray.size = m.toArray from by simp] at h2
    have := perm_val h2
    simpa using this
  · refine sorted_of _ fun i j hi hj => ?_
    have hj' : j < d'.size := by simpa using hj
    have := hs i j (Nat.zero_le _) hi (by rw [← hp.1]; exact hj')
    unfold ltOf cfV at this
    rw [decide_eq_false_iff_not, getElem!_pos d' j hj', getElem!_pos d' i (by omega)] at this
    simpa using this
  · rw [size_put]; exact hsz
  · have hF : (Go.Sort.flatK uE 14 d').size = m.toArray.size * 14 := by rw [Go.Sort.size_flatK, hp.1]
    have := take_put cur (Go.Sort.flatK uE 14 d') (by rw [hF, hsz, ← hlen]; exact Nat.mul_le_mul_right _ hcap)
    rw [hF, flatK_list] at this
    rw [this, List.flatMap_map]; rfl
  · subst hw
    have hheap : ∀ k, k < W.heap.size → (sortWorldK uE 14 W g 0 n d' os).heap[k]? = (Go.Sort.putRowK uE 14 (Go.Sort.ahead W n) g 0 d').heap[k]? := fun k hk => by
      show ((Go.Sort.putRowK uE 14 (Go.Sort.ahead W n) g 0 d').heap ++ os)[k]? = _
      rw [Array.getElem?_append_left (by rw [Go.Sort.size_putRowK]; exact hk)]
    refine ⟨rfl, rfl, rfl, ?_, Nat.le_add_right _ _, fun k hk hne => ?_, fun x hx => ?_, fun x hx => .inr (by rw [List.mem_singleton] at hx; rw [hx]; exact List.mem_singleton_self _), by simp⟩
    · show W.heap.size ≤ ((Go.Sort.putRowK uE 14 (Go.Sort.ahead W n) g 0 d').heap ++ os).size
      rw [Array.size_append, Go.Sort.size_putRowK]; exact Nat.le_add_right _ _
    · rw [hheap k hk]
      have hne' : g ≠ k := fun e => hne (by simp [e])
      simp [Go.Sort.putRowK, Go.Sort.putRow, Go.Sort.mapBlock, Go.Sort.ahead, Array.getElem?_modify, hne']
    · obtain rfl : x = _ := by simpa using hx
      show (sortWorldK uE 14 W g 0 n d' os).heap[g]? = _
      rw [hheap g hglt]
      simp [Go.Sort.putRowK, Go.Sort.putRow, Go.Sort.mapBlock, Go.Sort.ahead, Array.getElem?_modify, hg, Go.Sort.onCells]
end
section
theorem clone4_any (A : Option Addr) (cap : Nat) (l : List Sp) (W : World) (hv : Reads x6 W W.heap.size A l) (hn : l.length ≤ 1000000) :
    Calls Tryz.prog 177 #[.slice A l.length cap] W fun e w' => ∃ v' ob', e = .returned v' ∧ SlS v' l ob' ∧ Own [] W w' ob' := by
  cases A with
  | none =>
    obtain rfl : l = [] := by
      cases l with
      | nil => rfl
      | cons x r => obtain ⟨b, off, e, _⟩ := hv (by simp); cases e
    refine Z2 (n := 8) Tryz.func177 rfl (ZO (Zv (.slice none 0 0) (ZN (zB (ZO (Zv (.slice none (([] : List Sp).length) cap) (Zv Z4 (zU ?_))))))))
    exact zF (Zt (ZO (Zv (.slice none 0 0) (ZN (zG (zD (ZF (.slice none 0 0) Tryz.results177 (fun w hO => ⟨_, [], rfl, Sl.nil _ _, by simpa using hO⟩))))))))
  | some a =>
    refine Z2 (n := 8) Tryz.func177 rfl (ZO (Zv (.slice none 0 0) (ZN (zB (ZO (Zv (.slice (some a) l.length cap) (Zv Z5 (zU ?_))))))))
    refine zF (Zf (ZB (ZO (vG 80 #[] (by kernel_rfl) rfl (fun _ => by kernel_rfl) (fun b1 => Zv (.slice (some a) l.length cap) ?_)))))
    obtain ⟨i, z, e1, e2, e3, e4, e5⟩ := qH
    exact kM (L' := [] ++ [⟨b1, #[], 80⟩] ++ []) rfl (d9 (E := []) (ob := [⟨b1, #[], 80⟩]) (L0 := []) (sz := 14) (l := l) (A := some a) (c := cap) (n := 0) (xs := []) yA (by kernel_rfl) rfl Tryz.underlying29 e1 e2 e3 e4 (by kernel_rfl) ⟨rfl, .inr ⟨b1, 0, #[], rfl, rfl, Nat.le_refl _, Nat.zero_le _, rfl, rfl⟩⟩ (by kernel_rfl) (fun w hO => hv.on hO.below hO.size) gI (by unfold maxLen; omega) (by rw [e5]; omega) (fun va oa hva => Zv (va) (ZN (zG (ZF (va) Tryz.results177 (fun w hO => ⟨va, oa, rfl, hva.to (by simp) (by simp), by simpa using hO⟩))))))
theorem sort_call {M : List Nat} {W w : World} {v : Value} {l : List Sp} {E ob : List Blk} (hO : Own M W w (E ++ ob)) (hv : SlS v l ob) (hn : l.length ≤ 1000000) (hm : ∀ s ∈ l, s.may = true ∧ s.short) :
    Calls Tryz.prog 178 #[v, .func (.func 179) #[] #[]] w fun e w' => ∃ v' L', e = .returned v' ∧ (∃ l' ob', v' = .tuple #[] ∧ L' = E ++ ob' ∧ l'.Perm l ∧ fR l' ∧ SlS v l' ob') ∧ Own M W w' L' := by
  obtain ⟨A, cap, rfl⟩ := hv.form
  by_cases h0 : l.length = 0
  · obtain rfl : l = [] := List.eq_nil_of_length_eq_zero h0
    have h := Tryz.slices_SortFunc_none (α := Nat) A cap (.func (.func 179) #[] #[]) w
    change Calls Tryz.prog 178 _ _ _ at h
    exact h.mono fun e w' ⟨h1, h2⟩ => ⟨_, E ++ ob, h1, ⟨[], ob, rfl, rfl, List.Perm.refl _, trivial, hv⟩, h2 ▸ hO⟩
  · unfold SlS at hv
    obtain ⟨g, cur, rfl, rfl, hcap, hmax, hsz, hcur⟩ := hv.block (by omega)
    refine (sort_any g cap cur l w hm (Own.lend (hO.sub E)) hcap hmax hsz hcur hn).mono fun e w' ⟨h1, l', cur', h2, h3, h4, h5, h6⟩ => ⟨_, E ++ [⟨g, cur', 80⟩], h1, ⟨l', _, rfl, rfl, h2, h3, ?_⟩, ?_⟩
    · unfold SlS
      have hl := h2.length_eq
      rw [← hl] at h5 hcap ⊢
      exact ⟨by rw [xE yA], .inr ⟨g, cap, cur', rfl, rfl, hcap, hmax, h4, h5⟩⟩
    · have hp : Own M W w ([⟨g, cur, 80⟩] ++ E) := hO.perm List.perm_append_comm
      exact (Own.join hp h6).perm List.perm_append_comm
structure Merged (d : List Sp) (k : Nat) (V : Option Addr) (c : Nat) (out : List Sp) (ob : List Blk) : Prop where
  le : k ≤ d.length
  sl : Sl 80 14 (.slice V out.length c) out.length (out.flatMap x6) ob
  len : out.length ≤ k
  short : x5 out
  eq : (d.take k).foldl jK [] = out
theorem Merged.start (d : List Sp) : Merged d 0 none 0 [] [] := ⟨Nat.zero_le _, Sl.nil _ _, Nat.le_refl _, fun s hs => by simp at hs, by rw [List.take_zero]; rfl⟩
theorem mstep_app {out : List Sp} {s : Sp} (h : ∀ t ∈ out.getLast?, zQ t.hi s.lo < 0) : jK out s = out ++ [s] := by
  unfold jK
  cases hg : out.getLast? with
  | none => have : out = [] := by simpa using hg
            subst this; rfl
  | some t => dsimp only; rw [if_pos (h t hg)]
theorem mstep_set {out : List Sp} {s t : Sp} (h0 : 0 < out.length) (ht : out[out.length - 1]'(by omega) = t) (h : ¬ zQ t.hi s.lo < 0) : jK out s = out.set (out.length - 1) ⟨t.lo, x3 t.hi s.hi⟩ := by
  have hg : out.getLast? = some t := by rw [List.getLast?_eq_getElem?, List.getElem?_eq_getElem (by omega), ht]
  unfold jK
  rw [hg]
  dsimp only
  rw [if_neg h, List.dropLast_eq_take, List.set_eq_take_append_cons_drop, if_pos (by omega), List.drop_of_length_le (by omega)]
theorem mstep_short {out : List Sp} {s : Sp} (ho : x5 out) (hs : s.short) : x5 (jK out s) := by
  unfold jK
  split
  · intro x hx; obtain rfl : x = _ := by simpa using hx
    exact hs
  · rename_i t ht
    split
    · intro x hx
      rcases List.mem_append.1 hx with h | h
      · exact ho x h
      · obtain rfl : x = _ := by simpa using h
        exact hs
    · intro x hx
      rcases List.mem_append.1 hx with h | h
      · exact ho x (List.dropLast_subset _ h)
      · obtain rfl : x = _ := by simpa using h
        exact ⟨(ho t (List.mem_of_getLast? ht)).1, fH (ho t (List.mem_of_getLast? ht)).2 hs.2⟩
theorem Merged.step {d : List Sp} {k : Nat} {V V2 : Option Addr} {c c2 : Nat} {out out2 : List Sp} {ob ob2 : List Blk} (h : Merged d k V c out ob) (hk : k < d.length) {s : Sp} (hs : d[k] = s) (hss : s.short) (he : jK out s = out2) (h2 : Sl 80 14 (.slice V2 out2.length c2) out2.length (out2.flatMap x6) ob2) : Merged d (k + 1) V2 c2 out2 ob2 :=
  ⟨by omega, h2, by have := h.len; have := mstep_len out s; rw [he] at this; omega, he ▸ mstep_short h.short hss, by rw [List.take_succ_eq_append_getElem hk, List.foldl_append, h.eq, hs]; exact he⟩
end
section
theorem mX (A : Option Addr) (cap : Nat) (l : List Sp) (W : World) (hv : Reads x6 W W.heap.size A l) (hn : l.length ≤ 300000) (hl : x5 l) :
    Calls Tryz.prog 136 #[.slice A l.length cap] W fun e w' => ∃ v' ob', e = .returned (.tuple #[v', .bool (gK l)]) ∧ SlS v' (if gK l then uO l else []) ob' ∧ Own [] W w' ob' := by
  refine Z2 (n := 69) Tryz.func136 rfl (ZO (Zv (.slice none 0 0) (Zv Z5 (ZN (zB (ZO (Zv (.slice A l.length cap) (Zv (.int .i64 (l.length : Int)) ?_))))))))
  refine Zv (.int .i64 0) (ZN (zP (x7 (fun L f m => ∃ (k : Nat) (j : Nat → Value), (k ≤ l.length ∧ gK (l.take k) = true) ∧ L = [] ∧ f = kL j [(0, .slice A l.length cap), (11, .slice A l.length cap), (12, .int .i64 (l.length : Int)), (13, .int .i64 (k : Int))] ∧ m = l.length - k) (l.length - 0) ⟨0, _, ⟨Nat.zero_le _, by rw [List.take_zero]; rfl⟩, rfl, ZU, rfl⟩ ?_)))
  rintro L f m ⟨k, j, hrel, rfl, rfl, rfl⟩
  have hkl := hrel.1
  refine zB (zC ?_)
  by_cases h1 : (k : Int) < (l.length : Int)
  · have hk : k < l.length := by omega
    obtain ⟨b, off, hA, hlt, hcell⟩ := hv (by omega)
    obtain ⟨s, hs⟩ : ∃ s, l[k] = s := ⟨_, rfl⟩
    have hsk : s.short := hs ▸ hl _ (List.getElem_mem _)
    refine Zg h1 (ZN (zB (Zt (ZB (zB (zP (ZO (zX (Zp b (off + k * 14)) (by kernel_rfl) (ZA (b := b) (off := off) (c := cap) (n := l.length) (k := .i64) (j := (k : Int)) (e := 80) (sz := 14) hA) ?_))))))))
    refine Zo (yT s) (a := ⟨b, off + k * 14, none⟩) (fun w hO => yF yA (fun j u h => (hO.below.cell (p := ⟨b, off + j, none⟩) hlt).trans (hcell j u h)) k 0 hk (by omega) _ (by rw [hs]; kernel_rfl)) (Za (.agg Z8) (fun b1 => Zs 0 ⟨b1, Z8, 80⟩ (off := 0) (yT s) (ZR (Zl 0 ⟨b1, (yT s).cells, 80⟩ (off := 0) (yT s) (Zc (k := 139) (args := #[yT s]) (.bool s.may) (fun w _ => bG s w hsk) ?_)))))
    cases h2 : s.may with
    | true =>
      refine Zv Z5 (ZX (xD (zV (zF (zC (Zu (k := .i64) (((k + 1 : Nat) : Int)) (IntWalk.i64_in _ (by omega)) (Zv (.int .i64 ((k + 1 : Nat) : Int)) (zU ?_))))))))
      have hnext : gK (l.take (k + 1)) = true := allMay_take l k hk hrel.2 (by rw [hs]; assumption)
      exact y6 (fun w hO => Own.sub [_] hO) (zY (m' := l.length - (k + 1)) (by omega) ⟨k + 1, _, ⟨by omega, hnext⟩, rfl, ZU, rfl⟩)
    | false =>
      refine Zv Z4 (ZY (ZO (Zv (.slice none 0 0) (Zv Z5 (ZN (zG (zJ ?_)))))))
      exact zD (yK (zJ (zD (ZG (.slice none 0 0) Z5 Tryz.results136 (fun w hO => ⟨_, [], by rw [allMay_not l k hk (by rw [hs]; assumption)], by rw [allMay_not l k hk (by rw [hs]; assumption), if_neg (by decide)]; exact Sl.nil _ _, Own.take hO (by simp) (by simp)⟩)))))
  have hall : gK l = true := by have h := hrel.2; rwa [List.take_of_length_le (by omega)] at h
  refine Zh h1 (ZN (zB (Zf (yE (zH (zS (zM (zF (zB (zC ?_))))))))))
  refine Zv (.slice A l.length cap) (Zr (k := 177) (args := #[.slice A l.length cap]) (fun v' L' => SlS v' l L') (fun w hO => (clone4_any A cap l w (hv.on hO.below hO.size) (by omega)).mono fun e w' ⟨v', ob', h1, h2, h3⟩ => ⟨v', ob', h1, h2, by simpa using Own.joinN hO h3⟩) (fun cv oc hcv => ?_))
  obtain ⟨B, capb, rfl⟩ := hcv.form
  refine Zv (.slice B l.length capb) (ZR (Zv (.slice B l.length capb) (Zr (k := 178) (args := #[.slice B l.length capb, .func (.func 179) #[] #[]]) (fun v' L' => ∃ l', v' = .tuple #[] ∧ l'.Perm l ∧ fR l' ∧ SlS (.slice B l.length capb) l' L') (fun w hO => (sort_call (E := []) hO hcv (by omega) (fun s hs => ⟨allMay_mem.1 hall s hs, hl s hs⟩)).mono fun e w' ⟨v', L', k1, ⟨l', ob', k2, k3, k4, k5, k6⟩, k7⟩ => ⟨v', L', k1, ⟨l', k2, k4, k5, by subst k3; exact k6⟩, k7⟩) (fun v5 od hv5 => ?_))))
  obtain ⟨d, rfl, hdp, hdso, hds⟩ := hv5
  have hdl : d.length = l.length := hdp.length_eq
  have hdm : ∀ s ∈ d, s.may = true ∧ s.short := fun s hs => ⟨allMay_mem.1 hall s (hdp.mem_iff.1 hs), hl s (hdp.mem_iff.1 hs)⟩
  unfold SlS at hds
  rw [← hdl] at hds ⊢
  refine kM (L' := od ++ []) (by simp) (ZR (Zv (.slice none 0 0) (ZN (zB (ZO (Zv (.slice B d.length capb) ?_))))))
  refine Zv (.int .i64 (d.length : Int)) (Zv (.int .i64 0) (ZN (zP (x7 (fun L f m => ∃ (k : Nat) (V : Option Addr) (q : Nat) (cv : Nat) (out : List Sp) (ob : List Blk) (j : Nat → Value), (q = out.length ∧ Merged d k V cv out ob) ∧ L = od ++ ob ∧ f = kL j [(7, .slice V q cv), (25, .slice B d.length capb), (26, .int .i64 (d.length : Int)), (27, .int .i64 (k : Int))] ∧ m = d.length - k) (d.length - 0) ⟨0, none, 0, 0, [], [], _, ⟨rfl, Merged.start d⟩, rfl, ZU, rfl⟩ ?_))))
  rintro L f m ⟨k, V, q, cv, out, ob, j, hrel, rfl, rfl, rfl⟩
  obtain ⟨hq, hrel⟩ := hrel; subst hq; have hkl := hrel.le; have hlen := hrel.len
  refine zB (zC ?_)
  by_cases h3 : (k : Int) < (d.length : Int)
  · have hk : k < d.length := by omega
    obtain ⟨gb, curb, hB, rfl, hcapb, hmaxb, hszb, hcurb⟩ := Sl.block hds (by omega)
    obtain ⟨s, hs⟩ : ∃ s, d[k] = s := ⟨_, rfl⟩
    have hsk : s.short := (hdm s (hs ▸ List.getElem_mem _)).2
    refine Zg h3 (ZN (zB (Zt (ZB (zB (zP (ZO (zX (Zp gb (k * 14)) (by kernel_rfl) (jS (b := gb) (off := 0) (c := capb) (n := d.length) (k := .i64) (j := (k : Int)) (e := 80) (sz := 14) rfl (by kernel_rfl) hB (by kernel_rfl) (by kernel_rfl) (by kernel_rfl) (by omega) (by omega) (by show 0 + k * 14 = k * 14; omega)) ?_))))))))
    refine jR 0 ⟨gb, curb, 80⟩ (off := k * 14) (yT s) (by kernel_rfl) rfl (by kernel_rfl) (by kernel_rfl) (xX yA hcurb k 0 (by omega) (by omega) _ (by rw [hs]; kernel_rfl)) (Za (.agg Z8) (fun b1 => Zs 0 ⟨b1, Z8, 80⟩ (off := 0) (yT s) (ZR (Zv (.slice V out.length cv) (Zv (.int .i64 (out.length : Int)) (Zu (k := .i64) (((out.length : Int) : Int) - 1) (IntWalk.i64_in _ (by omega)) (Zv (.int .i64 (((out.length : Int) : Int) - 1)) (zU ?_))))))))
    refine zF (zB (zB (vP (by kernel_rfl) (by kernel_rfl) (Zw (.int .i64 (((out.length : Int) : Int) - 1)) ?_))))
    by_cases h4 : (((out.length : Int) : Int) - 1 : Int) < 0
    · refine Zi h4 (Zw Z4 (Zj (Zj (Zj (Zj (Zj (Zj (Zj (Zj (Zj (Zw Z4 ?_)))))))))))
      refine gH (zF (Zt (ZO (Zv (.slice V out.length cv) (Zl 0 ⟨b1, (yT s).cells, 80⟩ (off := 0) (yT s) (vG 80 (ZJ2 s.lo s.hi) (by kernel_rfl) rfl (fun _ => by kernel_rfl) (fun b2 => kM (L' := [⟨b2, (ZJ2 s.lo s.hi), 80⟩, ⟨b1, (yT s).cells, 80⟩, ⟨gb, curb, 80⟩] ++ ob ++ []) (by rw [List.append_nil]; rfl) ?_)))))))
      obtain ⟨i, z, e1, e2, e3, e4, e5⟩ := qH
      refine gQ (sz := 14) (by kernel_rfl) rfl Tryz.underlying29 e1 e2 e3 e4 (by kernel_rfl) hrel.sl (a := ⟨b2, 0, none⟩) (m := 1) (c := 1) (news := x6 s) (by kernel_rfl) rfl (fun w hO j u hj => ?_) (gI _) (by unfold maxLen; omega) (by rw [e5]; omega) (fun v2 ob2 hv2 => ?_)
      · rw [y7, cell_of_row w b2 (0 + j) (x6 s).toArray 80 _ (hO.held ⟨b2, (x6 s).toArray, 80⟩ (List.mem_append_left _ (List.mem_append_left _ (List.mem_cons_self ..))))]; simpa using hj
      have hv3 : SlS v2 (out ++ [s]) ob2 := hv2.to (by simp) (by simp)
      obtain ⟨V2, c2, rfl⟩ := hv3.form
      refine Zv (.slice V2 ((out ++ [s]).length) c2) (ZN (yE (zH (zM (zF (zC (Zu (k := .i64) (((k + 1 : Nat) : Int)) (IntWalk.i64_in _ (by omega)) (Zv (.int .i64 ((k + 1 : Nat) : Int)) (zU (y6 (L' := [⟨gb, curb, 80⟩] ++ ob2) (fun w hO => ?_) ?_))))))))))
      · have h2 := hO.apart; rw [List.append_nil] at hO; exact Own.sub [_, _] hO
      exact zY (m' := d.length - (k + 1)) (by omega) ⟨k + 1, V2, (out ++ [s]).length, c2, out ++ [s], ob2, _, ⟨rfl, hrel.step hk hs hsk (mstep_app (fun t' ht' => by have : out = [] := List.eq_nil_of_length_eq_zero (by omega); subst this; simp at ht')) hv3⟩, rfl, ZU, rfl⟩
    obtain ⟨g, cur, hV, rfl, hcapc, hmaxc, hszc, hcurc⟩ := Sl.block hrel.sl (by omega)
    obtain ⟨t, ht⟩ : ∃ t, out[out.length - 1]'(by omega) = t := ⟨_, rfl⟩
    have htk : t.short := ht ▸ hrel.short _ (List.getElem_mem _)
    refine ZI h4 (Zw Z5 (Zw (.slice V out.length cv) (Zw (.int .i64 (((out.length : Int) : Int) - 1)) (gG (Zp g ((out.length - 1) * 14)) (by kernel_rfl) (ZA (b := g) (off := 0) (c := cv) (n := out.length) (k := .i64) (j := (out.length : Int) - 1) (e := 80) (sz := 14) hV) (Zw (Zp g ((out.length - 1) * 14 + 7)) (jB 2 ⟨g, cur, 80⟩ (off := (out.length - 1) * 14 + 7) (zI t.hi) (by kernel_rfl) rfl (by kernel_rfl) (by kernel_rfl) (xX yA hcurc (out.length - 1) 7 (by omega) (by omega) _ (by rw [ht]; kernel_rfl)) (Zw (Zp b1 0) (Zm 0 ⟨b1, (yT s).cells, 80⟩ (off := 0) (.agg (ZJ s.lo)) (Zq (k := 173) (args := #[zI t.hi, .agg (ZJ s.lo)]) (.int .i64 (zQ t.hi s.lo)) (fun w _ => mI t.hi s.lo w htk.2 hsk.1) ?_)))))))))
    by_cases h5 : (zQ t.hi s.lo : Int) < 0
    · refine Zi h5 (Zw Z4 (gH (zF (Zt (ZO (Zv (.slice V out.length cv) (Zl 0 ⟨b1, (yT s).cells, 80⟩ (off := 0) (yT s) (vG 80 (ZJ2 s.lo s.hi) (by kernel_rfl) rfl (fun _ => by kernel_rfl) (fun b2 => kM (L' := [⟨b2, (ZJ2 s.lo s.hi), 80⟩, ⟨b1, (yT s).cells, 80⟩, ⟨gb, curb, 80⟩] ++ [⟨g, cur, 80⟩] ++ []) (by rw [List.append_nil]; rfl) ?_)))))))))
      obtain ⟨i, z, e1, e2, e3, e4, e5⟩ := qH
      refine gQ (sz := 14) (by kernel_rfl) rfl Tryz.underlying29 e1 e2 e3 e4 (by kernel_rfl) hrel.sl (a := ⟨b2, 0, none⟩) (m := 1) (c := 1) (news := x6 s) (by kernel_rfl) rfl (fun w hO j u hj => ?_) (gI _) (by unfold maxLen; omega) (by rw [e5]; omega) (fun v2 ob2 hv2 => ?_)
      · rw [y7, cell_of_row w b2 (0 + j) (x6 s).toArray 80 _ (hO.held ⟨b2, (x6 s).toArray, 80⟩ (List.mem_append_left _ (List.mem_append_left _ (List.mem_cons_self ..))))]; simpa using hj
      have hv3 : SlS v2 (out ++ [s]) ob2 := hv2.to (by simp) (by simp)
      obtain ⟨V2, c2, rfl⟩ := hv3.form
      refine Zv (.slice V2 ((out ++ [s]).length) c2) (ZN (yE (zH (zM (zF (zC (Zu (k := .i64) (((k + 1 : Nat) : Int)) (IntWalk.i64_in _ (by omega)) (Zv (.int .i64 ((k + 1 : Nat) : Int)) (zU (y6 (L' := [⟨gb, curb, 80⟩] ++ ob2) (fun w hO => ?_) ?_))))))))))
      · have h2 := hO.apart; rw [List.append_nil] at hO; exact Own.sub [_, _] hO
      exact zY (m' := d.length - (k + 1)) (by omega) ⟨k + 1, V2, (out ++ [s]).length, c2, out ++ [s], ob2, _, ⟨rfl, hrel.step hk hs hsk (mstep_app (fun t' ht' => by rw [last_at (by omega) ht ht']; assumption)) hv3⟩, rfl, ZU, rfl⟩
    refine ZI h5 (Zw Z5 (gH (zF (Zf (ZB (ok_drawt 14 (by kernel_rfl) (by kernel_rfl) (by kernel_rfl) ?_))))))
    simp only [List.take_succ_cons, List.take_zero, List.drop_succ_cons, List.drop_zero]
    refine Zw (.slice V out.length cv) (Zw (.int .i64 (((out.length : Int) : Int) - 1)) (Zw (.slice V out.length cv) (Zw (.int .i64 (((out.length : Int) : Int) - 1)) (gG (Zp g ((out.length - 1) * 14)) (by kernel_rfl) (ZA (b := g) (off := 0) (c := cv) (n := out.length) (k := .i64) (j := (out.length : Int) - 1) (e := 80) (sz := 14) hV) (Zw (Zp g ((out.length - 1) * 14 + 7)) (jB 2 ⟨g, cur, 80⟩ (off := (out.length - 1) * 14 + 7) (zI t.hi) (by kernel_rfl) rfl (by kernel_rfl) (by kernel_rfl) (xX yA hcurc (out.length - 1) 7 (by omega) (by omega) _ (by rw [ht]; kernel_rfl)) (Zw (Zp b1 7) (Zm 0 ⟨b1, (yT s).cells, 80⟩ (off := 7) (.agg (ZJ s.hi)) (Zq (k := 130) (args := #[zI t.hi, .agg (ZJ s.hi)]) (.tuple #[zI (yW t.hi s.hi), zI (x3 t.hi s.hi)]) (fun w _ => qM t.hi s.hi w htk.2 hsk.2) (Zw (.tuple #[zI (yW t.hi s.hi), zI (x3 t.hi s.hi)]) (Zw (zI (yW t.hi s.hi)) ?_)))))))))))
    refine Zw (zI (x3 t.hi s.hi)) (gG (Zp g ((out.length - 1) * 14)) (by kernel_rfl) (ZA (b := g) (off := 0) (c := cv) (n := out.length) (k := .i64) (j := (out.length : Int) - 1) (e := 80) (sz := 14) hV) (gH (Zv (Zp g ((out.length - 1) * 14 + 7)) (tF 2 ⟨g, cur, 80⟩ (off := (out.length - 1) * 14 + 7) (zI (x3 t.hi s.hi)) 7 (by kernel_rfl) rfl rfl (by kernel_rfl) (by kernel_rfl) (by kernel_rfl) (by kernel_rfl) (by kernel_rfl) (by show (out.length - 1) * 14 + 7 + 7 ≤ cur.size; omega) (by kernel_rfl) ?_))))
    have hse := fA yA hcurc (out.length - 1) 7 (by omega) (zI (x3 t.hi s.hi)).cells ⟨t.lo, x3 t.hi s.hi⟩ (show 7 + 7 ≤ 14 by decide) (by rw [ht]; rfl)
    refine zU (zV (zF (zC (Zu (k := .i64) (((k + 1 : Nat) : Int)) (IntWalk.i64_in _ (by omega)) (Zv (.int .i64 ((k + 1 : Nat) : Int)) (zU ?_))))))
    have hset : Merged d (k + 1) V cv (out.set (out.length - 1) ⟨t.lo, x3 t.hi s.hi⟩) [⟨g, kJ cur ((out.length - 1) * 14 + 7) (zI (x3 t.hi s.hi)).cells, 80⟩] := hrel.step hk hs hsk (mstep_set (by omega) ht (by assumption)) (by rw [List.length_set]; exact ⟨by rw [xE yA, List.length_set], .inr ⟨g, cv, _, by rw [hV], rfl, hcapc, hmaxc, by rw [hse.2]; exact hszc, hse.1⟩⟩)
    refine y6 (L' := [⟨gb, curb, 80⟩] ++ [⟨g, kJ cur ((out.length - 1) * 14 + 7) (zI (x3 t.hi s.hi)).cells, 80⟩]) (fun w hO => Own.sub [_] hO) ?_
    have hls : (out.set (out.length - 1) ⟨t.lo, x3 t.hi s.hi⟩).length = out.length := List.length_set
    exact zY (m' := d.length - (k + 1)) (by omega) ⟨k + 1, V, out.length, cv, out.set (out.length - 1) ⟨t.lo, x3 t.hi s.hi⟩, [⟨g, kJ cur ((out.length - 1) * 14 + 7) (zI (x3 t.hi s.hi)).cells, 80⟩], _, ⟨by rw [List.length_set], hset⟩, rfl, ZU, rfl⟩
  refine Zh h3 (ZN (zB (Zf (yE (zH (zS (zM (zF (zB (zC ?_))))))))))
  refine Zv (.slice V out.length cv) (Zr (k := 132) (args := #[.slice V out.length cv]) (fun v' L' => ∃ ob', L' = od ++ ob' ∧ SlS v' out ob') (fun w hO => uY (E := od) hO hrel.sl (by omega) hrel.short) (fun v4 L2 hv2 => ?_))
  obtain ⟨ob4, rfl, hs4⟩ := hv2
  exact Zv (v4) (Zv Z4 (ZN (zG (ZG (v4) Z4 Tryz.results136 (fun w hO => ⟨v4, ob4, by rw [hall], by rw [hall, if_pos rfl, show uO l = out from by rw [← merge_eq (allMay_mem.1 hall) hdp hdso]; have he := hrel.eq; rw [List.take_of_length_le (by omega)] at he; exact he]; exact hs4, hO.sub od⟩)))))
end
section
theorem parts_in {c : Co} (h : c.may = true) : (0 ≤ c.parts ∧ c.parts ≤ 3) ∧ (¬ c.op = 9 → 1 ≤ c.parts) ∧ (c.op = 9 → c.parts ≤ 2) ∧ (vL c = 0 ∨ vL c = 1 ∨ vL c = 2 ∨ c.op = 9) := by
  obtain ⟨_, _, _, h9, hn, _⟩ := Co.facts h
  refine ⟨?_, fun e => (hn e).1, fun e => (h9 e).2, ?_⟩
  · by_cases e : c.op = 9
    · have := h9 e; omega
    · have := hn e; omega
  · by_cases e : c.op = 9
    · exact .inr (.inr (.inr e))
    · have := hn e
      unfold vL
      repeat' split
      all_goals omega
theorem cbounds_any (c : Co) (W : World) (hc : c.short) (ho : 1 ≤ c.op ∧ c.op ≤ 9) (hq : (0 ≤ c.parts ∧ c.parts ≤ 3) ∧ (¬ c.op = 9 → 1 ≤ c.parts) ∧ (c.op = 9 → c.parts ≤ 2) ∧ (vL c = 0 ∨ vL c = 1 ∨ vL c = 2 ∨ c.op = 9)) : Calls Tryz.prog 134 #[coV c] W fun e w' => e = .returned (.tuple #[zI (qP c).1, zI (qP c).2]) ∧ Below W.heap.size W w' := by
  obtain ⟨hp, hn1, h92, hlk⟩ := hq
  refine Z2 (n := 58) Tryz.func134 rfl (ZO (Zb (coV c) (fun b1 => Za (.agg ZE) (fun b2 => Za (.agg ZE) (fun b3 => ZR (Zv (.agg Z0) (Zv (.agg Z6) ?_)))))))
  refine Za (.agg ZE) (fun b4 => Za (.agg ZE) (fun b5 => Zs 1 ⟨b4, ZE, 78⟩ (off := 0) (.agg Z0) (Zs 0 ⟨b5, ZE, 78⟩ (off := 0) (.agg Z6) (jP (L' := [⟨b3, ZE, 78⟩, ⟨b2, ZE, 78⟩, ⟨b5, Z6, 78⟩, ⟨b4, Z0, 78⟩, ⟨b1, (coV c).cells, 51⟩]) (fun w hO => hO.perm ((List.perm_append_comm (l₁ := [_, _]) (l₂ := [_, _])).append_right [_])) (ZN (zB (j6 (fun L f => ∃ (p6 p7 : Nat) (j : Nat → Value), L = [⟨p7, (zI (gD c)).cells, 78⟩, ⟨p6, (zI ⟨0, c.v, false⟩).cells, 78⟩, ⟨b3, ZE, 78⟩, ⟨b2, ZE, 78⟩, ⟨b5, Z6, 78⟩, ⟨b4, Z0, 78⟩, ⟨b1, (coV c).cells, 51⟩] ∧ f = kL j [(1, Zp b1 0), (2, Zp b2 0), (3, Zp b3 0), (4, Zp b4 0), (5, Zp b5 0), (6, Zp p6 0), (7, Zp p7 0)]) ?_ ?_)))))))
  · refine j7 (by kernel_rfl) (ZT 0 [] _ (Zp b1 2) zZ rfl (ZL 1 [] _ 4 ⟨b1, (coV c).cells, 51⟩ (off := 2) (.agg (ZP c.v)) zZ rfl rfl (ZT 2 [] _ (.agg #[.int .i64 0, .int .i64 c.v.maj, .int .i64 c.v.min, .int .i64 c.v.pat, .string (mkS c.v.pre), .string (mkS c.v.build), .bool false]) zZ rfl (ZL 3 [] _ 4 ⟨b1, (coV c).cells, 51⟩ (off := 0) (coV c) zZ rfl rfl (wB 4 5 6 (by kernel_rfl) ?_ ?_ ?_)))))
    · refine Zx [] _ (k := 174) (args := #[coV c]) (zI (gD c)) rfl (fun w _ => uS c w hc hp) (kZ 5 6 (by kernel_rfl) ?_ ?_)
      · exact Zy [] _ (.agg ZE) rfl rfl (fun b6 => Zz 6 (Zy [⟨b6, ZE, 78⟩] _ (.agg ZE) rfl rfl (fun b7 => Zz 7 (ZS [⟨b7, ZE, 78⟩, ⟨b6, ZE, 78⟩] _ 1 ⟨b6, ZE, 78⟩ (off := 0) (.agg #[.int .i64 0, .int .i64 c.v.maj, .int .i64 c.v.min, .int .i64 c.v.pat, .string (mkS c.v.pre), .string (mkS c.v.build), .bool false]) rfl rfl (Zz 8 (ZS [⟨b7, ZE, 78⟩, ⟨b6, #[.int .i64 0, .int .i64 c.v.maj, .int .i64 c.v.min, .int .i64 c.v.pat, .string (mkS c.v.pre), .string (mkS c.v.build), .bool false], 78⟩] _ 0 ⟨b7, ZE, 78⟩ (off := 0) (zI (gD c)) rfl rfl (ZZ (zW ⟨b6, b7, _, rfl, ZU⟩))))))))
      exact Zy [] _ (.agg ZE) rfl rfl (fun b6 => Zz 5 (Zy [⟨b6, ZE, 78⟩] _ (.agg ZE) rfl rfl (fun b7 => Zz 7 (ZS [⟨b7, ZE, 78⟩, ⟨b6, ZE, 78⟩] _ 0 ⟨b7, ZE, 78⟩ (off := 0) (.agg #[.int .i64 0, .int .i64 c.v.maj, .int .i64 c.v.min, .int .i64 c.v.pat, .string (mkS c.v.pre), .string (mkS c.v.build), .bool false]) rfl rfl (Zz 8 (ZS [⟨b7, #[.int .i64 0, .int .i64 c.v.maj, .int .i64 c.v.min, .int .i64 c.v.pat, .string (mkS c.v.pre), .string (mkS c.v.build), .bool false], 78⟩, ⟨b6, ZE, 78⟩] _ 1 ⟨b6, ZE, 78⟩ (off := 0) (zI (gD c)) rfl rfl (ZZ (u0 (zW ⟨b7, b6, _, rfl, ZU⟩)))))))))
    · refine Zy [] _ (.agg ZE) rfl rfl (fun b6 => kZ 4 6 (by kernel_rfl) ?_ ?_)
      · exact Zx [⟨b6, ZE, 78⟩] _ (k := 174) (args := #[coV c]) (zI (gD c)) rfl (fun w _ => uS c w hc hp) (Zz 6 (Zy [⟨b6, ZE, 78⟩] _ (.agg ZE) rfl rfl (fun b7 => Zz 7 (ZS [⟨b7, ZE, 78⟩, ⟨b6, ZE, 78⟩] _ 1 ⟨b6, ZE, 78⟩ (off := 0) (.agg #[.int .i64 0, .int .i64 c.v.maj, .int .i64 c.v.min, .int .i64 c.v.pat, .string (mkS c.v.pre), .string (mkS c.v.build), .bool false]) rfl rfl (Zz 8 (ZS [⟨b7, ZE, 78⟩, ⟨b6, #[.int .i64 0, .int .i64 c.v.maj, .int .i64 c.v.min, .int .i64 c.v.pat, .string (mkS c.v.pre), .string (mkS c.v.build), .bool false], 78⟩] _ 0 ⟨b7, ZE, 78⟩ (off := 0) (zI (gD c)) rfl rfl (ZZ (zW ⟨b6, b7, _, rfl, ZU⟩))))))))
      exact Zy [⟨b6, ZE, 78⟩] _ (.agg ZE) rfl rfl (fun b7 => Zz 4 (Zx [⟨b7, ZE, 78⟩, ⟨b6, ZE, 78⟩] _ (k := 174) (args := #[coV c]) (zI (gD c)) rfl (fun w _ => uS c w hc hp) (Zz 7 (ZS [⟨b7, ZE, 78⟩, ⟨b6, ZE, 78⟩] _ 1 ⟨b6, ZE, 78⟩ (off := 0) (.agg #[.int .i64 0, .int .i64 c.v.maj, .int .i64 c.v.min, .int .i64 c.v.pat, .string (mkS c.v.pre), .string (mkS c.v.build), .bool false]) rfl rfl (Zz 8 (ZS [⟨b7, ZE, 78⟩, ⟨b6, #[.int .i64 0, .int .i64 c.v.maj, .int .i64 c.v.min, .int .i64 c.v.pat, .string (mkS c.v.pre), .string (mkS c.v.build), .bool false], 78⟩] _ 0 ⟨b7, ZE, 78⟩ (off := 0) (zI (gD c)) rfl rfl (ZZ (zW ⟨b6, b7, _, rfl, ZU⟩))))))))
    refine Zy [] _ (.agg ZE) rfl rfl (fun b6 => kZ 4 5 (by kernel_rfl) ?_ ?_)
    · exact Zx [⟨b6, ZE, 78⟩] _ (k := 174) (args := #[coV c]) (zI (gD c)) rfl (fun w _ => uS c w hc hp) (Zz 5 (Zy [⟨b6, ZE, 78⟩] _ (.agg ZE) rfl rfl (fun b7 => Zz 7 (ZS [⟨b7, ZE, 78⟩, ⟨b6, ZE, 78⟩] _ 0 ⟨b7, ZE, 78⟩ (off := 0) (.agg #[.int .i64 0, .int .i64 c.v.maj, .int .i64 c.v.min, .int .i64 c.v.pat, .string (mkS c.v.pre), .string (mkS c.v.build), .bool false]) rfl rfl (Zz 8 (ZS [⟨b7, #[.int .i64 0, .int .i64 c.v.maj, .int .i64 c.v.min, .int .i64 c.v.pat, .string (mkS c.v.pre), .string (mkS c.v.build), .bool false], 78⟩, ⟨b6, ZE, 78⟩] _ 1 ⟨b6, ZE, 78⟩ (off := 0) (zI (gD c)) rfl rfl (ZZ (u0 (zW ⟨b7, b6, _, rfl, ZU⟩)))))))))
    exact Zy [⟨b6, ZE, 78⟩] _ (.agg ZE) rfl rfl (fun b7 => Zz 4 (Zx [⟨b7, ZE, 78⟩, ⟨b6, ZE, 78⟩] _ (k := 174) (args := #[coV c]) (zI (gD c)) rfl (fun w _ => uS c w hc hp) (Zz 7 (ZS [⟨b7, ZE, 78⟩, ⟨b6, ZE, 78⟩] _ 0 ⟨b7, ZE, 78⟩ (off := 0) (.agg #[.int .i64 0, .int .i64 c.v.maj, .int .i64 c.v.min, .int .i64 c.v.pat, .string (mkS c.v.pre), .string (mkS c.v.build), .bool false]) rfl rfl (Zz 8 (ZS [⟨b7, #[.int .i64 0, .int .i64 c.v.maj, .int .i64 c.v.min, .int .i64 c.v.pat, .string (mkS c.v.pre), .string (mkS c.v.build), .bool false], 78⟩, ⟨b6, ZE, 78⟩] _ 1 ⟨b6, ZE, 78⟩ (off := 0) (zI (gD c)) rfl rfl (ZZ (u0 (zW ⟨b7, b6, _, rfl, ZU⟩)))))))))
  · rintro L f ⟨p6, p7, j, rfl, rfl⟩
    refine y6 (L' := [⟨b3, ZE, 78⟩, ⟨b2, ZE, 78⟩, ⟨p7, (zI (gD c)).cells, 78⟩, ⟨p6, (zI ⟨0, c.v, false⟩).cells, 78⟩, ⟨b5, Z6, 78⟩, ⟨b4, Z0, 78⟩, ⟨b1, (coV c).cells, 51⟩]) (fun w hO => hO.perm ((List.perm_append_comm (l₁ := [_, _]) (l₂ := [_, _])).append_right [_, _, _])) (zF (zB (ZO (Zv (Zp b1 0) (Zl 6 ⟨b1, (coV c).cells, 51⟩ (off := 0) (.int .i64 c.op) (ZN (zP (zB (zC ?_)))))))))
    by_cases h1 : (c.op : Int) = 3
    · refine Zg h1 (Zv Z4 (ZY (zB (gM ([⟨p7, (zI (gD c)).cells, 78⟩, ⟨p6, (zI ⟨0, c.v, false⟩).cells, 78⟩, ⟨b5, Z6, 78⟩, ⟨b4, Z0, 78⟩, ⟨b1, (coV c).cells, 51⟩]) (by kernel_rfl) (fun w hO => Own.sub [⟨b3, ZE, 78⟩, ⟨b2, ZE, 78⟩] hO) (ZL 0 [⟨b3, ZE, 78⟩, ⟨b2, ZE, 78⟩] _ 3 ⟨b4, Z0, 78⟩ (off := 0) (.agg Z0) (zL (y5 (zL zO))) rfl rfl (ZL 1 [⟨b3, ZE, 78⟩, ⟨b2, ZE, 78⟩] _ 1 ⟨p6, (zI ⟨0, c.v, false⟩).cells, 78⟩ (off := 0) (zI ⟨0, c.v, false⟩) (zL (y5 (zL zO))) rfl rfl (Zz 2 (ZS [⟨b3, ZE, 78⟩, ⟨b2, ZE, 78⟩] _ 1 ⟨b2, ZE, 78⟩ (off := 0) (.agg Z0) rfl rfl (Zz 3 ?_)))))))))
      exact ZS [⟨b3, ZE, 78⟩, ⟨b2, Z0, 78⟩] _ 0 ⟨b3, ZE, 78⟩ (off := 0) (zI ⟨0, c.v, false⟩) rfl rfl (ZZ (zF (zG (zJ (zD (ZH 1 0 ⟨b2, Z0, 78⟩ ⟨b3, (zI ⟨0, c.v, false⟩).cells, 78⟩ (off := 0) (oft := 0) (.agg Z0) (zI ⟨0, c.v, false⟩) Tryz.results134 (fun w hO => ⟨by rw [show qP c = ((y8 (-1)), ⟨0, c.v, false⟩) from by unfold qP; simp [h1]]; try rfl, hO.below⟩)))))))
    refine Zh h1 (Zv Z5 (ZX (zB (zC ?_))))
    by_cases h2 : (c.op : Int) = 4
    · refine Zg h2 (Zv Z4 (ZY (zB (gM ([⟨p7, (zI (gD c)).cells, 78⟩, ⟨p6, (zI ⟨0, c.v, false⟩).cells, 78⟩, ⟨b5, Z6, 78⟩, ⟨b4, Z0, 78⟩, ⟨b1, (coV c).cells, 51⟩]) (by kernel_rfl) (fun w hO => Own.sub [⟨b3, ZE, 78⟩, ⟨b2, ZE, 78⟩] hO) (ZL 0 [⟨b3, ZE, 78⟩, ⟨b2, ZE, 78⟩] _ 3 ⟨b4, Z0, 78⟩ (off := 0) (.agg Z0) (zL (y5 (zL zO))) rfl rfl (ZL 1 [⟨b3, ZE, 78⟩, ⟨b2, ZE, 78⟩] _ 0 ⟨p7, (zI (gD c)).cells, 78⟩ (off := 0) (zI (gD c)) (zL (y5 (zL zO))) rfl rfl (Zz 2 (ZS [⟨b3, ZE, 78⟩, ⟨b2, ZE, 78⟩] _ 1 ⟨b2, ZE, 78⟩ (off := 0) (.agg Z0) rfl rfl (Zz 3 ?_)))))))))
      exact ZS [⟨b3, ZE, 78⟩, ⟨b2, Z0, 78⟩] _ 0 ⟨b3, ZE, 78⟩ (off := 0) (zI (gD c)) rfl rfl (ZZ (zF (zG (zJ (zD (ZH 1 0 ⟨b2, Z0, 78⟩ ⟨b3, (zI (gD c)).cells, 78⟩ (off := 0) (oft := 0) (.agg Z0) (zI (gD c)) Tryz.results134 (fun w hO => ⟨by rw [show qP c = ((y8 (-1)), (gD c)) from by unfold qP; simp [h1, h2]]; try rfl, hO.below⟩)))))))
    refine Zh h2 (Zv Z5 (ZX (zB (zC ?_))))
    by_cases h3 : (c.op : Int) = 5
    · refine Zg h3 (Zv Z4 (ZY (zB (gM ([⟨p7, (zI (gD c)).cells, 78⟩, ⟨p6, (zI ⟨0, c.v, false⟩).cells, 78⟩, ⟨b5, Z6, 78⟩, ⟨b4, Z0, 78⟩, ⟨b1, (coV c).cells, 51⟩]) (by kernel_rfl) (fun w hO => Own.sub [⟨b3, ZE, 78⟩, ⟨b2, ZE, 78⟩] hO) (ZL 0 [⟨b3, ZE, 78⟩, ⟨b2, ZE, 78⟩] _ 0 ⟨p7, (zI (gD c)).cells, 78⟩ (off := 0) (zI (gD c)) (zL (y5 (zL zO))) rfl rfl (ZL 1 [⟨b3, ZE, 78⟩, ⟨b2, ZE, 78⟩] _ 2 ⟨b5, Z6, 78⟩ (off := 0) (.agg Z6) (zL (y5 (zL zO))) rfl rfl (Zz 2 (ZS [⟨b3, ZE, 78⟩, ⟨b2, ZE, 78⟩] _ 1 ⟨b2, ZE, 78⟩ (off := 0) (zI (gD c)) rfl rfl (Zz 3 ?_)))))))))
      exact ZS [⟨b3, ZE, 78⟩, ⟨b2, (zI (gD c)).cells, 78⟩] _ 0 ⟨b3, ZE, 78⟩ (off := 0) (.agg Z6) rfl rfl (ZZ (zF (zG (zJ (zD (ZH 1 0 ⟨b2, (zI (gD c)).cells, 78⟩ ⟨b3, Z6, 78⟩ (off := 0) (oft := 0) (zI (gD c)) (.agg Z6) Tryz.results134 (fun w hO => ⟨by rw [show qP c = ((gD c), (y8 1)) from by unfold qP; simp [h1, h2, h3]]; try rfl, hO.below⟩)))))))
    refine Zh h3 (Zv Z5 (ZX (zB (zC ?_))))
    by_cases h4 : (c.op : Int) = 6
    · refine Zg h4 (Zv Z4 (ZY (zB (gM ([⟨p7, (zI (gD c)).cells, 78⟩, ⟨p6, (zI ⟨0, c.v, false⟩).cells, 78⟩, ⟨b5, Z6, 78⟩, ⟨b4, Z0, 78⟩, ⟨b1, (coV c).cells, 51⟩]) (by kernel_rfl) (fun w hO => Own.sub [⟨b3, ZE, 78⟩, ⟨b2, ZE, 78⟩] hO) (ZL 0 [⟨b3, ZE, 78⟩, ⟨b2, ZE, 78⟩] _ 1 ⟨p6, (zI ⟨0, c.v, false⟩).cells, 78⟩ (off := 0) (zI ⟨0, c.v, false⟩) (zL (y5 (zL zO))) rfl rfl (ZL 1 [⟨b3, ZE, 78⟩, ⟨b2, ZE, 78⟩] _ 2 ⟨b5, Z6, 78⟩ (off := 0) (.agg Z6) (zL (y5 (zL zO))) rfl rfl (Zz 2 (ZS [⟨b3, ZE, 78⟩, ⟨b2, ZE, 78⟩] _ 1 ⟨b2, ZE, 78⟩ (off := 0) (zI ⟨0, c.v, false⟩) rfl rfl (Zz 3 ?_)))))))))
      exact ZS [⟨b3, ZE, 78⟩, ⟨b2, (zI ⟨0, c.v, false⟩).cells, 78⟩] _ 0 ⟨b3, ZE, 78⟩ (off := 0) (.agg Z6) rfl rfl (ZZ (zF (zG (zJ (zD (ZH 1 0 ⟨b2, (zI ⟨0, c.v, false⟩).cells, 78⟩ ⟨b3, Z6, 78⟩ (off := 0) (oft := 0) (zI ⟨0, c.v, false⟩) (.agg Z6) Tryz.results134 (fun w hO => ⟨by rw [show qP c = (⟨0, c.v, false⟩, (y8 1)) from by unfold qP; simp [h1, h2, h3, h4]]; try rfl, hO.below⟩)))))))
    refine Zh h4 (Zv Z5 (ZX (zB (zC ?_))))
    by_cases h5 : (c.op : Int) = 7
    · refine Zg h5 (Zv Z4 (ZY (zB (gM ([⟨p7, (zI (gD c)).cells, 78⟩, ⟨p6, (zI ⟨0, c.v, false⟩).cells, 78⟩, ⟨b5, Z6, 78⟩, ⟨b4, Z0, 78⟩, ⟨b1, (coV c).cells, 51⟩]) (by kernel_rfl) (fun w hO => Own.sub [⟨b3, ZE, 78⟩, ⟨b2, ZE, 78⟩] hO) (ZL 0 [⟨b3, ZE, 78⟩, ⟨b2, ZE, 78⟩] _ 1 ⟨p6, (zI ⟨0, c.v, false⟩).cells, 78⟩ (off := 0) (zI ⟨0, c.v, false⟩) (zL (y5 (zL zO))) rfl rfl (ZT 1 [⟨b3, ZE, 78⟩, ⟨b2, ZE, 78⟩] _ (Zp b1 2) (zL (y5 (zL zO))) rfl (ZL 2 [⟨b3, ZE, 78⟩, ⟨b2, ZE, 78⟩] _ 4 ⟨b1, (coV c).cells, 51⟩ (off := 2) (.agg (ZP c.v)) (zL (y5 (zL zO))) rfl rfl (ZL 3 [⟨b3, ZE, 78⟩, ⟨b2, ZE, 78⟩] _ 4 ⟨b1, (coV c).cells, 51⟩ (off := 0) (coV c) (zL (y5 (zL zO))) rfl rfl (Zz 4 ?_)))))))))
      refine Zx [⟨b3, ZE, 78⟩, ⟨b2, ZE, 78⟩] _ (k := 176) (args := #[coV c]) (.int .i64 (vL c)) rfl (fun w _ => clead_any c w hc hp) (Zz 5 (Zx [⟨b3, ZE, 78⟩, ⟨b2, ZE, 78⟩] _ (k := 175) (args := #[.agg (ZP c.v), .int .i64 (vL c)]) (zI (qO c.v (vL c).toNat)) rfl (fun w _ => bJ (by unfold uP; rw [if_neg (by omega)]) (chigh_any c.v (vL c) w hc (by omega))) (Zz 6 (ZS [⟨b3, ZE, 78⟩, ⟨b2, ZE, 78⟩] _ 1 ⟨b2, ZE, 78⟩ (off := 0) (zI ⟨0, c.v, false⟩) rfl rfl (Zz 7 (ZS [⟨b3, ZE, 78⟩, ⟨b2, (zI ⟨0, c.v, false⟩).cells, 78⟩] _ 0 ⟨b3, ZE, 78⟩ (off := 0) (zI (qO c.v (vL c).toNat)) rfl rfl (ZZ (zF (zG (zJ (zD ?_)))))))))))
      exact ZH 1 0 ⟨b2, (zI ⟨0, c.v, false⟩).cells, 78⟩ ⟨b3, (zI (qO c.v (vL c).toNat)).cells, 78⟩ (off := 0) (oft := 0) (zI ⟨0, c.v, false⟩) (zI (qO c.v (vL c).toNat)) Tryz.results134 (fun w hO => ⟨by rw [show qP c = (⟨0, c.v, false⟩, (qO c.v (vL c).toNat)) from by unfold qP; simp [h1, h2, h3, h4, h5]]; try rfl, hO.below⟩)
    refine Zh h5 (Zv Z5 (ZX (zB (zC ?_))))
    by_cases h6 : (c.op : Int) = 8
    · refine Zg h6 (Zv Z4 (ZY (zB (gM ([⟨p7, (zI (gD c)).cells, 78⟩, ⟨p6, (zI ⟨0, c.v, false⟩).cells, 78⟩, ⟨b5, Z6, 78⟩, ⟨b4, Z0, 78⟩, ⟨b1, (coV c).cells, 51⟩]) (by kernel_rfl) (fun w hO => Own.sub [⟨b3, ZE, 78⟩, ⟨b2, ZE, 78⟩] hO) (ZL 0 [⟨b3, ZE, 78⟩, ⟨b2, ZE, 78⟩] _ 1 ⟨p6, (zI ⟨0, c.v, false⟩).cells, 78⟩ (off := 0) (zI ⟨0, c.v, false⟩) (zL (y5 (zL zO))) rfl rfl (ZT 1 [⟨b3, ZE, 78⟩, ⟨b2, ZE, 78⟩] _ (Zp b1 2) (zL (y5 (zL zO))) rfl (ZL 2 [⟨b3, ZE, 78⟩, ⟨b2, ZE, 78⟩] _ 4 ⟨b1, (coV c).cells, 51⟩ (off := 2) (.agg (ZP c.v)) (zL (y5 (zL zO))) rfl rfl (ZT 3 [⟨b3, ZE, 78⟩, ⟨b2, ZE, 78⟩] _ (Zp b1 1) (zL (y5 (zL zO))) rfl (ZL 4 [⟨b3, ZE, 78⟩, ⟨b2, ZE, 78⟩] _ 4 ⟨b1, (coV c).cells, 51⟩ (off := 1) (.int .i64 c.parts) (zL (y5 (zL zO))) rfl rfl ?_)))))))))
      refine hl_sum (k := .i64) 5 _ ((c.parts : Int) - 1) rfl (by kernel_rfl) (by kernel_rfl) (by kernel_rfl) (zL (y5 (zL zO))) (fun w hO => Own.sub [⟨b3, ZE, 78⟩, ⟨b2, ZE, 78⟩] hO) (by kernel_rfl) (fun _ => by kernel_rfl) (IntWalk.i64_in _ (by omega)) (uT 6 [⟨b3, ZE, 78⟩, ⟨b2, ZE, 78⟩] _ (.int .i64 (min ((c.parts : Int) - 1) (1 : Int))) rfl (by kernel_rfl) (by kernel_rfl) (by kernel_rfl) (zL (y5 (zL zO))) (by kernel_rfl) (fun w _ => run_min2 (k := .i64) (q := .i64) (i := (c.parts : Int) - 1) (j := 1) rfl (by kernel_rfl) (by kernel_rfl) w) (Zz 7 (Zx [⟨b3, ZE, 78⟩, ⟨b2, ZE, 78⟩] _ (k := 175) (args := #[.agg (ZP c.v), .int .i64 (min ((c.parts : Int) - 1) (1 : Int))]) (zI (qO c.v (min (c.parts - 1) 1).toNat)) rfl (fun w _ => bJ (by unfold uP; rw [if_neg (by omega)]) (chigh_any c.v (min ((c.parts : Int) - 1) (1 : Int)) w hc (by omega))) (Zz 8 (ZS [⟨b3, ZE, 78⟩, ⟨b2, ZE, 78⟩] _ 1 ⟨b2, ZE, 78⟩ (off := 0) (zI ⟨0, c.v, false⟩) rfl rfl (Zz 9 (ZS [⟨b3, ZE, 78⟩, ⟨b2, (zI ⟨0, c.v, false⟩).cells, 78⟩] _ 0 ⟨b3, ZE, 78⟩ (off := 0) (zI (qO c.v (min (c.parts - 1) 1).toNat)) rfl rfl (ZZ (zF (zG (zJ ?_)))))))))))
      exact zD (ZH 1 0 ⟨b2, (zI ⟨0, c.v, false⟩).cells, 78⟩ ⟨b3, (zI (qO c.v (min (c.parts - 1) 1).toNat)).cells, 78⟩ (off := 0) (oft := 0) (zI ⟨0, c.v, false⟩) (zI (qO c.v (min (c.parts - 1) 1).toNat)) Tryz.results134 (fun w hO => ⟨by rw [show qP c = (⟨0, c.v, false⟩, (qO c.v (min (c.parts - 1) 1).toNat)) from by unfold qP; simp [h1, h2, h3, h4, h5, h6]]; try rfl, hO.below⟩))
    refine Zh h6 (Zv Z5 (ZX (xD (zV (zF (zB (ZO (Zv (Zp b1 1) ?_))))))))
    refine Zl 6 ⟨b1, (coV c).cells, 51⟩ (off := 1) (.int .i64 c.parts) ?_
    by_cases h7 : (c.parts : Int) = 0
    · refine Zg h7 (ZY (zB (gM ([⟨p7, (zI (gD c)).cells, 78⟩, ⟨p6, (zI ⟨0, c.v, false⟩).cells, 78⟩, ⟨b5, Z6, 78⟩, ⟨b4, Z0, 78⟩, ⟨b1, (coV c).cells, 51⟩]) (by kernel_rfl) (fun w hO => Own.sub [⟨b3, ZE, 78⟩, ⟨b2, ZE, 78⟩] hO) (ZL 0 [⟨b3, ZE, 78⟩, ⟨b2, ZE, 78⟩] _ 3 ⟨b4, Z0, 78⟩ (off := 0) (.agg Z0) (zL (zL zO)) rfl rfl (ZL 1 [⟨b3, ZE, 78⟩, ⟨b2, ZE, 78⟩] _ 2 ⟨b5, Z6, 78⟩ (off := 0) (.agg Z6) (zL (zL zO)) rfl rfl (Zz 2 (ZS [⟨b3, ZE, 78⟩, ⟨b2, ZE, 78⟩] _ 1 ⟨b2, ZE, 78⟩ (off := 0) (.agg Z0) rfl rfl (Zz 3 (ZS [⟨b3, ZE, 78⟩, ⟨b2, Z0, 78⟩] _ 0 ⟨b3, ZE, 78⟩ (off := 0) (.agg Z6) rfl rfl ?_)))))))))
      exact ZZ (zF (zG (zD (ZH 1 0 ⟨b2, Z0, 78⟩ ⟨b3, Z6, 78⟩ (off := 0) (oft := 0) (.agg Z0) (.agg Z6) Tryz.results134 (fun w hO => ⟨by rw [show qP c = ((y8 (-1)), (y8 1)) from by unfold qP; simp [h1, h2, h3, h4, h5, h6, h7]]; try rfl, hO.below⟩)))))
    refine Zh h7 (ZX (ZB (zB (gM ([⟨p7, (zI (gD c)).cells, 78⟩, ⟨p6, (zI ⟨0, c.v, false⟩).cells, 78⟩, ⟨b5, Z6, 78⟩, ⟨b4, Z0, 78⟩, ⟨b1, (coV c).cells, 51⟩]) (by kernel_rfl) (fun w hO => Own.sub [⟨b3, ZE, 78⟩, ⟨b2, ZE, 78⟩] hO) (ZL 0 [⟨b3, ZE, 78⟩, ⟨b2, ZE, 78⟩] _ 1 ⟨p6, (zI ⟨0, c.v, false⟩).cells, 78⟩ (off := 0) (zI ⟨0, c.v, false⟩) (zL zO) rfl rfl (ZL 1 [⟨b3, ZE, 78⟩, ⟨b2, ZE, 78⟩] _ 0 ⟨p7, (zI (gD c)).cells, 78⟩ (off := 0) (zI (gD c)) (zL zO) rfl rfl (Zz 2 (ZS [⟨b3, ZE, 78⟩, ⟨b2, ZE, 78⟩] _ 1 ⟨b2, ZE, 78⟩ (off := 0) (zI ⟨0, c.v, false⟩) rfl rfl ?_))))))))
    exact Zz 3 (ZS [⟨b3, ZE, 78⟩, ⟨b2, (zI ⟨0, c.v, false⟩).cells, 78⟩] _ 0 ⟨b3, ZE, 78⟩ (off := 0) (zI (gD c)) rfl rfl (ZZ (zF (zG (ZH 1 0 ⟨b2, (zI ⟨0, c.v, false⟩).cells, 78⟩ ⟨b3, (zI (gD c)).cells, 78⟩ (off := 0) (oft := 0) (zI ⟨0, c.v, false⟩) (zI (gD c)) Tryz.results134 (fun w hO => ⟨by rw [show qP c = (⟨0, c.v, false⟩, (gD c)) from by unfold qP; simp [h1, h2, h3, h4, h5, h6, h7]]; try rfl, hO.below⟩))))))
theorem one_row {lo hi : Cu} : (if gK [⟨lo, hi⟩] then uO [⟨lo, hi⟩] else []) = kN lo hi := by
  rw [fF]
  by_cases h : zQ lo hi < 0
  · have hm := d7 h
    rw [if_pos h, if_pos (show gK [⟨lo, hi⟩] = true from allMay_mem.2 fun s hs => by rw [List.mem_singleton.1 hs]; exact hm)]
    exact make_self (show zN [⟨lo, hi⟩] = true from hm)
  · rw [if_neg h, if_neg (fun q => h (uW (allMay_mem.1 q _ (List.mem_singleton.2 rfl))))]
theorem fL (lo hi : Cu) (W : World) (hl : lo.short) (hh : hi.short) : Calls Tryz.prog 133 #[zI lo, zI hi] W fun e w' => ∃ v' ob', e = .returned v' ∧ SlS v' (kN lo hi) ob' ∧ Own [] W w' ob' := by
  refine Z2 (n := 16) Tryz.func133 rfl (ZO (Zb (zI lo) (fun b1 => Zb (zI hi) (fun b2 => Zv (.slice none 0 0) (ZR (Zl 1 ⟨b1, (zI lo).cells, 78⟩ (off := 0) (zI lo) (Zl 0 ⟨b2, (zI hi).cells, 78⟩ (off := 0) (zI hi) ?_)))))))
  refine Zv (.agg (ZJ2 lo hi)) (vG 80 (ZJ2 lo hi) (by kernel_rfl) rfl (fun _ => by kernel_rfl) (fun b3 => Zr (k := 136) (args := #[.slice (some ⟨b3, 0, none⟩) 1 1]) (fun v' L' => ∃ mv ob', v' = .tuple #[mv, .bool (gK [⟨lo, hi⟩])] ∧ L' = ob' ++ ([⟨b3, (ZJ2 lo hi), 80⟩, ⟨b2, (zI hi).cells, 78⟩, ⟨b1, (zI lo).cells, 78⟩]) ∧ SlS mv (kN lo hi) ob') (fun w hO => (mX (some ⟨b3, 0, none⟩) 1 [⟨lo, hi⟩] w (Sl.reads (slit6 ⟨lo, hi⟩ b3 (ZJ2 lo hi) (by kernel_rfl)) rfl hO (fun x hx => by rw [List.mem_singleton.1 hx]; exact List.mem_cons_self)) (by show 1 ≤ _; decide) (fun s hs => by rw [List.mem_singleton.1 hs]; exact ⟨hl, hh⟩)).mono fun e w' ⟨v', ob', k1, k2, k3⟩ => ⟨_, _, k1, ⟨v', ob', rfl, rfl, by rw [one_row] at k2; exact k2⟩, Own.joinN hO k3⟩) (fun tv L2 hv2 => ?_)))
  obtain ⟨v2, o2, rfl, rfl, hr2⟩ := hv2
  refine Zv (.tuple #[v2, .bool (gK [⟨lo, hi⟩])]) (Zv (v2) (Zv (.bool (gK [⟨lo, hi⟩])) (Zv (v2) (Zv (.bool (gK [⟨lo, hi⟩])) (ZR (Zv (v2) (Zv (v2) (zU ?_))))))))
  exact zF (zG (ZF (v2) Tryz.results133 (fun w hO => ⟨v2, o2, rfl, hr2, hO.sublist (List.sublist_append_left _ _)⟩)))
theorem oneRow_len6 (lo hi : Cu) : (kN lo hi).length ≤ 1 := by have := nG [] lo hi; simpa [kN] using this
theorem oneRow_short6 {lo hi : Cu} (hl : lo.short) (hh : hi.short) : x5 (kN lo hi) := fun s hs => by
  rw [fF] at hs
  split at hs
  · rw [List.mem_singleton.1 hs]; exact ⟨hl, hh⟩
  · cases hs
theorem cRegion_any (c : Co) (W : World) (hc : c.short) : Calls Tryz.prog 82 #[coV c] W fun e w' => ∃ v' ob', e = .returned v' ∧ SlS v' c.region ob' ∧ Own [] W w' ob' := by
  have hs1 := (span_short hc).1
  have hs2 := (span_short hc).2
  refine Z2 (n := 18) Tryz.func82 rfl (ZO (Zb (coV c) (fun b1 => Zv (.slice none 0 0) (ZN (zB (ZO (Zl 0 ⟨b1, (coV c).cells, 51⟩ (off := 0) (coV c) (Zc (k := 73) (args := #[coV c]) (.bool c.may) (fun w _ => cMay_any c w hc) ?_))))))))
  cases h1 : c.may with
  | true =>
    refine Zv Z5 (ZX (ZB (ZO (Zl 0 ⟨b1, (coV c).cells, 51⟩ (off := 0) (coV c) (Zc (k := 134) (args := #[coV c]) (.tuple #[zI c.span.1, zI c.span.2]) (fun w _ => bJ (by rw [bound_span h1]) (cbounds_any c w hc (Co.facts h1).1 (parts_in h1))) (Zv (zI c.span.1) (Zv (zI c.span.2) ?_)))))))
    refine Zr (k := 133) (args := #[zI c.span.1, zI c.span.2]) (fun v' L' => ∃ ob', L' = ob' ++ ([⟨b1, (coV c).cells, 51⟩]) ∧ SlS v' (kN c.span.1 c.span.2) ob') (fun w hO => (fL c.span.1 c.span.2 w hs1 hs2).mono fun e w' ⟨v', ob', k1, k2, k3⟩ => ⟨v', _, k1, ⟨ob', rfl, k2⟩, Own.joinN hO k3⟩) (fun v1 L1 hv1 => ?_)
    obtain ⟨o1, rfl, hr1⟩ := hv1
    obtain ⟨V1, c1, rfl⟩ := hr1.form
    refine Zv (.slice V1 ((kN c.span.1 c.span.2).length) c1) (ZN (zB (ZO (Zv (Zp b1 0) (jQ ⟨b1, (coV c).cells, 51⟩ (off := 0) (.int .i64 c.op) (by kernel_rfl) rfl (by simp) (by kernel_rfl) (by kernel_rfl) ?_)))))
    by_cases h2 : (c.op : Int) = 2
    · refine Zg h2 (ZY (ZO (Zv (.slice V1 ((kN c.span.1 c.span.2).length) c1) (Zr (k := 135) (args := #[.slice V1 (kN c.span.1 c.span.2).length c1]) (fun v' L' => ∃ ob', L' = ob' ++ (o1 ++ ([⟨b1, (coV c).cells, 51⟩])) ∧ SlS v' (jM (kN c.span.1 c.span.2)) ob') (fun w hO => (not4_any V1 c1 (kN c.span.1 c.span.2) w (Sl.reads hr1 rfl hO (fun x hx => by simp [hx])) (Nat.le_trans (oneRow_len6 _ _) (by decide)) (oneRow_short6 hs1 hs2)).mono fun e w' ⟨v', ob', k1, k2, k3⟩ => ⟨v', _, k1, ⟨ob', rfl, by rw [if_pos (oneRow_may _ _)] at k2; exact k2⟩, Own.joinN hO k3⟩) (fun v3 L3 hv3 => ?_)))))
      obtain ⟨o3, rfl, hr3⟩ := hv3
      exact Zv (v3) (ZN (zG (zD (ZF (v3) Tryz.results82 (fun w hO => ⟨v3, o3, rfl, by rw [show c.region = jM (kN c.span.1 c.span.2) from by unfold Co.region; rw [if_pos (by assumption), if_pos h2]]; exact hr3, hO.sublist (List.sublist_append_left _ _)⟩)))))
    refine Zh h2 (ZX (ZB (ZO (Zv (.slice V1 ((kN c.span.1 c.span.2).length) c1) (Zv (.slice V1 ((kN c.span.1 c.span.2).length) c1) (zU (zF ?_)))))))
    exact zG (ZF (.slice V1 ((kN c.span.1 c.span.2).length) c1) Tryz.results82 (fun w hO => ⟨_, o1, rfl, by rw [show c.region = kN c.span.1 c.span.2 from by unfold Co.region; rw [if_pos (by assumption), if_neg h2]]; exact hr1, hO.sublist (List.sublist_append_left _ _)⟩))
  | false =>
    refine Zv Z4 (ZY (ZO (Zv (.slice none 0 0) (ZN (zG (zD (ZF (.slice none 0 0) Tryz.results82 ?_)))))))
    exact fun w hO => ⟨_, [], rfl, by rw [show c.region = [] from by unfold Co.region; simp [h1]]; exact Sl.nil _ _, vH hO⟩
theorem zone_one {c : Co} (h : c.may = true) (hp : ¬ c.v.pre = []) : c.zone = kN ⟨0, { c.v with pre := [48] }, false⟩ ⟨0, { c.v with pre := [] }, false⟩ := by
  have hb := (Co.facts h).2.2.1
  have hz : c.zone = [⟨⟨0, { c.v with pre := [48], build := [] }, false⟩, ⟨0, { c.v with pre := [], build := [] }, false⟩⟩] := by
    unfold Co.zone
    rw [h, decide_eq_false hp]; rfl
  have hm : zN c.zone = true := zone_may
  have e1 : ({ c.v with pre := [48] } : Ver) = { c.v with pre := [48], build := [] } := by rw [← hb]
  have e2 : ({ c.v with pre := [] } : Ver) = { c.v with pre := [], build := [] } := by rw [← hb]
  rw [e1, e2, fF]
  rw [hz] at hm ⊢
  rw [if_pos (uW (show Sp.may _ = true from xG hm _ (List.mem_singleton.2 rfl)))]
theorem cZone_any (c : Co) (W : World) (hc : c.short) : Calls Tryz.prog 84 #[coV c] W fun e w' => ∃ v' ob', e = .returned v' ∧ SlS v' c.zone ob' ∧ Own [] W w' ob' := by
  have hl1 : (⟨0, { c.v with pre := [48] }, false⟩ : Cu).short := ⟨by show ([48] : List UInt8).length ≤ _; decide, hc.2⟩
  have hb1 : (⟨0, { c.v with pre := [] }, false⟩ : Cu).short := ⟨Nat.zero_le _, hc.2⟩
  refine Z2 (n := 25) Tryz.func84 rfl (ZO (Zb (coV c) (fun b1 => Zv (.slice none 0 0) (ZN (zB (ZO (Zl 0 ⟨b1, (coV c).cells, 51⟩ (off := 0) (coV c) (Zc (k := 73) (args := #[coV c]) (.bool c.may) (fun w _ => cMay_any c w hc) ?_))))))))
  cases h1 : c.may with
  | true =>
    refine Zv Z5 (Zv Z5 (Zv (Zp b1 2) (Zv (Zp b1 5) (Zl 0 ⟨b1, (coV c).cells, 51⟩ (off := 5) (.string (mkS c.v.pre)) ?_))))
    by_cases h2 : (c.v.pre : List UInt8) = []
    · refine zX Z4 (by kernel_rfl) (xB (a := c.v.pre) (b := ([])) rfl (by kernel_rfl) (by kernel_rfl) (decide_eq_true (h2))) (Zv Z4 (ZY (ZO (Zv (.slice none 0 0) (ZN (zG (zD ?_)))))))
      exact ZF (.slice none 0 0) Tryz.results84 (fun w hO => ⟨_, [], rfl, by rw [show c.zone = [] from by unfold Co.zone; simp [h1, h2]]; exact Sl.nil _ _, vH hO⟩)
    refine zX Z5 (by kernel_rfl) (xB (a := c.v.pre) (b := ([])) rfl (by kernel_rfl) (by kernel_rfl) (decide_eq_false (h2))) (Zv Z5 (ZX (ZB (zB (j7 (by kernel_rfl) (ZT 0 [] _ (Zp b1 2) (zL zO) rfl (ZL 1 [] _ 0 ⟨b1, (coV c).cells, 51⟩ (off := 2) (.agg (ZP c.v)) (zL zO) rfl rfl (ZT 2 [] _ (Zp b1 2) (zL zO) rfl ?_))))))))
    refine ZL 3 [] _ 0 ⟨b1, (coV c).cells, 51⟩ (off := 2) (.agg (ZP c.v)) (zL zO) rfl rfl (kZ 4 5 (by kernel_rfl) ?_ ?_)
    · refine Zy [] _ (.agg Z7) rfl rfl (fun b2 => Zz 5 (Zy [⟨b2, Z7, 44⟩] _ (.agg Z7) rfl rfl (fun b3 => Zz 6 (ZS [⟨b3, Z7, 44⟩, ⟨b2, Z7, 44⟩] _ 1 ⟨b2, Z7, 44⟩ (off := 0) (.agg (ZP c.v)) rfl rfl (Zz 7 (ZS [⟨b3, Z7, 44⟩, ⟨b2, (ZP c.v), 44⟩] _ 0 ⟨b3, Z7, 44⟩ (off := 0) (.agg (ZP c.v)) rfl rfl (ZZ (zF (ZO (Zv (Zp b2 3) ?_))))))))))
      refine Zs 1 ⟨b2, (ZP c.v), 44⟩ (off := 3) (.string ⟨#[48]⟩) (Zv (Zp b3 3) (Zs 0 ⟨b3, (ZP c.v), 44⟩ (off := 3) (.string ⟨#[]⟩) (ZR (Zl 1 ⟨b2, #[.int .i64 c.v.maj, .int .i64 c.v.min, .int .i64 c.v.pat, .string ⟨#[48]⟩, .string (mkS c.v.build)], 44⟩ (off := 0) (.agg #[.int .i64 c.v.maj, .int .i64 c.v.min, .int .i64 c.v.pat, .string ⟨#[48]⟩, .string (mkS c.v.build)]) (Zv (.agg #[.int .i64 0, .int .i64 c.v.maj, .int .i64 c.v.min, .int .i64 c.v.pat, .string ⟨#[48]⟩, .string (mkS c.v.build), .bool false]) (Zl 0 ⟨b3, #[.int .i64 c.v.maj, .int .i64 c.v.min, .int .i64 c.v.pat, .string ⟨#[]⟩, .string (mkS c.v.build)], 44⟩ (off := 0) (.agg #[.int .i64 c.v.maj, .int .i64 c.v.min, .int .i64 c.v.pat, .string ⟨#[]⟩, .string (mkS c.v.build)]) (Zv (.agg #[.int .i64 0, .int .i64 c.v.maj, .int .i64 c.v.min, .int .i64 c.v.pat, .string ⟨#[]⟩, .string (mkS c.v.build), .bool false]) (Zr (k := 133) (args := #[.agg #[.int .i64 0, .int .i64 c.v.maj, .int .i64 c.v.min, .int .i64 c.v.pat, .string ⟨#[48]⟩, .string (mkS c.v.build), .bool false], .agg #[.int .i64 0, .int .i64 c.v.maj, .int .i64 c.v.min, .int .i64 c.v.pat, .string ⟨#[]⟩, .string (mkS c.v.build), .bool false]]) (fun v' L' => ∃ ob', L' = ob' ++ ([⟨b3, #[.int .i64 c.v.maj, .int .i64 c.v.min, .int .i64 c.v.pat, .string ⟨#[]⟩, .string (mkS c.v.build)], 44⟩, ⟨b2, #[.int .i64 c.v.maj, .int .i64 c.v.min, .int .i64 c.v.pat, .string ⟨#[48]⟩, .string (mkS c.v.build)], 44⟩, ⟨b1, (coV c).cells, 51⟩]) ∧ SlS v' (kN (⟨0, { c.v with pre := [48] }, false⟩) (⟨0, { c.v with pre := [] }, false⟩)) ob') (fun w hO => (fL (⟨0, { c.v with pre := [48] }, false⟩) (⟨0, { c.v with pre := [] }, false⟩) w hl1 hb1).mono fun e w' ⟨v', ob', k1, k2, k3⟩ => ⟨v', _, k1, ⟨ob', rfl, k2⟩, Own.joinN hO k3⟩) (fun v1 L1 hv1 => ?_)))))))))
      obtain ⟨o1, rfl, hr1⟩ := hv1
      obtain ⟨V1, c1, rfl⟩ := hr1.form
      exact Zv (.slice V1 ((kN (⟨0, { c.v with pre := [48] }, false⟩) (⟨0, { c.v with pre := [] }, false⟩)).length) c1) (ZN (zG (ZF (.slice V1 ((kN (⟨0, { c.v with pre := [48] }, false⟩) (⟨0, { c.v with pre := [] }, false⟩)).length) c1) Tryz.results84 (fun w hO => ⟨_, o1, rfl, by rw [zone_one h1 h2]; exact hr1, hO.sublist (List.sublist_append_left _ _)⟩))))
    refine Zy [] _ (.agg Z7) rfl rfl (fun b2 => Zz 4 (Zy [⟨b2, Z7, 44⟩] _ (.agg Z7) rfl rfl (fun b3 => Zz 6 (ZS [⟨b3, Z7, 44⟩, ⟨b2, Z7, 44⟩] _ 0 ⟨b3, Z7, 44⟩ (off := 0) (.agg (ZP c.v)) rfl rfl (Zz 7 (ZS [⟨b3, (ZP c.v), 44⟩, ⟨b2, Z7, 44⟩] _ 1 ⟨b2, Z7, 44⟩ (off := 0) (.agg (ZP c.v)) rfl rfl (ZZ (zF (ZO (Zv (Zp b3 3) ?_))))))))))
    refine Zs 0 ⟨b3, (ZP c.v), 44⟩ (off := 3) (.string ⟨#[48]⟩) (Zv (Zp b2 3) (Zs 1 ⟨b2, (ZP c.v), 44⟩ (off := 3) (.string ⟨#[]⟩) (ZR (Zl 0 ⟨b3, #[.int .i64 c.v.maj, .int .i64 c.v.min, .int .i64 c.v.pat, .string ⟨#[48]⟩, .string (mkS c.v.build)], 44⟩ (off := 0) (.agg #[.int .i64 c.v.maj, .int .i64 c.v.min, .int .i64 c.v.pat, .string ⟨#[48]⟩, .string (mkS c.v.build)]) (Zv (.agg #[.int .i64 0, .int .i64 c.v.maj, .int .i64 c.v.min, .int .i64 c.v.pat, .string ⟨#[48]⟩, .string (mkS c.v.build), .bool false]) (Zl 1 ⟨b2, #[.int .i64 c.v.maj, .int .i64 c.v.min, .int .i64 c.v.pat, .string ⟨#[]⟩, .string (mkS c.v.build)], 44⟩ (off := 0) (.agg #[.int .i64 c.v.maj, .int .i64 c.v.min, .int .i64 c.v.pat, .string ⟨#[]⟩, .string (mkS c.v.build)]) (Zv (.agg #[.int .i64 0, .int .i64 c.v.maj, .int .i64 c.v.min, .int .i64 c.v.pat, .string ⟨#[]⟩, .string (mkS c.v.build), .bool false]) (Zr (k := 133) (args := #[.agg #[.int .i64 0, .int .i64 c.v.maj, .int .i64 c.v.min, .int .i64 c.v.pat, .string ⟨#[48]⟩, .string (mkS c.v.build), .bool false], .agg #[.int .i64 0, .int .i64 c.v.maj, .int .i64 c.v.min, .int .i64 c.v.pat, .string ⟨#[]⟩, .string (mkS c.v.build), .bool false]]) (fun v' L' => ∃ ob', L' = ob' ++ ([⟨b3, #[.int .i64 c.v.maj, .int .i64 c.v.min, .int .i64 c.v.pat, .string ⟨#[48]⟩, .string (mkS c.v.build)], 44⟩, ⟨b2, #[.int .i64 c.v.maj, .int .i64 c.v.min, .int .i64 c.v.pat, .string ⟨#[]⟩, .string (mkS c.v.build)], 44⟩, ⟨b1, (coV c).cells, 51⟩]) ∧ SlS v' (kN (⟨0, { c.v with pre := [48] }, false⟩) (⟨0, { c.v with pre := [] }, false⟩)) ob') (fun w hO => (fL (⟨0, { c.v with pre := [48] }, false⟩) (⟨0, { c.v with pre := [] }, false⟩) w hl1 hb1).mono fun e w' ⟨v', ob', k1, k2, k3⟩ => ⟨v', _, k1, ⟨ob', rfl, k2⟩, Own.joinN hO k3⟩) (fun v1 L1 hv1 => ?_)))))))))
    obtain ⟨o1, rfl, hr1⟩ := hv1
    obtain ⟨V1, c1, rfl⟩ := hr1.form
    exact Zv (.slice V1 ((kN (⟨0, { c.v with pre := [48] }, false⟩) (⟨0, { c.v with pre := [] }, false⟩)).length) c1) (ZN (zG (ZF (.slice V1 ((kN (⟨0, { c.v with pre := [48] }, false⟩) (⟨0, { c.v with pre := [] }, false⟩)).length) c1) Tryz.results84 (fun w hO => ⟨_, o1, rfl, by rw [zone_one h1 h2]; exact hr1, hO.sublist (List.sublist_append_left _ _)⟩))))
  | false =>
    refine Zv Z4 (Zv Z4 (Zk (Zk (Zk (Zk (Zv Z4 (ZY (zB (zC ?_)))))))))
    exact Zv (.slice none 0 0) (ZN (zG (zD (ZF (.slice none 0 0) Tryz.results84 (fun w hO => ⟨_, [], rfl, by rw [show c.zone = [] from by unfold Co.zone; simp [h1]]; exact Sl.nil _ _, vH hO⟩)))))
end
section
theorem last_pl {l : List (List UInt8)} (h : 1 ≤ l.length) {x : List UInt8} (hx : tg l (l.length - 1) = x) : l.getLast? = some x := by
  rw [List.getLast?_eq_getElem?, List.getElem?_eq_getElem (by omega), tB (by omega), hx]
theorem guess_is {s r ah tl : List UInt8} {op : Int} {pl : List (List UInt8)} (h1 : (sgo s 8).1 = op) (h2 : (sgo s 8).2 = r) (h3 : (yL 45 r).1 = ah) (h4 : (yL 45 r).2.1 = tl) (h5 : uM 2 ah = pl) {x : List UInt8} (hx : tg pl (pl.length - 1) = x) (hl : 1 ≤ pl.length) :
    vX s = if x = [42] then (⟨9, ((pl.length : Int) - 1), ⟨zT (tg pl 0), zT (tg pl 1), zT (tg pl 2), tl, []⟩⟩ : Co) else (⟨op, (pl.length : Int), ⟨zT (tg pl 0), zT (tg pl 1), zT (tg pl 2), tl, []⟩⟩ : Co) := by
  have hp : uH s = pl := by unfold uH; rw [h2, h3, h5]
  unfold vX starP
  rw [hp, h2, h4, h1, last_pl hl hx]
  by_cases q : x = [42]
  · rw [if_pos q, q, decide_eq_true rfl]; rfl
  · rw [if_neg q, decide_eq_false (fun e => q (Option.some.inj e))]; rfl
theorem fit_or {s pt : List UInt8} {c : Co} (hg : vX s = c) (hp : c.print = pt) (h : pt = s ∨ pt = [94] ++ s) : pcV s = c ∧ pcE s = 0 := by
  have h2 := prog_some (s := s) (by rw [hg, hp]; exact h)
  rw [hg] at h2
  exact pc_some h2
theorem fit_no {s pt : List UInt8} {c : Co} (hg : vX s = c) (hp : c.print = pt) (h1 : ¬ pt = s) (h2 : ¬ pt = [94] ++ s) : pcV s = ⟨0, 0, Ver.zero⟩ ∧ pcE s = 6 :=
  pc_none (prog_none (by rw [hg, hp]; exact fun q => q.elim h1 h2))
theorem cParse_any (s : List UInt8) (W : World) (hs : s.length ≤ 1000000) (ht : HasTab W) : Calls Tryz.prog 37 #[.string (mkS s)] W fun e w' => e = .returned (.tuple #[coV (pcV s), .int .i64 (pcE s)]) ∧ Below W.heap.size W w' := by
  obtain ⟨op, hop⟩ : ∃ x, (sgo s 8).1 = x := ⟨_, rfl⟩
  obtain ⟨r, hr⟩ : ∃ x, (sgo s 8).2 = x := ⟨_, rfl⟩
  obtain ⟨ah, hah⟩ : ∃ x, (yL 45 r).1 = x := ⟨_, rfl⟩
  obtain ⟨tl, htl⟩ : ∃ x, (yL 45 r).2.1 = x := ⟨_, rfl⟩
  obtain ⟨fd, hfd⟩ : ∃ x, (yL 45 r).2.2 = x := ⟨_, rfl⟩
  obtain ⟨pl, hpl⟩ : ∃ x, uM 2 ah = x := ⟨_, rfl⟩
  have hrl : r.length ≤ s.length := hr ▸ sgo_le s 8
  have hal : ah.length + tl.length ≤ r.length := by rw [← hah, ← htl]; exact cutAt_le 45 r
  obtain ⟨hp1, hp3⟩ : 1 ≤ pl.length ∧ pl.length ≤ 3 := hpl ▸ pcsK_len 2 ah
  have htp : ∀ i, (tg pl i).length ≤ 1000000 := fun i => tg_short (fun x hx => by rw [← hpl] at hx; exact Nat.le_trans (pcsK_mem 2 ah x hx) (by omega)) i
  refine Z2 (n := 84) Tryz.func37 rfl (ZO (Za (.agg Z1) (fun b1 => Zv (.int .i64 0) (ZR (Zv (.string (mkS s)) (Zc (k := 60) (args := #[.string (mkS s)]) (.tuple #[.int .i64 op, .string (mkS r)]) (fun w _ => bJ (by rw [hop, hr]) (ccut_any s w hs)) (Zv (.tuple #[.int .i64 op, .string (mkS r)]) ?_)))))))
  refine Zv (.int .i64 op) (Zv (.string (mkS r)) (Zv (.int .i64 op) (Zv (.string (mkS r)) (ZR (Zv (.string (mkS r)) (Zc (k := 61) (args := #[.string (mkS r), .string ⟨#[45]⟩]) (.tuple #[.string (mkS ah), .string (mkS tl), .bool fd]) (fun w _ => bJ (by rw [hah, htl, hfd]) (cutb_any r 45 w (by omega))) (Zv (.tuple #[.string (mkS ah), .string (mkS tl), .bool fd]) (Zv (.string (mkS ah)) ?_))))))))
  refine Zv (.string (mkS tl)) (Zv (.bool fd) (Zv (.string (mkS ah)) (Zv (.string (mkS tl)) (Zv (.bool fd) (ZR (Za (.agg #[.int .i64 0, .int .i64 0, .int .i64 0]) (fun b2 => zU (zF ?_))))))))
  refine ZO (Zv (.string (mkS ah)) (Zr (k := 62) (args := #[.string (mkS ah), .string ⟨#[46]⟩, .int .i64 3]) (fun v' L' => ∃ ob', L' = ob' ++ ([⟨b2, #[.int .i64 0, .int .i64 0, .int .i64 0], 88⟩, ⟨b1, Z1, 51⟩]) ∧ SlT v' pl ob') (fun w hO => (splitn_any ah w (by omega)).mono fun e w' ⟨v', ob', k1, k2, k3⟩ => ⟨v', _, k1, ⟨ob', rfl, by rw [hpl] at k2; exact k2⟩, Own.joinN hO k3⟩) (fun v1 L1 hv1 => ?_)))
  obtain ⟨o1, rfl, hsl⟩ := hv1
  obtain ⟨A1, c1, rfl⟩ := hsl.form
  obtain ⟨g1, cur1, rfl, rfl, hc1, hm1, hz1, ht1⟩ := Sl.block hsl (by omega)
  rw [wH] at ht1
  refine Zv (.slice (some ⟨g1, 0, none⟩) pl.length c1) (ZN (zB (ZO (Zv (.slice (some ⟨g1, 0, none⟩) pl.length c1) (Zv (.int .i64 (pl.length : Int)) (Zv (.int .i64 0) (ZN (j6 (fun L f => ∃ (j : Nat → Value), L = [⟨g1, cur1, 9⟩, ⟨b2, #[.int .i64 (zT (tg pl 0)), .int .i64 (zT (tg pl 1)), .int .i64 (zT (tg pl 2))], 88⟩, ⟨b1, Z1, 51⟩] ∧ f = kL j [(0, .string (mkS s)), (2, Zp b1 0), (4, .int .i64 op), (6, .string (mkS tl)), (8, Zp b2 0), (9, .slice (some ⟨g1, 0, none⟩) pl.length c1)]) ?_ ?_))))))))
  · refine zP (x7 (fun L f m => (∃  (j : Nat → Value), (0 ≤ pl.length) ∧ L = [⟨g1, cur1, 9⟩, ⟨b2, #[.int .i64 0, .int .i64 0, .int .i64 0], 88⟩, ⟨b1, Z1, 51⟩] ∧ f = kL j [(0, .string (mkS s)), (2, Zp b1 0), (4, .int .i64 op), (6, .string (mkS tl)), (8, Zp b2 0), (9, .slice (some ⟨g1, 0, none⟩) pl.length c1), (27, .slice (some ⟨g1, 0, none⟩) pl.length c1), (28, .int .i64 (pl.length : Int)), (29, .int .i64 0)] ∧ m = 4) ∨ (∃  (j : Nat → Value), (1 ≤ pl.length) ∧ L = [⟨g1, cur1, 9⟩, ⟨b2, #[.int .i64 (zT (tg pl 0)), .int .i64 0, .int .i64 0], 88⟩, ⟨b1, Z1, 51⟩] ∧ f = kL j [(0, .string (mkS s)), (2, Zp b1 0), (4, .int .i64 op), (6, .string (mkS tl)), (8, Zp b2 0), (9, .slice (some ⟨g1, 0, none⟩) pl.length c1), (27, .slice (some ⟨g1, 0, none⟩) pl.length c1), (28, .int .i64 (pl.length : Int)), (29, .int .i64 1)] ∧ m = 3) ∨ (∃  (j : Nat → Value), (2 ≤ pl.length) ∧ L = [⟨g1, cur1, 9⟩, ⟨b2, #[.int .i64 (zT (tg pl 0)), .int .i64 (zT (tg pl 1)), .int .i64 0], 88⟩, ⟨b1, Z1, 51⟩] ∧ f = kL j [(0, .string (mkS s)), (2, Zp b1 0), (4, .int .i64 op), (6, .string (mkS tl)), (8, Zp b2 0), (9, .slice (some ⟨g1, 0, none⟩) pl.length c1), (27, .slice (some ⟨g1, 0, none⟩) pl.length c1), (28, .int .i64 (pl.length : Int)), (29, .int .i64 2)] ∧ m = 2) ∨ (∃  (j : Nat → Value), (3 ≤ pl.length) ∧ L = [⟨g1, cur1, 9⟩, ⟨b2, #[.int .i64 (zT (tg pl 0)), .int .i64 (zT (tg pl 1)), .int .i64 (zT (tg pl 2))], 88⟩, ⟨b1, Z1, 51⟩] ∧ f = kL j [(0, .string (mkS s)), (2, Zp b1 0), (4, .int .i64 op), (6, .string (mkS tl)), (8, Zp b2 0), (9, .slice (some ⟨g1, 0, none⟩) pl.length c1), (27, .slice (some ⟨g1, 0, none⟩) pl.length c1), (28, .int .i64 (pl.length : Int)), (29, .int .i64 3)] ∧ m = 1)) 4 (.inl ⟨_, Nat.zero_le _, rfl, ZU, rfl⟩) ?_)
    rintro L f m (⟨j, hrel, rfl, rfl, rfl⟩ | ⟨j, hrel, rfl, rfl, rfl⟩ | ⟨j, hrel, rfl, rfl, rfl⟩ | ⟨j, hrel, rfl, rfl, rfl⟩)
    · have qn := hrel
      refine ZO (Zg (p := (0 : Int) < (pl.length : Int)) (by omega) (ZN (zB (Zt (ZB (zB (zP (zB ?_))))))))
      refine zC (Zv (.int .i64 0) (zX (Zp g1 (0 * 1 + 0)) (by kernel_rfl) (gL (b := g1) (off := 0) (n := pl.length) (c := c1) (k := .i64) (j := 0) (e := 9) (sz := 1) rfl (by kernel_rfl) (by kernel_rfl) (by kernel_rfl) (by kernel_rfl) (by omega) (by omega) (by rfl)) (jR 0 ⟨g1, cur1, 9⟩ (off := 0 * 1 + 0) (.string (mkS (tg pl 0))) (by kernel_rfl) rfl (by kernel_rfl) (by kernel_rfl) (xX d5 ht1 0 0 (by omega) (by omega) _ (by rw [tB (by omega)]; kernel_rfl)) (Zv (.int .i64 0) (Zv (.string (mkS (tg pl 0))) (ZN (zC (Zv (.int .i64 0) (Zv (.string (mkS (tg pl 0))) (Zc (k := 63) (args := #[.string (mkS (tg pl 0))]) (.tuple #[.int .i64 (zT (tg pl 0)), .bool (gR (tg pl 0))]) (fun w _ => jJ (tg pl 0) _ rfl w (Nat.le_trans (htp 0) (by decide))) ?_))))))))))
      refine Zv (.tuple #[.int .i64 (zT (tg pl 0)), .bool (gR (tg pl 0))]) (Zv (.int .i64 (zT (tg pl 0))) (Zv (.bool (gR (tg pl 0))) (Zv (Zp b2 0) (Zs 1 ⟨b2, #[.int .i64 0, .int .i64 0, .int .i64 0], 88⟩ (off := 0) (.int .i64 (zT (tg pl 0))) (zU (zV (zF (zC (Zv (.int .i64 1) (Zv (.int .i64 1) (zU ?_)))))))))))
      exact zY (m' := 3) (by decide) (.inr (.inl ⟨_, (by omega : 1 ≤ pl.length), rfl, ZU, rfl⟩))
    · have qn := hrel
      refine zB (zC ?_)
      by_cases h1 : (1 : Int) < (pl.length : Int)
      · have hk : 1 < pl.length := by omega
        refine Zg h1 (ZN (zB (Zt (ZB (zB (zP (ZO (Zv (.int .i64 1) ?_))))))))
        refine zX (Zp g1 (1 * 1 + 0)) (by kernel_rfl) (gL (b := g1) (off := 0) (n := pl.length) (c := c1) (k := .i64) (j := 1) (e := 9) (sz := 1) rfl (by kernel_rfl) (by kernel_rfl) (by kernel_rfl) (by kernel_rfl) (by omega) (by omega) (by rfl)) (jR 0 ⟨g1, cur1, 9⟩ (off := 1 * 1 + 0) (.string (mkS (tg pl 1))) (by kernel_rfl) rfl (by kernel_rfl) (by kernel_rfl) (xX d5 ht1 1 0 (by omega) (by omega) _ (by rw [tB (by omega)]; kernel_rfl)) (Zv (.int .i64 1) (Zv (.string (mkS (tg pl 1))) (ZN (zC (Zv (.int .i64 1) (Zv (.string (mkS (tg pl 1))) (Zc (k := 63) (args := #[.string (mkS (tg pl 1))]) (.tuple #[.int .i64 (zT (tg pl 1)), .bool (gR (tg pl 1))]) (fun w _ => jJ (tg pl 1) _ rfl w (Nat.le_trans (htp 1) (by decide))) (Zv (.tuple #[.int .i64 (zT (tg pl 1)), .bool (gR (tg pl 1))]) (Zv (.int .i64 (zT (tg pl 1))) ?_))))))))))
        exact Zv (.bool (gR (tg pl 1))) (Zv (Zp b2 1) (Zs 1 ⟨b2, #[.int .i64 (zT (tg pl 0)), .int .i64 0, .int .i64 0], 88⟩ (off := 1) (.int .i64 (zT (tg pl 1))) (zU (zV (zF (zC (Zv (.int .i64 2) (Zv (.int .i64 2) (zU (zY (m' := 2) (by decide) (.inr (.inr (.inl ⟨_, (by omega : 2 ≤ pl.length), rfl, ZU, rfl⟩)))))))))))))
      exact Zh h1 (ZN (zB (Zf (yE (zH (zS (zM (zW ⟨_, by rw [tgi_out (l := pl) (i := 1) (by omega), tgi_out (l := pl) (i := 2) (by omega)], ZU⟩))))))))
    · have qn := hrel
      refine zB (zC ?_)
      by_cases h2 : (2 : Int) < (pl.length : Int)
      · have hk : 2 < pl.length := by omega
        refine Zg h2 (ZN (zB (Zt (ZB (zB (zP (ZO (Zv (.int .i64 2) ?_))))))))
        refine zX (Zp g1 (2 * 1 + 0)) (by kernel_rfl) (gL (b := g1) (off := 0) (n := pl.length) (c := c1) (k := .i64) (j := 2) (e := 9) (sz := 1) rfl (by kernel_rfl) (by kernel_rfl) (by kernel_rfl) (by kernel_rfl) (by omega) (by omega) (by rfl)) (jR 0 ⟨g1, cur1, 9⟩ (off := 2 * 1 + 0) (.string (mkS (tg pl 2))) (by kernel_rfl) rfl (by kernel_rfl) (by kernel_rfl) (xX d5 ht1 2 0 (by omega) (by omega) _ (by rw [tB (by omega)]; kernel_rfl)) (Zv (.int .i64 2) (Zv (.string (mkS (tg pl 2))) (ZN (zC (Zv (.int .i64 2) (Zv (.string (mkS (tg pl 2))) (Zc (k := 63) (args := #[.string (mkS (tg pl 2))]) (.tuple #[.int .i64 (zT (tg pl 2)), .bool (gR (tg pl 2))]) (fun w _ => jJ (tg pl 2) _ rfl w (Nat.le_trans (htp 2) (by decide))) (Zv (.tuple #[.int .i64 (zT (tg pl 2)), .bool (gR (tg pl 2))]) (Zv (.int .i64 (zT (tg pl 2))) ?_))))))))))
        exact Zv (.bool (gR (tg pl 2))) (Zv (Zp b2 2) (Zs 1 ⟨b2, #[.int .i64 (zT (tg pl 0)), .int .i64 (zT (tg pl 1)), .int .i64 0], 88⟩ (off := 2) (.int .i64 (zT (tg pl 2))) (zU (zV (zF (zC (Zv (.int .i64 3) (Zv (.int .i64 3) (zU (zY (m' := 1) (by decide) (.inr (.inr (.inr (⟨_, (by omega : 3 ≤ pl.length), rfl, ZU, rfl⟩))))))))))))))
      exact Zh h2 (ZN (zB (Zf (yE (zH (zS (zM (zW ⟨_, by rw [tgi_out (l := pl) (i := 2) (by omega)], ZU⟩))))))))
    have qn := hrel
    exact ZO (Zh (p := (3 : Int) < (pl.length : Int)) (by omega) (ZN (zB (Zf (yE (zH (zS (zM (zW ⟨_, rfl, ZU⟩)))))))))
  · rintro L f ⟨j, rfl, rfl⟩
    obtain ⟨la, hla⟩ : ∃ x, tg pl (pl.length - 1) = x := ⟨_, rfl⟩
    have hgu := guess_is hop hr hah htl hpl hla (by omega)
    refine zF (ZO (Zv (.int .i64 op) (Zv (.slice (some ⟨g1, 0, none⟩) pl.length c1) (Zv (.int .i64 (pl.length : Int)) (Zv (.agg #[.int .i64 op, .int .i64 (pl.length : Int), .int .i64 0, .int .i64 0, .int .i64 0, .string ⟨#[]⟩, .string ⟨#[]⟩]) (Za (.agg Z1) (fun b3 => Zs 0 ⟨b3, Z1, 51⟩ (off := 0) (.agg #[.int .i64 op, .int .i64 (pl.length : Int), .int .i64 0, .int .i64 0, .int .i64 0, .string ⟨#[]⟩, .string ⟨#[]⟩]) (ZN (zB ?_)))))))))
    refine ZO (Zv (.slice (some ⟨g1, 0, none⟩) pl.length c1) (Zv (.slice (some ⟨g1, 0, none⟩) pl.length c1) (Zv (.int .i64 (pl.length : Int)) (Zu (k := .i64) (((pl.length : Int) : Int) - 1) (IntWalk.i64_in _ (by omega)) (zX (Zp g1 ((pl.length - 1) * 1 + 0)) (by kernel_rfl) (gL (b := g1) (off := 0) (n := pl.length) (c := c1) (k := .i64) (j := ((pl.length : Int) - 1)) (e := 9) (sz := 1) rfl (by kernel_rfl) (by kernel_rfl) (by kernel_rfl) (by kernel_rfl) (by omega) (by omega) (by omega)) (jR 1 ⟨g1, cur1, 9⟩ (off := (pl.length - 1) * 1 + 0) (.string (mkS la)) (by kernel_rfl) rfl (by kernel_rfl) (by kernel_rfl) (xX d5 ht1 (pl.length - 1) 0 (by omega) (by omega) _ (by rw [tB (by omega), hla]; kernel_rfl)) ?_))))))
    by_cases h3 : (la : List UInt8) = [42]
    · refine zX Z4 (by kernel_rfl) (xB (a := la) (b := ([42])) rfl (by kernel_rfl) (by kernel_rfl) (decide_eq_true (h3))) (ZY (ZO (Zv (Zp b3 0) (Zs 0 ⟨b3, #[.int .i64 op, .int .i64 (pl.length : Int), .int .i64 0, .int .i64 0, .int .i64 0, .string ⟨#[]⟩, .string ⟨#[]⟩], 51⟩ (off := 0) (.int .i64 9) (ZN (zC (Zv (Zp b3 1) ?_)))))))
      refine Zl 0 ⟨b3, #[.int .i64 9, .int .i64 (pl.length : Int), .int .i64 0, .int .i64 0, .int .i64 0, .string ⟨#[]⟩, .string ⟨#[]⟩], 51⟩ (off := 1) (.int .i64 (pl.length : Int)) (Zu (k := .i64) (((pl.length : Int) : Int) - 1) (IntWalk.i64_in _ (by omega)) (Zv (Zp b3 1) (Zs 0 ⟨b3, #[.int .i64 9, .int .i64 (pl.length : Int), .int .i64 0, .int .i64 0, .int .i64 0, .string ⟨#[]⟩, .string ⟨#[]⟩], 51⟩ (off := 1) (.int .i64 (((pl.length : Int) : Int) - 1)) (ZR (Zv (Zp b2 0) (Zl 2 ⟨b2, #[.int .i64 (zT (tg pl 0)), .int .i64 (zT (tg pl 1)), .int .i64 (zT (tg pl 2))], 88⟩ (off := 0) (.int .i64 (zT (tg pl 0))) (Zv (Zp b2 1) (Zl 2 ⟨b2, #[.int .i64 (zT (tg pl 0)), .int .i64 (zT (tg pl 1)), .int .i64 (zT (tg pl 2))], 88⟩ (off := 1) (.int .i64 (zT (tg pl 1))) ?_))))))))
      refine Zv (Zp b2 2) (Zl 2 ⟨b2, #[.int .i64 (zT (tg pl 0)), .int .i64 (zT (tg pl 1)), .int .i64 (zT (tg pl 2))], 88⟩ (off := 2) (.int .i64 (zT (tg pl 2))) (Zv (.string (mkS tl)) (Zv (.agg #[.int .i64 (zT (tg pl 0)), .int .i64 (zT (tg pl 1)), .int .i64 (zT (tg pl 2)), .string (mkS tl), .string ⟨#[]⟩]) (Zv (Zp b3 2) (Zs 0 ⟨b3, #[.int .i64 9, .int .i64 (((pl.length : Int) : Int) - 1), .int .i64 0, .int .i64 0, .int .i64 0, .string ⟨#[]⟩, .string ⟨#[]⟩], 51⟩ (off := 2) (.agg #[.int .i64 (zT (tg pl 0)), .int .i64 (zT (tg pl 1)), .int .i64 (zT (tg pl 2)), .string (mkS tl), .string ⟨#[]⟩]) (ZN (zB (ZO (Zl 0 ⟨b3, #[.int .i64 9, .int .i64 (((pl.length : Int) : Int) - 1), .int .i64 (zT (tg pl 0)), .int .i64 (zT (tg pl 1)), .int .i64 (zT (tg pl 2)), .string (mkS tl), .string ⟨#[]⟩], 51⟩ (off := 0) (.agg #[.int .i64 9, .int .i64 (((pl.length : Int) : Int) - 1), .int .i64 (zT (tg pl 0)), .int .i64 (zT (tg pl 1)), .int .i64 (zT (tg pl 2)), .string (mkS tl), .string ⟨#[]⟩]) ?_)))))))))
      have hcs : ((⟨9, ((pl.length : Int) - 1), ⟨zT (tg pl 0), zT (tg pl 1), zT (tg pl 2), tl, []⟩⟩ : Co)).short := ⟨by show tl.length ≤ _; omega, Nat.zero_le _⟩
      obtain ⟨pt, hpt⟩ : ∃ x, Co.print (⟨9, ((pl.length : Int) - 1), ⟨zT (tg pl 0), zT (tg pl 1), zT (tg pl 2), tl, []⟩⟩ : Co) = x := ⟨_, rfl⟩
      refine Zc (k := 64) (args := #[.agg #[.int .i64 9, .int .i64 (((pl.length : Int) : Int) - 1), .int .i64 (zT (tg pl 0)), .int .i64 (zT (tg pl 1)), .int .i64 (zT (tg pl 2)), .string (mkS tl), .string ⟨#[]⟩]]) (.string (mkS pt)) (fun w hO => bJ (by rw [← hpt]) (pW (⟨9, ((pl.length : Int) - 1), ⟨zT (tg pl 0), zT (tg pl 1), zT (tg pl 2), tl, []⟩⟩ : Co) w hcs (ht.on hO.below))) (Zv (.string (mkS pt)) (ZR (Zv (.string (mkS pt)) (Zv (.string (mkS s)) ?_))))
      by_cases h4 : (pt : List UInt8) = s
      · refine zX Z5 (by kernel_rfl) (xI (a := pt) (b := s) rfl (by kernel_rfl) (by kernel_rfl) (decide_eq_true (h4))) (Zv Z5 (Zk (Zk (Zk (Zk (Zv Z5 (ZX (xD (zF ?_)))))))))
        refine ZO (Zv (.string (mkS tl)) (Zc (k := 65) (args := #[.string (mkS tl)]) (.string (mkS tl)) (fun w _ => uG (mkS tl) w (by rw [xV]; omega)) (Zv (Zp b3 2) (Zv (Zp b3 5) (Zs 0 ⟨b3, #[.int .i64 9, .int .i64 (((pl.length : Int) : Int) - 1), .int .i64 (zT (tg pl 0)), .int .i64 (zT (tg pl 1)), .int .i64 (zT (tg pl 2)), .string (mkS tl), .string ⟨#[]⟩], 51⟩ (off := 5) (.string (mkS tl)) (ZR (Zl 0 ⟨b3, #[.int .i64 9, .int .i64 (((pl.length : Int) : Int) - 1), .int .i64 (zT (tg pl 0)), .int .i64 (zT (tg pl 1)), .int .i64 (zT (tg pl 2)), .string (mkS tl), .string ⟨#[]⟩], 51⟩ (off := 0) (.agg #[.int .i64 9, .int .i64 (((pl.length : Int) : Int) - 1), .int .i64 (zT (tg pl 0)), .int .i64 (zT (tg pl 1)), .int .i64 (zT (tg pl 2)), .string (mkS tl), .string ⟨#[]⟩]) ?_)))))))
        exact Zs 3 ⟨b1, Z1, 51⟩ (off := 0) (.agg #[.int .i64 9, .int .i64 (((pl.length : Int) : Int) - 1), .int .i64 (zT (tg pl 0)), .int .i64 (zT (tg pl 1)), .int .i64 (zT (tg pl 2)), .string (mkS tl), .string ⟨#[]⟩]) (Zv (.int .i64 0) (ZN (zG (ZD 3 ⟨b1, #[.int .i64 9, .int .i64 (((pl.length : Int) : Int) - 1), .int .i64 (zT (tg pl 0)), .int .i64 (zT (tg pl 1)), .int .i64 (zT (tg pl 2)), .string (mkS tl), .string ⟨#[]⟩], 51⟩ (off := 0) (.agg #[.int .i64 9, .int .i64 (((pl.length : Int) : Int) - 1), .int .i64 (zT (tg pl 0)), .int .i64 (zT (tg pl 1)), .int .i64 (zT (tg pl 2)), .string (mkS tl), .string ⟨#[]⟩]) (.int .i64 0) Tryz.results37 (fun w hO => ⟨by have q := fit_or (c := (⟨9, ((pl.length : Int) - 1), ⟨zT (tg pl 0), zT (tg pl 1), zT (tg pl 2), tl, []⟩⟩ : Co)) (hgu.trans (if_pos h3)) hpt (.inl h4); rw [q.1, q.2]; rfl, hO.below⟩)))))
      refine zX Z4 (by kernel_rfl) (xI (a := pt) (b := s) rfl (by kernel_rfl) (by kernel_rfl) (decide_eq_false (h4))) (Zv Z4 (Zv (.string (mkS pt)) (Zv (.string (mkS s)) (zX (.string (mkS ([94] ++ s))) (by kernel_rfl) (x1 (a := [94]) (b := s) rfl (by kernel_rfl) (by kernel_rfl) (by simp only [List.length_append, List.length_cons, List.length_nil]; omega)) ?_))))
      by_cases h5 : (pt : List UInt8) = ([94] ++ s)
      · refine zX Z5 (by kernel_rfl) (xI (a := pt) (b := ([94] ++ s)) rfl (by kernel_rfl) (by kernel_rfl) (decide_eq_true (h5))) (Zv Z5 (ZX (ZB (ZO (Zv (.string (mkS tl)) (Zc (k := 65) (args := #[.string (mkS tl)]) (.string (mkS tl)) (fun w _ => uG (mkS tl) w (by rw [xV]; omega)) (Zv (Zp b3 2) ?_)))))))
        refine Zv (Zp b3 5) (Zs 0 ⟨b3, #[.int .i64 9, .int .i64 (((pl.length : Int) : Int) - 1), .int .i64 (zT (tg pl 0)), .int .i64 (zT (tg pl 1)), .int .i64 (zT (tg pl 2)), .string (mkS tl), .string ⟨#[]⟩], 51⟩ (off := 5) (.string (mkS tl)) (ZR (Zl 0 ⟨b3, #[.int .i64 9, .int .i64 (((pl.length : Int) : Int) - 1), .int .i64 (zT (tg pl 0)), .int .i64 (zT (tg pl 1)), .int .i64 (zT (tg pl 2)), .string (mkS tl), .string ⟨#[]⟩], 51⟩ (off := 0) (.agg #[.int .i64 9, .int .i64 (((pl.length : Int) : Int) - 1), .int .i64 (zT (tg pl 0)), .int .i64 (zT (tg pl 1)), .int .i64 (zT (tg pl 2)), .string (mkS tl), .string ⟨#[]⟩]) (Zs 3 ⟨b1, Z1, 51⟩ (off := 0) (.agg #[.int .i64 9, .int .i64 (((pl.length : Int) : Int) - 1), .int .i64 (zT (tg pl 0)), .int .i64 (zT (tg pl 1)), .int .i64 (zT (tg pl 2)), .string (mkS tl), .string ⟨#[]⟩]) (Zv (.int .i64 0) (ZN (zG ?_)))))))
        exact ZD 3 ⟨b1, #[.int .i64 9, .int .i64 (((pl.length : Int) : Int) - 1), .int .i64 (zT (tg pl 0)), .int .i64 (zT (tg pl 1)), .int .i64 (zT (tg pl 2)), .string (mkS tl), .string ⟨#[]⟩], 51⟩ (off := 0) (.agg #[.int .i64 9, .int .i64 (((pl.length : Int) : Int) - 1), .int .i64 (zT (tg pl 0)), .int .i64 (zT (tg pl 1)), .int .i64 (zT (tg pl 2)), .string (mkS tl), .string ⟨#[]⟩]) (.int .i64 0) Tryz.results37 (fun w hO => ⟨by have q := fit_or (c := (⟨9, ((pl.length : Int) - 1), ⟨zT (tg pl 0), zT (tg pl 1), zT (tg pl 2), tl, []⟩⟩ : Co)) (hgu.trans (if_pos h3)) hpt (.inr h5); rw [q.1, q.2]; rfl, hO.below⟩)
      refine zX Z4 (by kernel_rfl) (xI (a := pt) (b := ([94] ++ s)) rfl (by kernel_rfl) (by kernel_rfl) (decide_eq_false (h5))) (Zv Z4 (ZY (ZO (Zv (.agg Z1) (Zs 3 ⟨b1, Z1, 51⟩ (off := 0) (.agg Z1) (Zv (.int .i64 6) (zU (zF ?_))))))))
      exact zG (zD (ZD 3 ⟨b1, Z1, 51⟩ (off := 0) (.agg Z1) (.int .i64 6) Tryz.results37 (fun w hO => ⟨by have q := fit_no (c := (⟨9, ((pl.length : Int) - 1), ⟨zT (tg pl 0), zT (tg pl 1), zT (tg pl 2), tl, []⟩⟩ : Co)) (hgu.trans (if_pos h3)) hpt h4 h5; rw [q.1, q.2]; rfl, hO.below⟩)))
    refine zX Z5 (by kernel_rfl) (xB (a := la) (b := ([42])) rfl (by kernel_rfl) (by kernel_rfl) (decide_eq_false (h3))) (ZX (ZB (ZO (Zv (Zp b2 0) (Zl 2 ⟨b2, #[.int .i64 (zT (tg pl 0)), .int .i64 (zT (tg pl 1)), .int .i64 (zT (tg pl 2))], 88⟩ (off := 0) (.int .i64 (zT (tg pl 0))) (Zv (Zp b2 1) (Zl 2 ⟨b2, #[.int .i64 (zT (tg pl 0)), .int .i64 (zT (tg pl 1)), .int .i64 (zT (tg pl 2))], 88⟩ (off := 1) (.int .i64 (zT (tg pl 1))) ?_)))))))
    refine Zv (Zp b2 2) (Zl 2 ⟨b2, #[.int .i64 (zT (tg pl 0)), .int .i64 (zT (tg pl 1)), .int .i64 (zT (tg pl 2))], 88⟩ (off := 2) (.int .i64 (zT (tg pl 2))) (Zv (.string (mkS tl)) (Zv (.agg #[.int .i64 (zT (tg pl 0)), .int .i64 (zT (tg pl 1)), .int .i64 (zT (tg pl 2)), .string (mkS tl), .string ⟨#[]⟩]) (Zv (Zp b3 2) (Zs 0 ⟨b3, #[.int .i64 op, .int .i64 (pl.length : Int), .int .i64 0, .int .i64 0, .int .i64 0, .string ⟨#[]⟩, .string ⟨#[]⟩], 51⟩ (off := 2) (.agg #[.int .i64 (zT (tg pl 0)), .int .i64 (zT (tg pl 1)), .int .i64 (zT (tg pl 2)), .string (mkS tl), .string ⟨#[]⟩]) (ZN (zB (ZO (Zl 0 ⟨b3, #[.int .i64 op, .int .i64 (pl.length : Int), .int .i64 (zT (tg pl 0)), .int .i64 (zT (tg pl 1)), .int .i64 (zT (tg pl 2)), .string (mkS tl), .string ⟨#[]⟩], 51⟩ (off := 0) (.agg #[.int .i64 op, .int .i64 (pl.length : Int), .int .i64 (zT (tg pl 0)), .int .i64 (zT (tg pl 1)), .int .i64 (zT (tg pl 2)), .string (mkS tl), .string ⟨#[]⟩]) ?_)))))))))
    have hcs : ((⟨op, (pl.length : Int), ⟨zT (tg pl 0), zT (tg pl 1), zT (tg pl 2), tl, []⟩⟩ : Co)).short := ⟨by show tl.length ≤ _; omega, Nat.zero_le _⟩
    obtain ⟨pt, hpt⟩ : ∃ x, Co.print (⟨op, (pl.length : Int), ⟨zT (tg pl 0), zT (tg pl 1), zT (tg pl 2), tl, []⟩⟩ : Co) = x := ⟨_, rfl⟩
    refine Zc (k := 64) (args := #[.agg #[.int .i64 op, .int .i64 (pl.length : Int), .int .i64 (zT (tg pl 0)), .int .i64 (zT (tg pl 1)), .int .i64 (zT (tg pl 2)), .string (mkS tl), .string ⟨#[]⟩]]) (.string (mkS pt)) (fun w hO => bJ (by rw [← hpt]) (pW (⟨op, (pl.length : Int), ⟨zT (tg pl 0), zT (tg pl 1), zT (tg pl 2), tl, []⟩⟩ : Co) w hcs (ht.on hO.below))) (Zv (.string (mkS pt)) (ZR (Zv (.string (mkS pt)) (Zv (.string (mkS s)) ?_))))
    by_cases h6 : (pt : List UInt8) = s
    · refine zX Z5 (by kernel_rfl) (xI (a := pt) (b := s) rfl (by kernel_rfl) (by kernel_rfl) (decide_eq_true (h6))) (Zv Z5 (Zk (Zk (Zk (Zk (Zv Z5 (ZX (xD (zF ?_)))))))))
      refine ZO (Zv (.string (mkS tl)) (Zc (k := 65) (args := #[.string (mkS tl)]) (.string (mkS tl)) (fun w _ => uG (mkS tl) w (by rw [xV]; omega)) (Zv (Zp b3 2) (Zv (Zp b3 5) (Zs 0 ⟨b3, #[.int .i64 op, .int .i64 (pl.length : Int), .int .i64 (zT (tg pl 0)), .int .i64 (zT (tg pl 1)), .int .i64 (zT (tg pl 2)), .string (mkS tl), .string ⟨#[]⟩], 51⟩ (off := 5) (.string (mkS tl)) (ZR (Zl 0 ⟨b3, #[.int .i64 op, .int .i64 (pl.length : Int), .int .i64 (zT (tg pl 0)), .int .i64 (zT (tg pl 1)), .int .i64 (zT (tg pl 2)), .string (mkS tl), .string ⟨#[]⟩], 51⟩ (off := 0) (.agg #[.int .i64 op, .int .i64 (pl.length : Int), .int .i64 (zT (tg pl 0)), .int .i64 (zT (tg pl 1)), .int .i64 (zT (tg pl 2)), .string (mkS tl), .string ⟨#[]⟩]) ?_)))))))
      exact Zs 3 ⟨b1, Z1, 51⟩ (off := 0) (.agg #[.int .i64 op, .int .i64 (pl.length : Int), .int .i64 (zT (tg pl 0)), .int .i64 (zT (tg pl 1)), .int .i64 (zT (tg pl 2)), .string (mkS tl), .string ⟨#[]⟩]) (Zv (.int .i64 0) (ZN (zG (ZD 3 ⟨b1, #[.int .i64 op, .int .i64 (pl.length : Int), .int .i64 (zT (tg pl 0)), .int .i64 (zT (tg pl 1)), .int .i64 (zT (tg pl 2)), .string (mkS tl), .string ⟨#[]⟩], 51⟩ (off := 0) (.agg #[.int .i64 op, .int .i64 (pl.length : Int), .int .i64 (zT (tg pl 0)), .int .i64 (zT (tg pl 1)), .int .i64 (zT (tg pl 2)), .string (mkS tl), .string ⟨#[]⟩]) (.int .i64 0) Tryz.results37 (fun w hO => ⟨by have q := fit_or (c := (⟨op, (pl.length : Int), ⟨zT (tg pl 0), zT (tg pl 1), zT (tg pl 2), tl, []⟩⟩ : Co)) (hgu.trans (if_neg h3)) hpt (.inl h6); rw [q.1, q.2]; rfl, hO.below⟩)))))
    refine zX Z4 (by kernel_rfl) (xI (a := pt) (b := s) rfl (by kernel_rfl) (by kernel_rfl) (decide_eq_false (h6))) (Zv Z4 (Zv (.string (mkS pt)) (Zv (.string (mkS s)) (zX (.string (mkS ([94] ++ s))) (by kernel_rfl) (x1 (a := [94]) (b := s) rfl (by kernel_rfl) (by kernel_rfl) (by simp only [List.length_append, List.length_cons, List.length_nil]; omega)) ?_))))
    by_cases h7 : (pt : List UInt8) = ([94] ++ s)
    · refine zX Z5 (by kernel_rfl) (xI (a := pt) (b := ([94] ++ s)) rfl (by kernel_rfl) (by kernel_rfl) (decide_eq_true (h7))) (Zv Z5 (ZX (ZB (ZO (Zv (.string (mkS tl)) (Zc (k := 65) (args := #[.string (mkS tl)]) (.string (mkS tl)) (fun w _ => uG (mkS tl) w (by rw [xV]; omega)) (Zv (Zp b3 2) ?_)))))))
      refine Zv (Zp b3 5) (Zs 0 ⟨b3, #[.int .i64 op, .int .i64 (pl.length : Int), .int .i64 (zT (tg pl 0)), .int .i64 (zT (tg pl 1)), .int .i64 (zT (tg pl 2)), .string (mkS tl), .string ⟨#[]⟩], 51⟩ (off := 5) (.string (mkS tl)) (ZR (Zl 0 ⟨b3, #[.int .i64 op, .int .i64 (pl.length : Int), .int .i64 (zT (tg pl 0)), .int .i64 (zT (tg pl 1)), .int .i64 (zT (tg pl 2)), .string (mkS tl), .string ⟨#[]⟩], 51⟩ (off := 0) (.agg #[.int .i64 op, .int .i64 (pl.length : Int), .int .i64 (zT (tg pl 0)), .int .i64 (zT (tg pl 1)), .int .i64 (zT (tg pl 2)), .string (mkS tl), .string ⟨#[]⟩]) (Zs 3 ⟨b1, Z1, 51⟩ (off := 0) (.agg #[.int .i64 op, .int .i64 (pl.length : Int), .int .i64 (zT (tg pl 0)), .int .i64 (zT (tg pl 1)), .int .i64 (zT (tg pl 2)), .string (mkS tl), .string ⟨#[]⟩]) (Zv (.int .i64 0) (ZN (zG ?_)))))))
      exact ZD 3 ⟨b1, #[.int .i64 op, .int .i64 (pl.length : Int), .int .i64 (zT (tg pl 0)), .int .i64 (zT (tg pl 1)), .int .i64 (zT (tg pl 2)), .string (mkS tl), .string ⟨#[]⟩], 51⟩ (off := 0) (.agg #[.int .i64 op, .int .i64 (pl.length : Int), .int .i64 (zT (tg pl 0)), .int .i64 (zT (tg pl 1)), .int .i64 (zT (tg pl 2)), .string (mkS tl), .string ⟨#[]⟩]) (.int .i64 0) Tryz.results37 (fun w hO => ⟨by have q := fit_or (c := (⟨op, (pl.length : Int), ⟨zT (tg pl 0), zT (tg pl 1), zT (tg pl 2), tl, []⟩⟩ : Co)) (hgu.trans (if_neg h3)) hpt (.inr h7); rw [q.1, q.2]; rfl, hO.below⟩)
    refine zX Z4 (by kernel_rfl) (xI (a := pt) (b := ([94] ++ s)) rfl (by kernel_rfl) (by kernel_rfl) (decide_eq_false (h7))) (Zv Z4 (ZY (ZO (Zv (.agg Z1) (Zs 3 ⟨b1, Z1, 51⟩ (off := 0) (.agg Z1) (Zv (.int .i64 6) (zU (zF ?_))))))))
    exact zG (zD (ZD 3 ⟨b1, Z1, 51⟩ (off := 0) (.agg Z1) (.int .i64 6) Tryz.results37 (fun w hO => ⟨by have q := fit_no (c := (⟨op, (pl.length : Int), ⟨zT (tg pl 0), zT (tg pl 1), zT (tg pl 2), tl, []⟩⟩ : Co)) (hgu.trans (if_neg h3)) hpt h6 h7; rw [q.1, q.2]; rfl, hO.below⟩)))
end
section
theorem textR_few {xs : List Al} (h1 : xs.length ≤ 6) (h : ∀ x ∈ xs, fewA x.l = true) : bD (yM xs) = kP (yM xs) := by
  unfold bD
  cases hf : fewR (yM xs) with
  | true => rfl
  | false =>
    cases xs with
    | nil => rfl
    | cons x xs => rw [few_all ⟨by simp, h1⟩ h] at hf; cases hf
theorem textR_bad {xs : List Al} {x : Al} (hm : x ∈ xs) (h : fewA x.l = false) : bD (yM xs) = [] := textR_nil.2 (few_one hm h)
theorem textR_big {xs : List Al} (h : 6 < xs.length) : bD (yM xs) = [] := textR_nil.2 (few_len (by omega))
theorem own_tx1 {M : List Nat} {W w : World} {x y z : Blk} {A B : List Blk} (h : Own M W w ([x, y, z] ++ A ++ B)) : Own M W w (z :: (A ++ B)) := by
  rw [List.append_assoc] at h
  exact Own.sub [x, y] h
theorem own_tx2 {M : List Nat} {W w : World} {x z : Blk} {A B : List Blk} (h : Own M W w ([x, z] ++ A ++ B)) : Own M W w (z :: A) := by
  exact (Own.sub [x] (by simpa using h : Own M W w (x :: (z :: A ++ B)))).sublist (by simp)
theorem own_tx3 {M : List Nat} {W w : World} {x y : Blk} {A B : List Blk} (h : Own M W w (x :: y :: (A ++ B))) : Own M W w (x :: y :: (B ++ A)) :=
  h.perm (List.Perm.cons x (List.Perm.cons y List.perm_append_comm))
theorem alts_le {l : List (List Co)} {i : Nat} (h : ∀ a ∈ l.take i, fewA a = true) : ∀ t ∈ (l.take i).map xL, t.length ≤ 1000000 := fun t ht => by
  obtain ⟨a, ha, rfl⟩ := List.mem_map.1 ht
  obtain ⟨h1, h2⟩ := fewA.facts (h a ha)
  unfold xL
  rw [joinB_len, List.length_map]
  have : ∀ (l : List Co), (∀ c ∈ l, c.may = true) → sumN ((l.map Co.print).map (·.length)) ≤ l.length * 300 := by
    intro l hl
    induction l with
    | nil => simp [sumN]
    | cons c l ih =>
      have h3 := mH (hl c (List.mem_cons_self ..))
      have h4 := ih fun d hd => hl d (List.mem_cons_of_mem _ hd)
      rw [List.map_cons, List.map_cons, sumN, List.length_cons]; omega
  have := this a h2
  have h5 : (a.length - 1) * ([44, 32] : List UInt8).length ≤ 5 * 2 := Nat.mul_le_mul (by omega) (by simp)
  omega
theorem gtext_any (A : Option Addr) (cap : Nat) (xs : List Al) (W : World) (hv : RgIn W W.heap.size A xs) (ht : HasLib W) : Calls Tryz.prog 39 #[.agg #[.slice A xs.length cap]] W fun e w' => e = .returned (.string (mkS (bD (yM xs)))) ∧ Below W.heap.size W w' := by
  have hn := hv.n
  refine Z2 (n := 51) Tryz.func39 rfl (ZO (Zb (.agg #[.slice A xs.length cap]) (fun b1 => Zv (.string ⟨#[]⟩) (ZN (zB (ZO (Zv (Zp b1 0) (Zl 0 ⟨b1, #[.slice A xs.length cap], 25⟩ (off := 0) (.slice A xs.length cap) ?_))))))))
  refine Zv (.int .i64 (xs.length : Int)) ?_
  by_cases h1 : (6 : Int) < (xs.length : Int)
  · refine Zg h1 (ZY (ZO (Zv (.string ⟨#[]⟩) (ZN (zG (zD (ZF (.string ⟨#[]⟩) Tryz.results39 ?_)))))))
    exact fun w hO => ⟨by rw [textR_big (by omega)]; rfl, hO.below⟩
  refine Zh h1 (ZX (ZB (ZO (Zv (.slice none 0 0) (ZN (zB ?_))))))
  refine ZO (Zv (Zp b1 0) (Zl 0 ⟨b1, #[.slice A xs.length cap], 25⟩ (off := 0) (.slice A xs.length cap) (Zv (.int .i64 (xs.length : Int)) (Zv (.int .i64 0) (ZN (zP (gV (L' := ⟨b1, #[.slice A xs.length cap], 25⟩ :: []) rfl (x7 (fun L f m => ∃ (i : Nat) (U : Option Addr) (n : Nat) (cu : Nat) (ob : List Blk) (j : Nat → Value), (i ≤ xs.length ∧ (∀ x ∈ xs.take i, fewA x.l = true) ∧ SlT (.slice U n cu) (((yM xs).take i).map xL) ob) ∧ L = ⟨b1, #[.slice A xs.length cap], 25⟩ :: ob ∧ f = kL j [(1, Zp b1 0), (3, .slice U n cu), (14, .slice A xs.length cap), (15, .int .i64 (xs.length : Int)), (16, .int .i64 (i : Int))] ∧ m = xs.length - i) (xs.length - 0) ⟨0, none, 0, 0, [], _, ⟨Nat.zero_le _, by simp, Sl.nil _ _⟩, rfl, ZU, rfl⟩ ?_))))))))
  rintro L f m ⟨i, U, n, cu, ob, j, hrel, rfl, rfl, rfl⟩
  obtain ⟨hil, hff, hT⟩ := hrel
  refine zB (zC ?_)
  by_cases h2 : (i : Int) < (xs.length : Int)
  · have hi : i < xs.length := by omega
    obtain ⟨bp, off, hA, hlt, hcell⟩ := hv.top (by omega)
    obtain ⟨x, hx⟩ : ∃ x, xs[i] = x := ⟨_, rfl⟩
    have hxm : x ∈ xs := hx ▸ List.getElem_mem hi
    have hxn := hv.m x hxm
    have hxr : (yM xs)[i]'(by rw [kE]; exact hi) = x.l := tI hi hx
    refine Zg h2 (ZN (zB (Zt (ZB (zB (zP (ZO (zX (Zp bp (off + i * 1)) (by kernel_rfl) (ZA (b := bp) (off := off) (c := cap) (n := xs.length) (k := .i64) (j := (i : Int)) (e := 47) (sz := 1) hA) ?_))))))))
    refine Zo (.slice x.A x.l.length x.cap) (a := ⟨bp, off + i * 1, none⟩) (fun w hO => yF kW (fun j u h => (hO.below.cell (p := ⟨bp, off + j, none⟩) hlt).trans (hcell j u h)) i 0 hi (by omega) _ (by rw [hx]; kernel_rfl)) (Zv (.slice x.A x.l.length x.cap) (ZN (zB (ZO (Zv (.slice x.A x.l.length x.cap) (Zv (.int .i64 (x.l.length : Int)) ?_))))))
    by_cases h3 : (x.l.length : Int) = 0
    · refine Zg h3 (Zv Z4 (Zk (Zk (Zk (Zv Z4 (ZY (ZO (Zv (.string ⟨#[]⟩) ?_))))))))
      exact ZN (zG (zD (zJ (zD (yK (zJ (zD (ZF (.string ⟨#[]⟩) Tryz.results39 (fun w hO => ⟨by rw [textR_bad hxm (tX (by omega))]; rfl, hO.below⟩)))))))))
    refine Zh h3 (Zv Z5 (Zv (.slice x.A x.l.length x.cap) (Zv (.int .i64 (x.l.length : Int)) ?_)))
    by_cases h4 : (6 : Int) < (x.l.length : Int)
    · refine Zg h4 (Zv Z4 (ZY (ZO (Zv (.string ⟨#[]⟩) (ZN (zG (zD ?_)))))))
      exact zJ (zD (yK (zJ (zD (ZF (.string ⟨#[]⟩) Tryz.results39 (fun w hO => ⟨by rw [textR_bad hxm (tX (by omega))]; rfl, hO.below⟩))))))
    refine Zh h4 (Zv Z5 (ZX (ZB (ZO (Zv (.slice none 0 0) (zU (zF ?_)))))))
    refine zB (ZO (Zv (.slice x.A x.l.length x.cap) (Zv (.int .i64 (x.l.length : Int)) (Zv (.int .i64 0) (ZN (zP (gV (L' := ⟨b1, #[.slice A xs.length cap], 25⟩ :: ([] ++ ob)) rfl (x7 (fun L f m => ∃ (k : Nat) (V : Option Addr) (np : Nat) (cv : Nat) (oa : List Blk) (j : Nat → Value), (k ≤ x.l.length ∧ (∀ c ∈ x.l.take k, c.may = true) ∧ SlT (.slice V np cv) ((x.l.take k).map Co.print) oa) ∧ L = ⟨b1, #[.slice A xs.length cap], 25⟩ :: (oa ++ ob) ∧ f = kL j [(1, Zp b1 0), (3, .slice U n cu), (14, .slice A xs.length cap), (15, .int .i64 (xs.length : Int)), (16, .int .i64 (i : Int)), (6, .slice V np cv), (28, .slice x.A x.l.length x.cap), (29, .int .i64 (x.l.length : Int)), (30, .int .i64 (k : Int))] ∧ m = x.l.length - k) (x.l.length - 0) ⟨0, none, 0, 0, [], _, ⟨Nat.zero_le _, by simp, Sl.nil _ _⟩, rfl, ZU, rfl⟩ ?_))))))))
    rintro L f m ⟨k, V, np, cv, oa, j, hrel, rfl, rfl, rfl⟩
    obtain ⟨hkl, hcf, hP⟩ := hrel
    refine zB (zC ?_)
    by_cases h5 : (k : Int) < (x.l.length : Int)
    · have hk : k < x.l.length := by omega
      obtain ⟨bq, off2, hA2, hlt2, hcell2⟩ := hv.each x hxm (by omega)
      obtain ⟨c, hc⟩ : ∃ c, x.l[k] = c := ⟨_, rfl⟩
      have hcm : c ∈ x.l := hc ▸ List.getElem_mem hk
      have hcS : c.short := hv.short x hxm c hcm
      refine Zg h5 (ZN (zB (Zt (ZB (zB (zP (ZO (zX (Zp bq (off2 + k * 7)) (by kernel_rfl) (ZA (b := bq) (off := off2) (c := x.cap) (n := x.l.length) (k := .i64) (j := (k : Int)) (e := 51) (sz := 7) hA2) ?_))))))))
      refine Zo (coV c) (a := ⟨bq, off2 + k * 7, none⟩) (fun w hO => yF wD (fun j u h => (hO.below.cell (p := ⟨bq, off2 + j, none⟩) hlt2).trans (hcell2 j u h)) k 0 hk (by omega) _ (by rw [hc]; kernel_rfl)) (Za (.agg Z1) (fun b2 => Zs 0 ⟨b2, Z1, 51⟩ (off := 0) (coV c) (ZN (zB (ZO (Zl 0 ⟨b2, (coV c).cells, 51⟩ (off := 0) (coV c) (Zc (k := 73) (args := #[coV c]) (.bool c.may) (fun w _ => cMay_any c w hcS) ?_)))))))
      cases h6 : c.may with
      | true =>
        refine Zv Z5 (ZX (ZB (zC (Zv (.slice V np cv) (Zl 0 ⟨b2, (coV c).cells, 51⟩ (off := 0) (coV c) (Zc (k := 64) (args := #[coV c]) (.string (mkS c.print)) (fun w hO => pW c w hcS (ht.tab.on hO.below)) (vG 9 #[.string (mkS c.print)] (by kernel_rfl) rfl (fun _ => by kernel_rfl) (fun b3 => ?_))))))))
        have hpl0 : ((x.l.take k).map Co.print).length ≤ 6 := by rw [List.length_map, List.length_take]; omega
        obtain ⟨i1, z1, e11, e12, e13, e14, e15⟩ := fU
        refine kM (L' := [⟨b3, #[.string (mkS c.print)], 9⟩, ⟨b2, (coV c).cells, 51⟩, ⟨b1, #[.slice A xs.length cap], 25⟩] ++ oa ++ (ob)) (by simp <;> rfl) (gQ (sz := 1) (by kernel_rfl) rfl Tryz.underlying58 e11 e12 e13 e14 (by kernel_rfl) hP (a := ⟨b3, 0, none⟩) (m := 1) (c := 1) (news := tD c.print) (by kernel_rfl) rfl (fun w hO j u hj => ?_) (fun u hu => by rw [List.mem_singleton.1 hu]; rfl) (by unfold maxLen; omega) (by rw [e15]; omega) (fun w1 oa2 hu1 => ?_))
        · rw [y7, cell_of_row w b3 (0 + j) (tD c.print).toArray 9 _ (hO.held ⟨b3, (tD c.print).toArray, 9⟩ (List.mem_append_left _ (List.mem_append_left _ (List.mem_cons_self ..))))]; simpa using hj
        have hP2 : SlT w1 (((x.l.take k).map Co.print) ++ [c.print]) oa2 := SlT.add hu1
        obtain ⟨V2, cv2, rfl⟩ := hP2.form
        exact Zv (.slice V2 ((((x.l.take k).map Co.print) ++ [c.print]).length) cv2) (zU (zV (zF (zC (Zu (k := .i64) (((k + 1 : Nat) : Int)) (IntWalk.i64_in _ (by omega)) (Zv (.int .i64 ((k + 1 : Nat) : Int)) (zU (y6 (fun w hO => own_tx1 hO) (zY (m' := x.l.length - (k + 1)) (by omega) ⟨k + 1, V2, (((x.l.take k).map Co.print) ++ [c.print]).length, cv2, oa2, _, ⟨by omega, tC hcf hk hc (by assumption), by rw [List.take_succ_eq_append_getElem hk, hc, List.map_append]; exact hP2⟩, rfl, ZU, rfl⟩)))))))))
      | false =>
        refine Zv Z4 (ZY (ZO (Zv (.string ⟨#[]⟩) (ZN (zG (zD (zJ ?_)))))))
        exact zD (yK (zJ (zD (zJ (zD (yK (zJ (zD (ZF (.string ⟨#[]⟩) Tryz.results39 (fun w hO => ⟨by rw [textR_bad hxm (fewA_one hcm (by assumption))]; rfl, hO.below⟩))))))))))
    have hal2 : ∀ c ∈ x.l, c.may = true := by have q := hcf; rwa [List.take_of_length_le (by omega)] at q
    have hfx : fewA x.l = true := fewA_all ⟨by omega, by omega⟩ hal2
    have htk2 : x.l.take k = x.l := List.take_of_length_le (by omega)
    have hpl := hP.caps
    rw [htk2] at hP hpl
    have htl := hT.caps
    refine Zh h5 (ZN (zB (Zf (yE (zH (zS (zM (zF (zC (Zv (.slice U n cu) ?_))))))))))
    refine Zv (.slice V np cv) (Zc (k := 74) (args := #[.slice V np cv, .string ⟨#[44, 32]⟩]) (.string (mkS (xL x.l))) (fun w hO => by rw [hpl.1]; exact sjoin_any [44, 32] (x.l.map Co.print) V cv w (SlT.reads hP hpl.1.symm hO (fun x hx => by simp [hx])) (by decide) (by decide) (by rw [List.length_map]; omega) (fun t ht => by obtain ⟨c, hc, rfl⟩ := List.mem_map.1 ht; exact Nat.le_trans (mH (hal2 c hc)) (by decide)) hpl.2) (vG 9 #[.string (mkS (xL x.l))] (by kernel_rfl) rfl (fun _ => by kernel_rfl) (fun b2 => ?_)))
    have hal0 : (((yM xs).take i).map xL).length ≤ 6 := by rw [List.length_map, List.length_take, kE]; omega
    refine jP (L' := ⟨b2, #[.string (mkS (xL x.l))], 9⟩ :: ⟨b1, #[.slice A xs.length cap], 25⟩ :: (ob ++ oa)) (fun w hO => own_tx3 hO) ?_
    obtain ⟨i2, z2, e21, e22, e23, e24, e25⟩ := fU
    refine kM (L' := [⟨b2, #[.string (mkS (xL x.l))], 9⟩, ⟨b1, #[.slice A xs.length cap], 25⟩] ++ ob ++ (oa)) (by simp <;> rfl) (gQ (sz := 1) (by kernel_rfl) rfl Tryz.underlying58 e21 e22 e23 e24 (by kernel_rfl) hT (a := ⟨b2, 0, none⟩) (m := 1) (c := 1) (news := tD (xL x.l)) (by kernel_rfl) rfl (fun w hO j u hj => ?_) (fun u hu => by rw [List.mem_singleton.1 hu]; rfl) (by unfold maxLen; omega) (by rw [e25]; omega) (fun w2 ob2 hu2 => ?_))
    · rw [y7, cell_of_row w b2 (0 + j) (tD (xL x.l)).toArray 9 _ (hO.held ⟨b2, (tD (xL x.l)).toArray, 9⟩ (List.mem_append_left _ (List.mem_append_left _ (List.mem_cons_self ..))))]; simpa using hj
    have hT2 : SlT w2 ((((yM xs).take i).map xL) ++ [xL x.l]) ob2 := SlT.add hu2
    obtain ⟨U2, cu2, rfl⟩ := hT2.form
    exact Zv (.slice U2 (((((yM xs).take i).map xL) ++ [xL x.l]).length) cu2) (zU (zV (zF (zC (Zu (k := .i64) (((i + 1 : Nat) : Int)) (IntWalk.i64_in _ (by omega)) (Zv (.int .i64 ((i + 1 : Nat) : Int)) (zU (y6 (fun w hO => own_tx2 hO) (zY (m' := xs.length - (i + 1)) (by omega) ⟨i + 1, U2, ((((yM xs).take i).map xL) ++ [xL x.l]).length, cu2, ob2, _, ⟨by omega, tC hff hi hx hfx, by rw [List.take_succ_eq_append_getElem (by rw [kE]; exact hi), hxr, List.map_append]; exact hT2⟩, rfl, ZU, rfl⟩)))))))))
  have hall : ∀ x ∈ xs, fewA x.l = true := by have q := hff; rwa [List.take_of_length_le (by omega)] at q
  have htk : (yM xs).take i = yM xs := List.take_of_length_le (by rw [kE]; omega)
  have htl := hT.caps
  rw [htk] at hT htl
  refine Zh h2 (ZN (zB (Zf (yE (zH (zS (zM (zF (zB (zC ?_))))))))))
  exact Zv (.slice U n cu) (Zc (k := 74) (args := #[.slice U n cu, .string ⟨#[32, 124, 124, 32]⟩]) (.string (mkS (kP (yM xs)))) (fun w hO => by rw [htl.1]; exact sjoin_any [32, 124, 124, 32] ((yM xs).map xL) U cu w (SlT.reads hT htl.1.symm hO (fun x hx => by simp [hx])) (by decide) (by decide) (by rw [List.length_map, kE]; omega) (by have q := alts_le (l := yM xs) (i := xs.length) (fun a ha => by obtain ⟨x, hx, rfl⟩ := List.mem_map.1 (List.mem_of_mem_take ha); exact hall x hx); rwa [List.take_of_length_le (by rw [kE]; exact Nat.le_refl _)] at q) htl.2) (Zv (.string (mkS (kP (yM xs)))) (ZN (zG (ZF (.string (mkS (kP (yM xs)))) Tryz.results39 (fun w hO => ⟨by rw [textR_few (by omega) hall], hO.below⟩))))))
theorem gPrint_any (A : Option Addr) (cap : Nat) (xs : List Al) (W : World) (hv : RgIn W W.heap.size A xs) (ht : HasLib W) : Calls Tryz.prog 21 #[.agg #[.slice A xs.length cap]] W fun e w' => e = .returned (.string (mkS (fB (yM xs)))) ∧ Below W.heap.size W w' := by
  obtain ⟨t, et⟩ : ∃ t, bD (yM xs) = t := ⟨_, rfl⟩
  have hsz := xV t
  refine Z2 (n := 10) Tryz.func21 rfl (ZO (Zb (.agg #[.slice A xs.length cap]) (fun b1 => Zv (.string ⟨#[]⟩) (ZR (Zl 0 ⟨b1, #[.slice A xs.length cap], 25⟩ (off := 0) (.agg #[.slice A xs.length cap]) (Zc (k := 39) (args := #[.agg #[.slice A xs.length cap]]) (.string (mkS t)) (fun w hO => bJ (by rw [et]) (gtext_any A cap xs w (hv.on hO.below hO.below.size) (ht.on hO.below))) (Zv (.string (mkS t)) ?_)))))))
  refine ZN (zB (ZO (Zv (.string (mkS t)) (Zv (.int .i64 ((mkS t).size)) ?_))))
  by_cases h1 : (96 : Int) < (mkS t).size
  · refine Zg h1 (ZY (ZO (Zv (.string ⟨#[]⟩) (ZN (zG (zD (ZF (.string ⟨#[]⟩) Tryz.results21 ?_)))))))
    exact fun w hO => ⟨by rw [print_text, et, if_pos (by omega)]; rfl, hO.below⟩
  refine Zh h1 (ZX (ZB (ZO (Zv (.string (mkS t)) (Zv (.string (mkS t)) (zU (zF ?_)))))))
  exact zG (ZF (.string (mkS t)) Tryz.results21 (fun w hO => ⟨by rw [print_text, et, if_neg (by omega)], hO.below⟩))
theorem tV (A : Option Addr) (cap : Nat) (xs : List Al) (W : World) (hv : RgIn W W.heap.size A xs) (ht : HasLib W) : Calls Tryz.prog 19 #[.agg #[.slice A xs.length cap]] W fun e w' => e = .returned (.bool (rgMay (yM xs))) ∧ Below W.heap.size W w' := by
  obtain ⟨t, et⟩ : ∃ t, fB (yM xs) = t := ⟨_, rfl⟩
  refine Z2 (n := 6) Tryz.func19 rfl (ZO (Zb (.agg #[.slice A xs.length cap]) (fun b1 => Zv Z5 (ZR (Zl 0 ⟨b1, #[.slice A xs.length cap], 25⟩ (off := 0) (.agg #[.slice A xs.length cap]) (Zc (k := 21) (args := #[.agg #[.slice A xs.length cap]]) (.string (mkS t)) (fun w hO => bJ (by rw [et]) (gPrint_any A cap xs w (hv.on hO.below hO.below.size) (ht.on hO.below))) ?_))))))
  by_cases h1 : (t : List UInt8) = []
  · exact zX Z5 (by kernel_rfl) (xI (a := t) (b := ([])) rfl (by kernel_rfl) (by kernel_rfl) (decide_eq_true (h1))) (Zv Z5 (ZN (zG (ZF Z5 Tryz.results19 (fun w hO => ⟨by rw [(print_nil (yM xs)).1 (et.trans (by assumption))], hO.below⟩)))))
  exact zX Z4 (by kernel_rfl) (xI (a := t) (b := ([])) rfl (by kernel_rfl) (by kernel_rfl) (decide_eq_false (h1))) (Zv Z4 (ZN (zG (ZF Z4 Tryz.results19 (fun w hO => ⟨by rw [show rgMay (yM xs) = true from by cases hm : rgMay (yM xs) with | true => rfl | false => exact absurd (et.symm.trans ((print_nil (yM xs)).2 hm)) (by assumption)], hO.below⟩)))))
end
section
structure Se where
  A : Option Addr
  B : Option Addr
  s : St
  c : Nat
  d : Nat
def seC (x : Se) : List Value := [.slice x.A x.s.rel.length x.c, .slice x.B x.s.pre.length x.d]
def seV (x : Se) : Value := .agg #[.slice x.A x.s.rel.length x.c, .slice x.B x.s.pre.length x.d]
theorem seC_len (x : Se) : (seC x).length = 2 := rfl
theorem se_cells (x : Se) : ∀ u ∈ seC x, u.oneCell' = true := by
  intro u hu
  unfold seC at hu
  simp only [List.mem_cons, List.not_mem_nil, or_false] at hu
  rcases hu with rfl | rfl <;> rfl
theorem seInfo : (Tryz.prog.info? 31).map (fun i => (i.zero.map (·.cells.size), i.size, i.bytes)) = some (some 2, 2, 48) := by kernel_rfl
theorem se_info : ∃ i z, Tryz.prog.info? 31 = some i ∧ i.zero = some z ∧ i.size = 2 ∧ z.cells.size = 2 ∧ i.bytes = 48 := by
  have h := seInfo
  cases hi : Tryz.prog.info? 31 with
  | none => rw [hi] at h; cases h
  | some i =>
    rw [hi] at h
    simp only [Option.map_some, Option.some.injEq, Prod.mk.injEq] at h
    cases hz : i.zero with
    | none => rw [hz] at h; simp at h
    | some z => rw [hz] at h; simp at h; exact ⟨i, z, rfl, hz, h.2.1, h.1, h.2.2⟩
structure SsIn (w : World) (B : Nat) (A : Option Addr) (xs : List Se) : Prop where
  top : Reads seC w B A xs
  each : ∀ x ∈ xs, SetIn w B x.A x.B x.s
  caps : ∀ x ∈ xs, x.s.rel.length ≤ x.c ∧ x.s.pre.length ≤ x.d
structure SsO (u : Value) (xs : List Se) (o1 o2 : List Blk) : Prop where
  top : Sl 31 2 u xs.length (xs.flatMap seC) o1
  each : ∀ x ∈ xs, ∃ o, (∀ b ∈ o, b ∈ o2) ∧ SetO (.agg #[.slice x.A x.s.rel.length x.c, .slice x.B x.s.pre.length x.d]) x.s o
theorem SsO.nil : SsO (.slice none 0 0) [] [] [] := ⟨Sl.nil _ _, fun x hx => by simp at hx⟩
theorem SsO.add {u u2 : Value} {xs : List Se} {o1 o2 o3 oa : List Blk} {A B : Option Addr} {c d : Nat} {s : St} (h : SsO u xs o1 o2) (h2 : Sl 31 2 u2 (xs.length + 1) (xs.flatMap seC ++ seC ⟨A, B, s, c, d⟩) o3) (ha : SetO (.agg #[.slice A s.rel.length c, .slice B s.pre.length d]) s oa) : SsO u2 (xs ++ [⟨A, B, s, c, d⟩]) o3 (oa ++ o2) :=
  ⟨h2.to (by simp) (by simp), fun x hx => by
    rcases List.mem_append.1 hx with hx | hx
    · obtain ⟨o, k1, k2⟩ := h.each x hx
      exact ⟨o, fun b hb => List.mem_append_right _ (k1 b hb), k2⟩
    · obtain rfl := List.mem_singleton.1 hx
      exact ⟨oa, fun b hb => List.mem_append_left _ hb, ha⟩⟩
theorem SsO.inn {A : Option Addr} {n cap : Nat} {xs : List Se} {o1 o2 L : List Blk} {M : List Nat} {W w : World} (h : SsO (.slice A n cap) xs o1 o2) (hn : xs.length = n) (hO : Own M W w L) (h1 : ∀ x ∈ o1, x ∈ L) (h2 : ∀ x ∈ o2, x ∈ L) (hf : ∀ x ∈ xs, SF x.s 198) : SsIn w w.heap.size A xs := by
  subst hn
  refine ⟨Sl.reads h.top rfl hO h1, fun x hx => ?_, fun x hx => ?_⟩
  · obtain ⟨o, k1, k2⟩ := h.each x hx
    exact SetO.inn k2 hO (fun b hb => h2 b (k1 b hb)) (hf x hx) (by decide)
  · obtain ⟨o, k1, k2⟩ := h.each x hx
    exact k2.caps
theorem se_at {xs : List Se} {r : List (List Co)} (hr : xs.map Se.s = r.map yV) {k : Nat} (hk : k < xs.length) (hk2 : k < r.length) {x : Se} (hx : xs[k] = x) : yV r[k] = x.s := by
  have q1 := List.getElem_of_eq hr (i := k) (by rw [List.length_map]; exact hk)
  rw [List.getElem_map, List.getElem_map, hx] at q1
  exact q1.symm
theorem fin_alts {r : List (List Co)} (h : fewR r = true) : ∀ s ∈ r.map yV, SF s 198 := fun s hs => by
  obtain ⟨a, ha, rfl⟩ := List.mem_map.1 hs
  exact (kU a).le (by have := (fewA.facts ((fewR.facts h).2 a ha)).1; omega)
end
section
theorem sub0 {P : Program} {ρ : Operand → Value} {o : Oper} (k : Nat) (hr : ∀ w, (execOp ρ o).run P w = .ok (.value (.int .i64 (IntKind.i64.wrap ((k : Int) - 0)))) w) (hk : (k : Int) ≤ 9223372036854775807) (w : World) : (execOp ρ o).run P w = .ok (.value (.int .i64 (k : Int))) w := by
  rw [hr w, Int.sub_zero, IntWalk.i64_in _ (by omega)]
theorem grow4_any (k : Nat) (W : World) (hk : k ≤ 600000) :
    Calls Tryz.prog 180 #[.slice none 0 0, .int .i64 (k : Int)] W fun e w' => ∃ v' ob', e = .returned v' ∧ SlS v' [] ob' ∧ Own [] W w' ob' := by
  refine Z2 (n := 27) Tryz.func180 rfl (ZO (Zv (.slice none 0 0) (ZN (zB (ZO (Zv (.int .i64 (k : Int)) (Zh (p := (k : Int) < 0) (by omega) (zU ?_))))))))
  refine zF (Zf (ZB (zB (ZO (Zv (.int .i64 (k : Int)) (Zv (.slice none 0 0) (Zv (.int .i64 (0 : Int)) (Zv (.slice none 0 0) (Zv (.int .i64 (0 : Int)) ?_)))))))))
  refine Zv (.int .i64 0) (zX (.int .i64 (k : Int)) (by kernel_rfl) (fun w => sub0 k (fun _ => by kernel_rfl) (by omega) w) (Zv (.int .i64 (k : Int)) (ZR (Zv (.int .i64 (k : Int)) ?_))))
  by_cases h1 : (0 : Int) < (k : Int)
  · refine Zg h1 (ZY (zC (Zv (.slice none 0 0) (Zv (.slice none 0 0) (Zv (.int .i64 (0 : Int)) (Zv (.slice none 0 0) (Zv (.int .i64 (k : Int)) ?_)))))))
    obtain ⟨i, z, e1, e2, e3, e4, e5⟩ := qH
    refine s_append0 (sz := 14) (k := k) (by kernel_rfl) rfl (by kernel_rfl) (by kernel_rfl) Tryz.underlying29 Tryz.underlying3 e1 e2 e3 e4 (by omega) (by decide) (by unfold maxLen; omega) (by rw [e5]; omega) (fun b cs cap hcs hkc hcm => Zv (.slice none 0 0) (Zv (.int .i64 (0 : Int)) (zX (.slice (some ⟨b, 0, none⟩) 0 cap) (by kernel_rfl) (dA (b := b) (off := 0) (n := k) (c := cap) (k := .i64) (j := 0) (e := 80) (sz := 14) rfl (by kernel_rfl) (by kernel_rfl) (by kernel_rfl) (by kernel_rfl) (by omega) (by omega)) (Zv (.slice (some ⟨b, 0, none⟩) 0 cap) (ZR (Zv (.slice (some ⟨b, 0, none⟩) 0 cap) (Zv (.slice (some ⟨b, 0, none⟩) 0 cap) (zU ?_))))))))
    exact zF (zG (ZF (.slice (some ⟨b, 0, none⟩) 0 cap) Tryz.results180 (fun w hO => ⟨_, [⟨b, cs, 80⟩], rfl, ⟨rfl, .inr ⟨b, cap, cs, rfl, rfl, Nat.zero_le _, hcm, hcs, by simp⟩⟩, hO⟩)))
  refine Zh h1 (ZX (ZB (ZO (Zv (.slice none 0 0) (Zv (.slice none 0 0) (zU (zF ?_)))))))
  exact zG (ZF (.slice none 0 0) Tryz.results180 (fun w hO => ⟨_, [], rfl, Sl.nil _ _, by simpa using hO⟩))
end
section
theorem tP {P : Program} {ty : TypeId} {w : World} {b o : Nat} {v : Value} (hc : w.cell? ⟨b, o, none⟩ = some v) (hr : kF P ty [v].toArray 0 = some v) : (loadVar ty ⟨b, o, none⟩).run P w = .ok v w :=
  old_load [v] v (fun j u h => by
    cases j with
    | zero => simp only [List.getElem?_cons_zero, Option.some.injEq] at h; rw [← h]; exact hc
    | succ j => simp at h) hr
theorem concat4_any (A B : Option Addr) (cap capb : Nat) (a b : List Sp) (W : World) (hv : Reads x6 W W.heap.size A a) (hu : Reads x6 W W.heap.size B b) (hn : a.length ≤ 100000) (hm : b.length ≤ 100000) (g : Nat) (hg : W.heap[g]? = some (.cells #[.slice A a.length cap, .slice B b.length capb] 29)) :
    Calls Tryz.prog 137 #[.slice (some ⟨g, 0, none⟩) 2 2] W fun e w' => ∃ v' ob', e = .returned v' ∧ SlS v' (a ++ b) ob' ∧ Own [] W w' ob' := by
  have hglt : g < W.heap.size := (Array.getElem?_eq_some_iff.1 hg).1
  have hcell : ∀ j u, (#[.slice A a.length cap, .slice B b.length capb] : Array Value).toList[j]? = some u → W.cell? ⟨g, 0 + j, none⟩ = some u := fun j u h => by rw [cell_of_row W g (0 + j) _ _ _ hg]; simpa using h
  refine Z2 (n := 36) Tryz.func137 rfl (ZO (Zv (.slice none 0 0) (ZR (Zv (.int .i64 0) (ZN (zB ?_))))))
  refine ZO (Zv (.slice (some ⟨g, 0, none⟩) 2 2) (Zv (.int .i64 (2 : Int)) (Zv (.int .i64 0) (ZN (zP (x7 (fun L f m => (∃  (j : Nat → Value), (True) ∧ L = [] ∧ f = kL j [(0, .slice (some ⟨g, 0, none⟩) 2 2), (3, .int .i64 0), (9, .slice (some ⟨g, 0, none⟩) 2 2), (10, .int .i64 2), (11, .int .i64 0)] ∧ m = 3) ∨ (∃  (j : Nat → Value), (True) ∧ L = [] ∧ f = kL j [(0, .slice (some ⟨g, 0, none⟩) 2 2), (3, .int .i64 ((0 + a.length : Nat) : Int)), (9, .slice (some ⟨g, 0, none⟩) 2 2), (10, .int .i64 2), (11, .int .i64 1)] ∧ m = 2) ∨ (∃  (j : Nat → Value), (True) ∧ L = [] ∧ f = kL j [(0, .slice (some ⟨g, 0, none⟩) 2 2), (3, .int .i64 ((0 + a.length + b.length : Nat) : Int)), (9, .slice (some ⟨g, 0, none⟩) 2 2), (10, .int .i64 2), (11, .int .i64 2)] ∧ m = 1)) 3 (.inl ⟨_, trivial, rfl, ZU, rfl⟩) ?_))))))
  rintro L f m (⟨j, hrel, rfl, rfl, rfl⟩ | ⟨j, hrel, rfl, rfl, rfl⟩ | ⟨j, hrel, rfl, rfl, rfl⟩)
  · refine ZO (Zv Z4 (ZN (zB (Zt (ZB (zB (zP (zB ?_))))))))
    refine zC (zX (Zp g 0) (by kernel_rfl) (ZV (b := g) (off := 0) (n := 2) (c := 2) (k := .i64) (j := 0) (e := 29) (sz := 1)) (Zo (.slice A a.length cap) (a := ⟨g, 0, none⟩) (fun w hO => tP ((hO.below.cell (p := ⟨g, 0, none⟩) hglt).trans (by simpa using hcell 0 _ rfl)) (by kernel_rfl)) (Zv (.slice A a.length cap) (ZR (Zv (.int .i64 0) (Zv (.slice A a.length cap) (Zv (.int .i64 (a.length : Int)) (Zu (k := .i64) (((0 + a.length : Nat) : Int)) (IntWalk.i64_in _ (by omega)) ?_))))))))
    refine Zv (.int .i64 ((0 + a.length : Nat) : Int)) (ZR (Zv (.int .i64 ((0 + a.length : Nat) : Int)) (Zh (p := ((0 + a.length : Nat) : Int) < 0) (by omega) (ZX (xD (zV ?_))))))
    exact zF (zC (Zv (.int .i64 1) (Zv (.int .i64 1) (zU (zY (m' := 2) (by decide) (.inr (.inl ⟨_, trivial, rfl, ZU, rfl⟩)))))))
  · refine ZO (Zv Z4 (ZN (zB (Zt (ZB (zB (zP (zB ?_))))))))
    refine zC (zX (Zp g 1) (by kernel_rfl) (ZV (b := g) (off := 0) (n := 2) (c := 2) (k := .i64) (j := 1) (e := 29) (sz := 1)) (Zo (.slice B b.length capb) (a := ⟨g, 1, none⟩) (fun w hO => tP ((hO.below.cell (p := ⟨g, 1, none⟩) hglt).trans (by simpa using hcell 1 _ rfl)) (by kernel_rfl)) (Zv (.slice B b.length capb) (ZR (Zv (.int .i64 ((0 + a.length : Nat) : Int)) (Zv (.slice B b.length capb) (Zv (.int .i64 (b.length : Int)) (Zu (k := .i64) (((0 + a.length + b.length : Nat) : Int)) (IntWalk.i64_in _ (by omega)) ?_))))))))
    refine Zv (.int .i64 ((0 + a.length + b.length : Nat) : Int)) (ZR (Zv (.int .i64 ((0 + a.length + b.length : Nat) : Int)) (Zh (p := ((0 + a.length + b.length : Nat) : Int) < 0) (by omega) (ZX (xD (zV ?_))))))
    exact zF (zC (Zv (.int .i64 2) (Zv (.int .i64 2) (zU (zY (m' := 1) (by decide) (.inr (.inr (⟨_, trivial, rfl, ZU, rfl⟩))))))))
  refine ZO (Zv Z5 (ZN (zB (Zf (yE (zH (zS (zM (zF ?_)))))))))
  refine ZO (Zv (.int .i64 ((0 + a.length + b.length : Nat) : Int)) (Zr (k := 180) (args := #[.slice none 0 0, .int .i64 ((0 + a.length + b.length : Nat) : Int)]) (fun v' L' => SlS v' [] L') (fun w hO => (grow4_any (0 + a.length + b.length) w (by omega)).mono fun e w' ⟨v', ob', h1, h2, h3⟩ => ⟨v', ob', h1, h2, by simpa using Own.joinN hO h3⟩) (fun v0 o0 hv0 => kM (L' := o0 ++ []) (List.append_nil _).symm (Zv (v0) (ZN (zB (ZO (Zv (.slice (some ⟨g, 0, none⟩) 2 2) ?_))))))))
  refine Zv (.int .i64 (2 : Int)) (Zv (.int .i64 0) (ZN (zP (x7 (fun L f m => (∃ (v : Value) (oq : List Blk) (j : Nat → Value), (SlS v ([]) oq) ∧ L = oq ++ [] ∧ f = kL j [(6, v), (25, .slice (some ⟨g, 0, none⟩) 2 2), (26, .int .i64 2), (27, .int .i64 0)] ∧ m = 3) ∨ (∃ (v : Value) (oq : List Blk) (j : Nat → Value), (SlS v (a) oq) ∧ L = oq ++ [] ∧ f = kL j [(6, v), (25, .slice (some ⟨g, 0, none⟩) 2 2), (26, .int .i64 2), (27, .int .i64 1)] ∧ m = 2) ∨ (∃ (v : Value) (oq : List Blk) (j : Nat → Value), (SlS v (a ++ b) oq) ∧ L = oq ++ [] ∧ f = kL j [(6, v), (25, .slice (some ⟨g, 0, none⟩) 2 2), (26, .int .i64 2), (27, .int .i64 2)] ∧ m = 1)) 3 (.inl ⟨_, _, _, hv0, rfl, ZU, rfl⟩) ?_))))
  rintro L f m (⟨v, oq, j, hrel, rfl, rfl, rfl⟩ | ⟨v, oq, j, hrel, rfl, rfl, rfl⟩ | ⟨v, oq, j, hrel, rfl, rfl, rfl⟩)
  · unfold SlS at hrel
    refine ZO (Zv Z4 (ZN (zB (Zt (ZB (zB (zP (zB ?_))))))))
    refine zC (zX (Zp g 0) (by kernel_rfl) (ZV (b := g) (off := 0) (n := 2) (c := 2) (k := .i64) (j := 0) (e := 29) (sz := 1)) (Zo (.slice A a.length cap) (a := ⟨g, 0, none⟩) (fun w hO => tP ((hO.below.cell (p := ⟨g, 0, none⟩) hglt).trans (by simpa using hcell 0 _ rfl)) (by kernel_rfl)) (Zv (.slice A a.length cap) (ZN (zC (Zv (v) (Zv (.slice A a.length cap) ?_)))))))
    obtain ⟨i, z, e1, e2, e3, e4, e5⟩ := qH
    refine kM (L' := [] ++ oq ++ []) (by simp) (d9 (E := []) (ob := oq) (L0 := []) (sz := 14) (l := a) (A := A) (c := cap) yA (by kernel_rfl) rfl Tryz.underlying29 e1 e2 e3 e4 (by kernel_rfl) hrel (by kernel_rfl) (fun w hO => hv.on hO.below hO.size) gI (by unfold maxLen; first | (simp; omega) | omega) (by rw [e5]; first | (simp; omega) | omega) (fun va oa hva => kM (L' := oa ++ []) (by simp) ?_))
    have hva2 : SlS va (a) oa := hva.to (by simp) (by simp)
    exact Zv (va) (zU (zV (zF (zC (Zv (.int .i64 1) (Zv (.int .i64 1) (zU (zY (m' := 2) (by decide) (.inr (.inl ⟨va, oa, _, hva2, rfl, ZU, rfl⟩))))))))))
  · unfold SlS at hrel
    refine ZO (Zv Z4 (ZN (zB (Zt (ZB (zB (zP (zB ?_))))))))
    refine zC (zX (Zp g 1) (by kernel_rfl) (ZV (b := g) (off := 0) (n := 2) (c := 2) (k := .i64) (j := 1) (e := 29) (sz := 1)) (Zo (.slice B b.length capb) (a := ⟨g, 1, none⟩) (fun w hO => tP ((hO.below.cell (p := ⟨g, 1, none⟩) hglt).trans (by simpa using hcell 1 _ rfl)) (by kernel_rfl)) (Zv (.slice B b.length capb) (ZN (zC (Zv (v) (Zv (.slice B b.length capb) ?_)))))))
    obtain ⟨i, z, e1, e2, e3, e4, e5⟩ := qH
    refine kM (L' := [] ++ oq ++ []) (by simp) (d9 (E := []) (ob := oq) (L0 := []) (sz := 14) (l := b) (A := B) (c := capb) yA (by kernel_rfl) rfl Tryz.underlying29 e1 e2 e3 e4 (by kernel_rfl) hrel (by kernel_rfl) (fun w hO => hu.on hO.below hO.size) gI (by unfold maxLen; first | (simp; omega) | omega) (by rw [e5]; first | (simp; omega) | omega) (fun va oa hva => kM (L' := oa ++ []) (by simp) ?_))
    have hva2 : SlS va (a ++ b) oa := hva.to (by simp) (by simp)
    exact Zv (va) (zU (zV (zF (zC (Zv (.int .i64 2) (Zv (.int .i64 2) (zU (zY (m' := 1) (by decide) (.inr (.inr (⟨va, oa, _, hva2, rfl, ZU, rfl⟩)))))))))))
  unfold SlS at hrel
  refine ZO (Zv Z5 (ZN (zB (Zf (yE (zH (zS (zM (zF ?_)))))))))
  exact ZO (Zv (v) (Zv (v) (ZN (zG (ZF (v) Tryz.results137 (fun w hO => ⟨v, oq, rfl, hrel, by simpa using hO⟩))))))
theorem or4_any (A B : Option Addr) (cap capb : Nat) (a b : List Sp) (W : World) (hv : Reads x6 W W.heap.size A a) (hu : Reads x6 W W.heap.size B b) (hn : a.length ≤ 100000) (hm : b.length ≤ 100000) (ha : x5 a) (hb : x5 b) :
    Calls Tryz.prog 83 #[.slice A a.length cap, .slice B b.length capb] W fun e w' => ∃ v' ob', e = .returned v' ∧ SlS v' (if zN a && zN b then orL a b else []) ob' ∧ Own [] W w' ob' := by
  refine Z2 (n := 24) Tryz.func83 rfl (ZO (Zv (.slice none 0 0) (ZN (zB (ZO (Zv (.slice A a.length cap) (Zc (k := 129) (args := #[.slice A a.length cap]) (.bool (zN a)) (fun w hO => jY A cap a w (hv.on hO.below hO.size) (by omega) ha) ?_)))))))
  cases h1 : zN a with
  | true =>
    refine Zv Z5 (Zv Z5 (Zv (.slice B b.length capb) (Zc (k := 129) (args := #[.slice B b.length capb]) (.bool (zN b)) (fun w hO => jY B capb b w (hu.on hO.below hO.size) (by omega) hb) ?_)))
    cases h2 : zN b with
    | true =>
      refine Zv Z5 (Zv Z5 (ZX (ZB (ZO (Zv (.slice A a.length cap) (Zv (.slice B b.length capb) (vG 29 #[.slice A a.length cap, .slice B b.length capb] (by kernel_rfl) rfl (fun _ => by kernel_rfl) (fun b1 => ?_))))))))
      refine Zr (k := 137) (args := #[.slice (some ⟨b1, 0, none⟩) 2 2]) (fun v' L' => SlS v' (a ++ b) L') (fun w hO => (concat4_any A B cap capb a b w (hv.on hO.below hO.size) (hu.on hO.below hO.size) hn hm b1 (hO.held _ List.mem_cons_self)).mono fun e w' ⟨v', ob', h1, h2, h3⟩ => ⟨v', ob', h1, h2, Own.take (Own.joinN hO h3) (fun x hx => List.mem_append_left _ hx) h3.apart⟩) (fun cv oc hcv => ?_)
      obtain ⟨C, capc, rfl⟩ := hcv.form
      have hlen : (a ++ b).length ≤ 200000 := by rw [List.length_append]; omega
      have hlab := pY ha hb
      refine Zr (k := 136) (args := #[.slice C (a ++ b).length capc]) (fun v' L' => ∃ mv, v' = .tuple #[mv, .bool (gK (a ++ b))] ∧ SlS mv (if gK (a ++ b) then uO (a ++ b) else []) L') (fun w hO => (mX C capc (a ++ b) w (Sl.reads hcv rfl hO (fun x hx => hx)) (by omega) hlab).mono fun e w' ⟨v', ob', h1, h2, h3⟩ => ⟨_, ob', h1, ⟨v', rfl, h2⟩, Own.take (Own.joinN hO h3) (fun x hx => List.mem_append_left _ hx) h3.apart⟩) (fun tv om htv => ?_)
      obtain ⟨mv, rfl, hmv⟩ := htv
      refine Zv (.tuple #[mv, .bool (gK (a ++ b))]) (Zv (mv) (Zv (.bool (gK (a ++ b))) (Zv (mv) (Zv (.bool (gK (a ++ b))) (ZR (Zv (mv) (Zv (mv) (zU ?_))))))))
      exact zF (zG (ZF (mv) Tryz.results83 (fun w hO => ⟨mv, om, rfl, by rw [if_pos (by simp)]; unfold orL; have hall : gK (a ++ b) = true := allMay_mem.2 (dY (by assumption) (by assumption)); rw [hall, if_pos rfl] at hmv; exact hmv, hO⟩)))
    | false =>
      refine Zv Z4 (Zv Z4 (ZY (ZO (Zv (.slice none 0 0) (ZN (zG (zD ?_)))))))
      exact ZF (.slice none 0 0) Tryz.results83 (fun w hO => ⟨_, [], rfl, by rw [if_neg (by simp)]; exact Sl.nil _ _, by simpa using hO⟩)
  | false =>
    refine Zv Z4 (Zv Z4 (Zk (Zk (Zk (Zv Z4 (ZY (ZO (Zv (.slice none 0 0) ?_))))))))
    exact ZN (zG (zD (ZF (.slice none 0 0) Tryz.results83 (fun w hO => ⟨_, [], rfl, by rw [if_neg (by simp)]; exact Sl.nil _ _, by simpa using hO⟩))))
end
end Go.Proofs.YtkljdpiaghepfaaGreatDoor
