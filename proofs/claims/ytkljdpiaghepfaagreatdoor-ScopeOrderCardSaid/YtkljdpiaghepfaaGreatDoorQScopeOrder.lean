/-
  ScopeOrder: for every input the call returns true, and each argument reads afterwards as it read before. Conditions: none but the row's own, that the listed package-level variables read as the program's text lays them.
-/
import Derived.Test.YtkljdpiaghepfaaGreatDoorCards
import Derived.Test.YtkljdpiaghepfaaGreatDoorTie
import Derived.Test.YtkljdpiaghepfaaGreatDoorMB7

section
/-
  ScopeOrder: for any list of numbers the law returns true, and nothing that was there is changed. Condition: the library's table of powers of ten reads as it is laid.
-/
namespace Go.Proofs.YtkljdpiaghepfaaGreatDoor
open Go.RowKit
set_option maxRecDepth 100000
set_option linter.unusedVariables false
set_option linter.unusedSimpArgs false
set_option maxHeartbeats 2000000

theorem rev_take {α : Type} {l : List α} {e k : Nat} {c : α} (hk : k < l.length) (he : k + e + 1 = l.length) (hc : l[k] = c) : l.reverse.take (e + 1) = l.reverse.take e ++ [c] := by
  have hr : e < l.reverse.length := by rw [List.length_reverse]; omega
  rw [List.take_succ_eq_append_getElem hr]
  have : l.reverse[e] = c := by
    rw [List.getElem_reverse, ← hc]
    simp only [show l.length - 1 - e = k from by omega]
  rw [this]
theorem rev_alts {r : List (List Co)} {a i : Nat} {l : List Co} (hi : i < r.length) (ha : i + a + 1 = r.length) (hc : r[i] = l) : (r.map List.reverse).reverse.take (a + 1) = (r.map List.reverse).reverse.take a ++ [l.reverse] :=
  rev_take (l := r.map List.reverse) (k := i) (by rw [List.length_map]; exact hi) (by rw [List.length_map]; exact ha) (by rw [List.getElem_map, hc])
theorem own_rg2 {M : List Nat} {W w : World} {x g r : Blk} {A B C D : List Blk} (h : Own M W w (x :: g :: r :: (A ++ (B ++ (C ++ D))))) : Own M W w (g :: r :: (B ++ ((A ++ C) ++ D))) := by
  rw [List.append_assoc A C D]; exact own_rg h
set_option maxHeartbeats 1000000 in
theorem scopeOrder.law (W : World) (x : Value) (xl : List Int) (hxl0 : ReadsI W W.heap.size x xl) (lxl : xl.length ≤ maxLen) (ht : HasLib W) :
    Calls Tryz.prog 8 #[x] W fun e w' => e = .returned (.bool true) ∧ Below W.heap.size W w' := by
  obtain ⟨r, er⟩ : ∃ q, q = genRg xl 0 := ⟨_, rfl⟩
  have mr : rgMay r = true := er ▸ genRg_may xl 0
  obtain ⟨t, et⟩ : ∃ q, q = (r.map List.reverse).reverse := ⟨_, rfl⟩
  have mt : rgMay t = true := et ▸ rgMay_rev mr
  have hst : xB r = xB t := by rw [et, rgSet_rev mr]
  refine zQ (n := 58) Tryz.func8 rfl (by kernel_rfl) (by kernel_rfl) (ZO (Zv (.bool false) (ZR (Zv (x) (yH (k := 25) (args := #[x, .int .i64 0]) (fun v' L' => ∃ ob', L' = ob' ++ ([]) ∧ RgO v' r ob') (by kernel_rfl) (fun _ => by kernel_rfl) (fun w hO => (genRg_any x xl 0 w ((hxl0.below hO.below).more hO.below.size) (by unfold maxLen at lxl; omega) (by omega)).mono fun e w' ⟨v', ob', k1, k2, k3⟩ => ⟨v', _, k1, ⟨ob', rfl, by rw [← er] at k2; exact k2⟩, Own.joinN hO k3⟩) (fun sv1 L1 hv1 => ?_))))))
  obtain ⟨o1, rfl, hr1⟩ := hv1
  obtain ⟨xs1, u1, p1, q1, rfl, rfl, hx1, ha1⟩ := hr1
  obtain ⟨A1, c1, rfl⟩ := Sl.form ha1.top
  refine k8 (L' := p1 ++ q1) (List.append_nil _) ?_
  have hxl : xs1.length = r.length := by rw [← hx1, x8]
  have hx0 : 0 < xs1.length := by rw [hxl]; have := (fewR.facts (rgMay.facts mr).1).1; omega
  have hx9 : xs1.length ≤ 6 := by rw [hxl]; have := (fewR.facts (rgMay.facts mr).1).1; omega
  obtain ⟨g1, cur1, hA1, _, _, _, _, _⟩ := Sl.block ha1.top hx0
  have htl : t.length = xs1.length := by rw [et, List.length_reverse, List.length_map, hxl]
  refine Za (.agg #[.slice none 0 0]) (fun b1 => Zs 0 ⟨b1, #[.slice none 0 0], 25⟩ (off := 0) (.agg #[.slice A1 xs1.length c1]) (ZR (Za (.agg #[.slice none 0 0]) (fun b2 => ZN (z6 (z6 (z7 ?_)))))))
  refine Zv (.pointer (some ⟨b1, 0, none⟩)) (Zl 1 ⟨b1, #[.slice A1 xs1.length c1], 25⟩ (off := 0) (.slice A1 xs1.length c1) (Zv (.int .i64 (xs1.length : Int)) (Zu (k := .i64) (((xs1.length : Int) : Int) - 1) (IntWalk.i64_in _ (by omega)) (Zv (.int .i64 (((xs1.length : Int) : Int) - 1)) (ZN (zI (gC (L' := ⟨b2, #[.slice none 0 0], 25⟩ :: ⟨b1, #[.slice A1 xs1.length c1], 25⟩ :: ([] ++ ([] ++ (p1 ++ q1)))) rfl (yT (fun L f m => ∃ (a : Nat) (z : Int) (U : Option Addr) (n : Nat) (cu : Nat) (xs : List Al) (oX : List Blk) (oY : List Blk) (j : Nat → Value), (n = xs.length ∧ z = (xs1.length : Int) - 1 - a ∧ a ≤ xs1.length ∧ RgA (.slice U n cu) xs oX oY ∧ yM xs = t.take a) ∧ L = ⟨b2, #[.slice U n cu], 25⟩ :: ⟨b1, #[.slice A1 xs1.length c1], 25⟩ :: (oX ++ (oY ++ (p1 ++ q1))) ∧ f = kE j [(3, .pointer (some ⟨b1, 0, none⟩)), (4, .pointer (some ⟨b2, 0, none⟩)), (5, .int .i64 z)] ∧ m = xs1.length - a) (xs1.length - 0) ⟨0, (((xs1.length : Int) : Int) - 1), none, 0, 0, [], [], [], _, ⟨rfl, by omega, Nat.zero_le _, RgA.nil, rfl⟩, rfl, ZU, rfl⟩ ?_))))))))
  rintro L f m ⟨a, z, U, n, cu, xs, oX, oY, j, hrel, rfl, rfl, rfl⟩
  obtain ⟨hq, hz, hal, ha, hxt⟩ := hrel; subst hq
  refine z6 (ZO (Zv (.int .i64 z) ?_))
  by_cases h1 : (0 : Int) ≤ z
  · obtain ⟨i, hiz⟩ : ∃ i : Nat, z = (i : Int) := ⟨z.toNat, by omega⟩
    have hi : i < xs1.length := by omega
    obtain ⟨y, hy⟩ : ∃ y, xs1[i] = y := ⟨_, rfl⟩
    have hym : y ∈ xs1 := hy ▸ List.getElem_mem hi
    have hyr : r[i]'(by omega) = y.l := by have q0 := j7 hi hy; exact (List.getElem_of_eq hx1.symm _).trans q0
    have hya : y.l ∈ r := hyr ▸ List.getElem_mem _
    have hyn := (fewA.facts ((fewR.facts (rgMay.facts mr).1).2 y.l hya)).1
    obtain ⟨o9, _, hsl9⟩ := ha1.each y hym
    obtain ⟨g2, cur2, hA2, _, _, _, _, _⟩ := Sl.block hsl9 (by omega)
    refine Zd (p := (0 : Int) ≤ z) true (decide_eq_true (h1)) (ZY (ZB (z6 (zI (ZO (Zv (.slice none 0 0) (zN ?_)))))))
    refine zC (z6 (ZO (Zv (.pointer (some ⟨b1, 0, none⟩)) (Zl 1 ⟨b1, #[.slice A1 xs1.length c1], 25⟩ (off := 0) (.slice A1 xs1.length c1) (Zv (.int .i64 z) (zT (.pointer (some ⟨g1, 0 + i * 1, none⟩)) (by kernel_rfl) (ZA (b := g1) (off := 0) (c := c1) (n := xs1.length) (k := .i64) (j := z) (e := 47) (sz := 1) hA1) (Zo (.slice y.A y.l.length y.cap) (a := ⟨g1, 0 + i * 1, none⟩) (fun w hO => Reads.load g0 (Sl.reads ha1.top rfl hO (fun x hx => by simp [hx])) hA1 i 0 hi (by omega) _ (by rw [hy]; kernel_rfl)) (Zv (.int .i64 (y.l.length : Int)) (Zu (k := .i64) (((y.l.length : Int) : Int) - 1) (IntWalk.i64_in _ (by omega)) (Zv (.int .i64 (((y.l.length : Int) : Int) - 1)) ?_))))))))))
    refine ZN (zI (gC (L' := ⟨b2, #[.slice U xs.length cu], 25⟩ :: ⟨b1, #[.slice A1 xs1.length c1], 25⟩ :: ([] ++ (oX ++ (oY ++ (p1 ++ q1))))) rfl (yT (fun L f m => ∃ (e : Nat) (z2 : Int) (Va : Option Addr) (ma : Nat) (cv : Nat) (oa : List Blk) (j : Nat → Value), (z2 = (y.l.length : Int) - 1 - e ∧ e ≤ y.l.length ∧ SlCo (.slice Va ma cv) (y.l.reverse.take e) oa) ∧ L = ⟨b2, #[.slice U xs.length cu], 25⟩ :: ⟨b1, #[.slice A1 xs1.length c1], 25⟩ :: (oa ++ (oX ++ (oY ++ (p1 ++ q1)))) ∧ f = kE j [(3, .pointer (some ⟨b1, 0, none⟩)), (4, .pointer (some ⟨b2, 0, none⟩)), (5, .int .i64 z), (6, .slice Va ma cv), (7, .int .i64 z2)] ∧ m = y.l.length - e) (y.l.length - 0) ⟨0, (((y.l.length : Int) : Int) - 1), none, 0, 0, [], _, ⟨by omega, Nat.zero_le _, Sl.nil _ _⟩, rfl, ZU, rfl⟩ ?_)))
    rintro L f m ⟨e, z2, Va, ma, cv, oa, j, hrel, rfl, rfl, rfl⟩
    obtain ⟨hz2, hel, hva⟩ := hrel
    refine z6 (ZO (Zv (.int .i64 z2) ?_))
    by_cases h2 : (0 : Int) ≤ z2
    · obtain ⟨k, hkz⟩ : ∃ k : Nat, z2 = (k : Int) := ⟨z2.toNat, by omega⟩
      have hk : k < y.l.length := by omega
      obtain ⟨c, hc⟩ : ∃ c, y.l[k] = c := ⟨_, rfl⟩
      refine Zd (p := (0 : Int) ≤ z2) true (decide_eq_true (h2)) (ZY (ZB (z6 (zI (z7 (Zv (.slice Va ma cv) (Zv (.pointer (some ⟨b1, 0, none⟩)) (Zl 1 ⟨b1, #[.slice A1 xs1.length c1], 25⟩ (off := 0) (.slice A1 xs1.length c1) ?_))))))))
      refine Zv (.int .i64 z) (zT (.pointer (some ⟨g1, 0 + i * 1, none⟩)) (by kernel_rfl) (ZA (b := g1) (off := 0) (c := c1) (n := xs1.length) (k := .i64) (j := z) (e := 47) (sz := 1) hA1) (Zo (.slice y.A y.l.length y.cap) (a := ⟨g1, 0 + i * 1, none⟩) (fun w hO => Reads.load g0 (Sl.reads ha1.top rfl hO (fun x hx => by simp [hx])) hA1 i 0 hi (by omega) _ (by rw [hy]; kernel_rfl)) (Zv (.int .i64 z2) (zT (.pointer (some ⟨g2, 0 + k * 7, none⟩)) (by kernel_rfl) (ZA (b := g2) (off := 0) (c := y.cap) (n := y.l.length) (k := .i64) (j := z2) (e := 51) (sz := 7) hA2) (Zo (coV c) (a := ⟨g2, 0 + k * 7, none⟩) (fun w hO => Reads.load jW ((RgA.inn ha1 rfl hO (fun x hx => by simp [hx]) (fun x hx => by simp [hx]) (by rw [hx1]; exact jE (rgMay.facts mr).1)).each y hym) hA2 k 0 hk (by omega) _ (by rw [hc]; kernel_rfl)) (vC 51 #[.int .i64 c.op, .int .i64 c.parts, .int .i64 c.v.maj, .int .i64 c.v.min, .int .i64 c.v.pat, .string (mkS c.v.pre), .string (mkS c.v.build)] (by kernel_rfl) rfl (fun _ => by kernel_rfl) (fun b3 => ?_)))))))
      obtain ⟨i1, z1, e1, e2, e3, e4, e5⟩ := co_info
      have hlk : (y.l.reverse.take e).length ≤ 6 := by rw [List.length_take, List.length_reverse]; omega
      refine k8 (L' := [⟨b3, #[.int .i64 c.op, .int .i64 c.parts, .int .i64 c.v.maj, .int .i64 c.v.min, .int .i64 c.v.pat, .string (mkS c.v.pre), .string (mkS c.v.build)], 51⟩, ⟨b2, #[.slice U xs.length cu], 25⟩, ⟨b1, #[.slice A1 xs1.length c1], 25⟩] ++ oa ++ (oX ++ (oY ++ (p1 ++ q1)))) (by simp) (g7 (sz := 7) (by kernel_rfl) rfl Tryz.underlying47 e1 e2 e3 e4 (by kernel_rfl) hva (a := ⟨b3, 0, none⟩) (m := 1) (c := 1) (news := coC c) (by kernel_rfl) rfl (fun w hO j u hj => ?_) (co_cells _) (by unfold maxLen; omega) (by rw [e5]; omega) (fun va2 oa2 hva0 => ?_))
      · rw [xK, cell_of_row w b3 (0 + j) (coC c).toArray 51 _ (hO.held ⟨b3, (coC c).toArray, 51⟩ (List.mem_append_left _ (List.mem_append_left _ (List.mem_cons_self ..))))]; simpa using hj
      have hrt := rev_take (e := e) hk (by omega) hc
      have hva2 : SlCo va2 (y.l.reverse.take (e + 1)) oa2 := hva0.to (by rw [hrt, List.length_append]; rfl) (by rw [hrt, List.flatMap_append]; simp)
      obtain ⟨Va2, cv2, rfl⟩ := Sl.form hva0
      exact Zv (.slice Va2 ((y.l.reverse.take e).length + 1) cv2) (zN (zR (zC (z7 (Zv (.int .i64 z2) (Zu (k := .i64) ((z2 : Int) - 1) (IntWalk.i64_in _ (by omega)) (Zv (.int .i64 ((z2 : Int) - 1)) (zN (xS (fun w hO => own_in hO) (zU (m' := y.l.length - (e + 1)) (by omega) ⟨e + 1, ((z2 : Int) - 1), Va2, (y.l.reverse.take e).length + 1, cv2, oa2, _, ⟨by omega, by omega, hva2⟩, rfl, ZU, rfl⟩))))))))))
    have hvb : SlCo (.slice Va ma cv) y.l.reverse oa := by have q0 := hva; rwa [List.take_of_length_le (by rw [List.length_reverse]; omega)] at q0
    obtain ⟨Aa, ca, hVa⟩ := Sl.form hvb
    have hnx : xs.length ≤ 6 := by have q0 := congrArg List.length hxt; rw [x8, List.length_take] at q0; omega
    refine Zd (p := (0 : Int) ≤ z2) false (decide_eq_false (h2)) (ZX (y5 (zB (zM (zH (zC (z7 (Zv (.pointer (some ⟨b2, 0, none⟩)) (Zl 0 ⟨b2, #[.slice U xs.length cu], 25⟩ (off := 0) (.slice U xs.length cu) ?_)))))))))
    refine Zv (.slice Va ma cv) (vC 47 #[.slice Va ma cv] (by kernel_rfl) rfl (fun _ => by kernel_rfl) (fun b3 => ?_))
    obtain ⟨i1, z1, e1, e2, e3, e4, e5⟩ := al_info
    refine k8 (L' := ([⟨b3, #[.slice Va ma cv], 47⟩, ⟨b2, #[.slice U xs.length cu], 25⟩, ⟨b1, #[.slice A1 xs1.length c1], 25⟩] ++ oa) ++ oX ++ (oY ++ (p1 ++ q1))) (by simp) (g7 (sz := 1) (by kernel_rfl) rfl Tryz.underlying23 e1 e2 e3 e4 (by kernel_rfl) ha.top (a := ⟨b3, 0, none⟩) (m := 1) (c := 1) (news := [.slice Va ma cv]) (by kernel_rfl) rfl (fun w hO j u hj => ?_) (fun u hu => by rw [List.mem_singleton.1 hu, hVa]; rfl) (by unfold maxLen; omega) (by rw [e5]; omega) (fun u2 o3 hu0 => ?_))
    · rw [xK, cell_of_row w b3 (0 + j) #[.slice Va ma cv] 47 _ (hO.held ⟨b3, #[.slice Va ma cv], 47⟩ (List.mem_append_left _ (List.mem_append_left _ (List.mem_append_left _ (List.mem_cons_self ..)))))]; simpa using hj
    obtain ⟨U2, cu2, rfl⟩ := Sl.form hu0
    have hrg2 := ha.add (show Sl 47 1 (.slice U2 (xs.length + 1) cu2) (xs.length + 1) (xs.flatMap alC ++ alC ⟨Aa, y.l.reverse, ca⟩) o3 from by rw [show alC ⟨Aa, y.l.reverse, ca⟩ = [.slice Va ma cv] from by rw [hVa]; rfl]; exact hu0) (hVa ▸ hvb)
    refine k8 (L' := ⟨b3, #[.slice Va ma cv], 47⟩ :: ⟨b2, #[.slice U xs.length cu], 25⟩ :: ⟨b1, #[.slice A1 xs1.length c1], 25⟩ :: (oa ++ (o3 ++ (oY ++ (p1 ++ q1))))) (by simp) (Zv (.pointer (some ⟨b2, 0, none⟩)) (Zs 1 ⟨b2, #[.slice U xs.length cu], 25⟩ (off := 0) (.slice U2 (xs.length + 1) cu2) (zN (zR (zC (z7 (Zv (.int .i64 z) (Zu (k := .i64) ((z : Int) - 1) (IntWalk.i64_in _ (by omega)) (Zv (.int .i64 ((z : Int) - 1)) (zN (xS (fun w hO => own_rg2 hO) ?_)))))))))))
    exact zU (m' := xs1.length - (a + 1)) (by omega) ⟨a + 1, ((z : Int) - 1), U2, xs.length + 1, cu2, xs ++ [⟨Aa, y.l.reverse, ca⟩], o3, (oa ++ oY), _, ⟨by simp, by omega, by omega, hrg2, by rw [show yM (xs ++ [⟨Aa, y.l.reverse, ca⟩]) = yM xs ++ [y.l.reverse] from List.map_append .., hxt, et, rev_alts (by omega) (by omega) hyr]⟩, rfl, ZU, rfl⟩
  have hxs : yM xs = t := by rw [hxt, List.take_of_length_le (by omega)]
  refine Zd (p := (0 : Int) ≤ z) false (decide_eq_false (h1)) (ZX (y5 (zB (zM (zH (zC (z6 (uM (by kernel_rfl) (y8 0 (by kernel_rfl) ?_)))))))))
  refine kD [] _ (k := 11) (args := #[]) (.bool true) rfl (by kernel_rfl) (fun _ => by kernel_rfl) (fun w hO => awake7_any w (ht.on hO.below)) (ZT 1 [] _ (.bool true) (zK zS) rfl (ZL 2 [] _ 0 ⟨b2, #[.slice U xs.length cu], 25⟩ (off := 0) (.agg #[.slice U xs.length cu]) (zK zS) rfl rfl (y8 3 (by kernel_rfl) (kD [] _ (k := 19) (args := #[.agg #[.slice U xs.length cu]]) (.bool true) rfl (by kernel_rfl) (fun _ => by kernel_rfl) (fun w hO => ret_b ((show rgMay (yM xs) = true from by rw [hxs]; exact mt)) (gMay_any U cu xs w (RgA.inn ha rfl hO (fun x hx => by simp [hx]) (fun x hx => by simp [hx]) (by rw [hxs]; exact jE (rgMay.facts mt).1)) (ht.on hO.below))) (ZT 4 [] _ (.bool true) (zK zS) rfl (ZT 5 [] _ (.bool true) (zK zS) rfl (ZL 6 [] _ 1 ⟨b1, #[.slice A1 xs1.length c1], 25⟩ (off := 0) (.agg #[.slice A1 xs1.length c1]) (zK zS) rfl rfl (ZL 8 [] _ 0 ⟨b2, #[.slice U xs.length cu], 25⟩ (off := 0) (.agg #[.slice U xs.length cu]) (zK zS) rfl rfl (y8 7 (by kernel_rfl) (jD _ (k := 23) (args := #[.agg #[.slice A1 xs1.length c1]]) (fun v' L' => ∃ ob', L' = ob' ++ ([] ++ (⟨b2, #[.slice U xs.length cu], 25⟩ :: (⟨b1, #[.slice A1 xs1.length c1], 25⟩ :: ((oX ++ (oY ++ (p1 ++ q1))))))) ∧ SetO v' (xB r) ob') rfl (by kernel_rfl) (fun _ => by kernel_rfl) (fun w hO => (gSet_any A1 c1 xs1 w (RgA.inn ha1 rfl hO (fun x hx => by simp [hx]) (fun x hx => by simp [hx]) (by rw [hx1]; exact jE (rgMay.facts mr).1)) (ht.on hO.below)).mono fun e w' ⟨v', ob', k1, k2, k3⟩ => ⟨v', _, k1, ⟨ob', rfl, by rw [hx1] at k2; exact k2⟩, Own.joinN hO k3⟩) (fun v' L' ⟨ob', e, _⟩ w hO => by subst e; exact Own.sub [] (Own.sub ob' hO)) (fun v2 L2 hv2 => ?_)))))))))))
  obtain ⟨o2, rfl, hr2⟩ := hv2
  obtain ⟨V2, U2, c2, d2, rfl⟩ := hr2.form
  refine dW (L' := (o2 ++ ([] : List Blk)) ++ (⟨b2, #[.slice U xs.length cu], 25⟩ :: (⟨b1, #[.slice A1 xs1.length c1], 25⟩ :: ((oX ++ (oY ++ (p1 ++ q1))))))) (List.append_assoc _ _ _).symm (y8 9 (by kernel_rfl) (jD _ (k := 23) (args := #[.agg #[.slice U xs.length cu]]) (fun v' L' => ∃ ob', L' = ob' ++ ((o2 ++ ([] : List Blk)) ++ (⟨b2, #[.slice U xs.length cu], 25⟩ :: (⟨b1, #[.slice A1 xs1.length c1], 25⟩ :: ((oX ++ (oY ++ (p1 ++ q1))))))) ∧ SetO v' (xB t) ob') rfl (by kernel_rfl) (fun _ => by kernel_rfl) (fun w hO => (gSet_any U cu xs w (RgA.inn ha rfl hO (fun x hx => by simp [hx]) (fun x hx => by simp [hx]) (by rw [hxs]; exact jE (rgMay.facts mt).1)) (ht.on hO.below)).mono fun e w' ⟨v', ob', k1, k2, k3⟩ => ⟨v', _, k1, ⟨ob', rfl, by rw [hxs] at k2; exact k2⟩, Own.joinN hO k3⟩) (fun v' L' ⟨ob', e, _⟩ w hO => by subst e; exact Own.sub (o2 ++ ([] : List Blk)) (Own.sub ob' hO)) (fun v3 L2 hv2 => ?_)))
  obtain ⟨o3, rfl, hr3⟩ := hv2
  obtain ⟨V3, U3, c3, d3, rfl⟩ := hr3.form
  exact dW (L' := (o3 ++ (o2 ++ ([] : List Blk))) ++ (⟨b2, #[.slice U xs.length cu], 25⟩ :: (⟨b1, #[.slice A1 xs1.length c1], 25⟩ :: ((oX ++ (oY ++ (p1 ++ q1))))))) (List.append_assoc _ _ _).symm (y8 10 (by kernel_rfl) (kD (o3 ++ (o2 ++ ([] : List Blk))) _ (k := 17) (args := #[.agg #[.slice V2 ((xB r).rel.length) c2, .slice U2 ((xB r).pre.length) d2], .agg #[.slice V3 ((xB t).rel.length) c3, .slice U3 ((xB t).pre.length) d3]]) (.bool true) rfl (by kernel_rfl) (fun _ => by kernel_rfl) (fun w hO => ret_b ((same_g _ _).trans (decide_eq_true (hst))) (rsetSame_any V2 U2 V3 U3 c2 d2 c3 d3 (xB r) (xB t) w (SetO.inn hr2 hO (fun x hx => by simp [hx]) ((tA r)) (by decide)) (SetO.inn hr3 hO (fun x hx => by simp [hx]) ((tA t)) (by decide)))) (ZT 11 (o3 ++ (o2 ++ ([] : List Blk))) _ (.bool true) (zK zS) rfl (ZT 12 (o3 ++ (o2 ++ ([] : List Blk))) _ (.bool true) (zK zS) rfl (h_drop (o3 ++ (o2 ++ ([] : List Blk))) (xM (by kernel_rfl) (zC (zA (ZF (.bool true) Tryz.results8 (fun w hO => ⟨rfl, hO.below⟩))))))))))
end Go.Proofs.YtkljdpiaghepfaaGreatDoor
end

section
/-
  ScopeOrder: for every input the call returns true, and each argument reads afterwards as it read before. Conditions: none but the row's own, that the listed package-level variables read as the program's text lays them.
-/
namespace Go.Proofs.YtkljdpiaghepfaaGreatDoor.scopeOrder
open Go.ChangeShapes Go.WideShapes Go.ChangeAt Go.RowKit
open Go.ChangeMaps (open_string shut_string)
set_option linter.unusedVariables false

set_option maxRecDepth 100000 in
theorem contract (H : Type) (enc : TypeId × Value → H) (W : World) (base : Nat) (args : Array Value) (ds gs : List (DataW H)) (before : List MemPlace)
    (hval : ∀ (j : Nat) t v, Tryz.f8.params[j]? = some t → args[j]? = some v → Value.okWide Tryz.prog W .any base t v)
    (hW : DataW.Whole enc Tryz.prog Tryz.f8.params.toList Rows.scopeOrderSpec.vars false W args.toList ds gs before) (hL : laidMetH Tryz.prog Rows.scopeOrderRow.laid W) (hS : W.ShapedOpen Tryz.prog) :
    Calls Tryz.prog 8 args W fun e W' => ∃ v, e = .returned v ∧ Rows.scopeOrderSpec.post enc Tryz.prog Tryz.f8 false true false false W args v W' := by
  have ht : HasLib W := hasLib_of (hasTab_of hL (by rfl)) hS
  have hW' := hW
  obtain ⟨p, q, hA0, hV, rfl, hfz, hnd⟩ := hW
  have hA : DataW.TrodAll enc Tryz.prog W 0 (fun _ => true) true Tryz.f8.params.toList args.toList ds p := hA0
  rw [Tryz.params8] at hA hval
  obtain ⟨v0, vs0, d0, ds0, p0, q0, hargs, rfl, rfl, h0, r0⟩ := trodAll_cons hA
  obtain ⟨rfl, rfl, rfl⟩ := trodAll_nil r0
  obtain rfl : args = #[v0] := by cases args; simp_all
  obtain ⟨rfl, rfl⟩ := trodVars_none hV
  clear hA0
  obtain ⟨l, l_reads, l_len⟩ := open_nums (hval 0 40 v0 rfl rfl) h0
  refine (scopeOrder.law W v0 l l_reads l_len ht).mono fun e W' ⟨he, hb⟩ => ?_
  subst he
  exact ⟨_, rfl, law_end laidOut (fun t ht => by rw [Tryz.params8] at ht; simp at ht; subst ht; exact ⟨by kernel_rfl, of_decide_eq_true (by kernel_rfl)⟩) rfl rfl Tryz.underlying4 hW' (by rfl) hb⟩

noncomputable def jN (os : Os) : World :=
  { World.holding Tryz.prog os ⟨#[], #[], []⟩ with heap := n9 (n9 (n9 (n9 (n9 ((World.holding Tryz.prog os ⟨#[], #[], []⟩).heap) 4 Rows.laid_math_bits_deBruijn32tab) 5 Rows.laid_math_bits_deBruijn64tab) 3 Rows.laid_internal_strconv_uint64pow10) 2 Rows.laid_unicode_utf8_acceptRanges) 1 Rows.laid_unicode_utf8_first }
theorem laid_met (os : Os) : laidMet Tryz.prog Rows.scopeOrderRow.laid ((jN os).forCall (fun _ _ => 0) ⟨#[], #[.slice none 0 0], []⟩).memory :=
  laidMet_of_run' 8 (by kernel_rfl) (by kernel_rfl)
theorem reads (os : Os) {H : Type} (enc : TypeId × Value → H) : ∃ places, DataW.whole enc Tryz.prog ((jN os).forCall (fun _ _ => 0) ⟨#[], #[.slice none 0 0], []⟩).memory Tryz.f8.params.toList Rows.scopeOrderSpec.vars false (#[.slice none 0 0] : Array Value).toList 8 = some ([.nil], [], places) :=
  ⟨[], by kernel_rfl⟩

set_option maxRecDepth 100000 in
theorem lifted (os : Os) (started : os.Started) (H : Type) (enc : TypeId × Value → H) (F : Stop.Interp) :
    ReturnsInHanded {} Tryz.checked os 8 .any ((OpenSpec.ofChange Rows.scopeOrderSpec).preRow enc Tryz.prog Tryz.f8 Rows.scopeOrderRow.domain false Rows.scopeOrderRow.laid) (((OpenSpec.ofChange Rows.scopeOrderSpec).at F).post enc Tryz.prog Tryz.f8 false true false false) := by
  obtain ⟨places, hx⟩ := reads os enc
  refine returnsInHanded_of_row (C := Tryz.checked) (s := OpenSpec.ofChange Rows.scopeOrderSpec) own started (by kernel_rfl) Tryz.func8
    (witness_row_at (enc := enc) (C := Tryz.checked) false (jN os) #[.slice none 0 0] rfl (by kernel_rfl) (by kernel_rfl) (by kernel_rfl)
      (OpenSpec.preRow_of_cond 8 hx (by kernel_rfl) (fun k hk => by cases hk) (by kernel_rfl) (laid_met os))) ?_
  intro W base args ds gs before hval hW _ _ _ hL hS _
  exact contract H enc W base args ds gs before hval hW hL hS

theorem said : Rows.ScopeOrderSaid :=
  OpenClaim.holds_of_cond 8 Tryz.f8 rfl rfl rfl rfl rfl rfl rfl ⟨rfl, rfl, rfl, rfl, rfl⟩ rfl rfl rfl rfl rfl (by kernel_rfl) Tryz.func8 (by kernel_rfl)
    (of_decide_eq_true (by kernel_rfl)) (by unfold Func.isWrapper; first | (rw [if_pos (by decide +kernel)]; kernel_rfl) | (rw [if_neg (by decide +kernel)]; exact ⟨rfl, rfl⟩))
    (fun os started H enc _ F => by rw [OpenClaim.pre_eq_preRow]; exact lifted os started H enc F)

theorem n8 (f : FuncId) (fn : Func) (hf : Tryz.pinned.checked.prog.funcNamed "linchpin/linchpinlaw7.ScopeOrder" = some f) (hfn : Tryz.pinned.checked.prog.funcs[f]? = some fn) :
    false = Tryz.pinned.checked.prog.looks [] ∧ ∀ (j : Nat) t, fn.params[j]? = some t → Tryz.pinned.checked.prog.wantsStandIn t = false := by
  obtain rfl : f = 8 := Option.some.inj ((show Tryz.prog.funcNamed "linchpin/linchpinlaw7.ScopeOrder" = some 8 by kernel_rfl).symm.trans hf) |>.symm
  obtain rfl : fn = Tryz.f8 := (Option.some.inj (Tryz.func8.symm.trans hfn)).symm
  refine ⟨by kernel_rfl, fun j t ht => ?_⟩
  rw [Tryz.params8] at ht
  have hm := Array.mem_of_getElem? ht
  simp at hm
  subst hm
  exact (show Tryz.prog.wantsStandIn 40 = false by kernel_rfl)

theorem card : Rows.ScopeOrderCardSaid :=
  Claim7.holds_tied_plain_at .later [] _ _ _ _ said (fun _ h => by cases h) (by kernel_rfl) (fun _ h => by cases h) scopeOrder_row_tie rfl ⟨rfl, rfl⟩ (by kernel_rfl) rfl n8 (by kernel_rfl)

#print axioms card
end Go.Proofs.YtkljdpiaghepfaaGreatDoor.scopeOrder
end
