/-
  ScopePrints: for every input the call returns true, and each argument reads afterwards as it read before. Conditions: none but the row's own, that the listed package-level variables read as the program's text lays them.
-/
import Derived.Test.YtkljdpiaghepfaaGreatDoorCards
import Derived.Test.YtkljdpiaghepfaaGreatDoorTie
import Derived.Test.YtkljdpiaghepfaaGreatDoorMF9

section
/-
  linchpinlaw7's few; ScopePrints: for any range the law returns true, and nothing that was there is changed. Condition: the library's table of powers of ten reads as it is laid.
-/
namespace Go.Proofs.YtkljdpiaghepfaaGreatDoor
open Go.RowKit
set_option maxRecDepth 100000
set_option linter.unusedVariables false
set_option linter.unusedSimpArgs false
set_option maxHeartbeats 2000000

def fewC (c : Co) : Bool := decide (c.v.pre.length ≤ 60) && decide (c.v.build.length ≤ 60)
def fewX (x : Al) : Bool := decide (x.l.length ≤ 8) && x.l.all fewC
def few7 (xs : List Al) : Bool := decide (xs.length ≤ 9) && xs.all fewX
theorem fewX_yes {x : Al} (h : x.l.length ≤ 8) (h2 : ∀ c ∈ x.l, fewC c = true) : fewX x = true := by unfold fewX; rw [decide_eq_true h, List.all_eq_true.2 h2]; rfl
theorem few7_yes {xs : List Al} (h : xs.length ≤ 9) (h2 : ∀ x ∈ xs, fewX x = true) : few7 xs = true := by unfold few7; rw [decide_eq_true h, List.all_eq_true.2 h2]; rfl
theorem few7_long {xs : List Al} (h : ¬ xs.length ≤ 9) : few7 xs = false := by unfold few7; rw [decide_eq_false h]; rfl
theorem few7_one {xs : List Al} {x : Al} (hm : x ∈ xs) (h : fewX x = false) : few7 xs = false := by
  unfold few7
  cases hq : xs.all fewX with
  | false => simp
  | true => rw [List.all_eq_true.1 hq x hm] at h; cases h
theorem fewX_long {x : Al} (h : ¬ x.l.length ≤ 8) : fewX x = false := by unfold fewX; rw [decide_eq_false h]; rfl
theorem fewX_one {x : Al} {c : Co} (hm : c ∈ x.l) (h : fewC c = false) : fewX x = false := by
  unfold fewX
  cases hq : x.l.all fewC with
  | false => simp
  | true => rw [List.all_eq_true.1 hq c hm] at h; cases h
theorem few_in {xs : List Al} {W : World} {B : Nat} {A : Option Addr} (h : few7 xs = true) (hv : Reads alC W B A xs) (he : ∀ x ∈ xs, Reads coC W B x.A x.l) : RgIn W B A xs := by
  unfold few7 at h
  rw [Bool.and_eq_true, decide_eq_true_eq, List.all_eq_true] at h
  have hx : ∀ x ∈ xs, x.l.length ≤ 8 ∧ ∀ c ∈ x.l, c.v.pre.length ≤ 60 ∧ c.v.build.length ≤ 60 := fun x hx => by
    have q := h.2 x hx
    unfold fewX at q
    rw [Bool.and_eq_true, decide_eq_true_eq, List.all_eq_true] at q
    refine ⟨q.1, fun c hc => ?_⟩
    have q2 := q.2 c hc
    unfold fewC at q2
    rwa [Bool.and_eq_true, decide_eq_true_eq, decide_eq_true_eq] at q2
  exact ⟨hv, he, by omega, fun x h1 => by have := (hx x h1).1; omega, fun x h1 c h2 => ⟨by have := ((hx x h1).2 c h2).1; omega, by have := ((hx x h1).2 c h2).2; omega⟩⟩
theorem few7_any (A : Option Addr) (cap : Nat) (xs : List Al) (W : World) (hv : Reads alC W W.heap.size A xs) (he : ∀ x ∈ xs, Reads coC W W.heap.size x.A x.l) : Calls Tryz.prog 18 #[.agg #[.slice A xs.length cap]] W fun e w' => e = .returned (.bool (few7 xs)) ∧ Below W.heap.size W w' := by
  refine Z2 (n := 59) Tryz.func18 rfl (ZO (Zb (.agg #[.slice A xs.length cap]) (fun b1 => Zv Z5 (ZN (z7 (ZO (Zv (.int .i64 0) (zO ?_))))))))
  refine zB (zM (yN (fun L f m => ∃ (i : Nat) (j : Nat → Value), (i ≤ xs.length ∧ i ≤ 9 ∧ ∀ x ∈ xs.take i, fewX x = true) ∧ L = [⟨b1, #[.slice A xs.length cap], 25⟩] ∧ f = xZ j [(1, Zp b1 0), (3, .int .i64 (i : Int))] ∧ m = xs.length - i) (xs.length - 0) ⟨0, _, ⟨Nat.zero_le _, Nat.zero_le _, by simp⟩, rfl, ZU, rfl⟩ ?_))
  rintro L f m ⟨i, j, hrel, rfl, rfl, rfl⟩
  have hrel0 := hrel; have hil := hrel.1; have hi9 := hrel.2.1
  refine z7 (ZO (Zv (.int .i64 (i : Int)) (Zv (Zp b1 0) (Zl 0 ⟨b1, #[.slice A xs.length cap], 25⟩ (off := 0) (.slice A xs.length cap) (Zv (.int .i64 (xs.length : Int)) ?_)))))
  by_cases h1 : (i : Int) < (xs.length : Int)
  · have hi : i < xs.length := by omega
    obtain ⟨ba, oa, hA, hlta, hcella⟩ := hv (by omega)
    obtain ⟨x, hx⟩ : ∃ x, xs[i] = x := ⟨_, rfl⟩
    have hxm : x ∈ xs := hx ▸ List.getElem_mem hi
    refine Zg h1 (ZY (ZB (z7 (zM (z7 (ZO (Zv (.int .i64 (i : Int)) ?_)))))))
    by_cases h2 : (8 : Int) < (i : Int)
    · refine Zg h2 (Zv Z4 (Zk (Zk (Zk (Zk (Zk (Zk (Zk (Zv Z4 (zO (zB ?_)))))))))))
      refine Zt (ZO (Zv Z5 (ZN (zC (z6 (zG (z6 (y5 (zG ?_)))))))))
      exact z6 (ZF Z5 Tryz.results18 (fun w hO => ⟨by rw [few7_long (by omega)], hO.below⟩))
    refine Zh h2 (Zv Z5 (Zv (Zp b1 0) (Zl 0 ⟨b1, #[.slice A xs.length cap], 25⟩ (off := 0) (.slice A xs.length cap) (Zv (.int .i64 (i : Int)) (zV (Zp ba (oa + i * 1)) (by kernel_rfl) (ZA (b := ba) (off := oa) (c := cap) (n := xs.length) (k := .i64) (j := (i : Int)) (e := 47) (sz := 1) hA) (Zo (.slice x.A x.l.length x.cap) (a := ⟨ba, oa + i * 1, none⟩) (fun w hO => zX gO (fun j u h => (hO.below.cell (p := ⟨ba, oa + j, none⟩) hlta).trans (hcella j u h)) i 0 hi (by omega) _ (by rw [hx]; kernel_rfl)) (Zv (.int .i64 (x.l.length : Int)) ?_)))))))
    by_cases h3 : (8 : Int) < (x.l.length : Int)
    · refine Zg h3 (Zv Z4 (ZY (ZO (Zv Z5 (ZN (zC (z6 ?_)))))))
      exact zG (z6 (y5 (zG (z6 (ZF Z5 Tryz.results18 (fun w hO => ⟨by rw [few7_one hxm (fewX_long (by omega))], hO.below⟩))))))
    refine Zh h3 (Zv Z5 (ZX (ZB (ZO (Zv (.int .i64 0) (zO (zB ?_)))))))
    refine zM (yN (fun L f m => ∃ (k : Nat) (j : Nat → Value), (k ≤ x.l.length ∧ ∀ c ∈ x.l.take k, fewC c = true) ∧ L = [⟨b1, #[.slice A xs.length cap], 25⟩] ∧ f = xZ j [(1, Zp b1 0), (3, .int .i64 (i : Int)), (4, .int .i64 (k : Int))] ∧ m = x.l.length - k) (x.l.length - 0) ⟨0, _, ⟨Nat.zero_le _, by simp⟩, rfl, ZU, rfl⟩ ?_)
    rintro L f m ⟨k, j, hrel, rfl, rfl, rfl⟩
    have hkl := hrel.1
    refine z7 (ZO (Zv (.int .i64 (k : Int)) (Zv (Zp b1 0) (Zl 0 ⟨b1, #[.slice A xs.length cap], 25⟩ (off := 0) (.slice A xs.length cap) (Zv (.int .i64 (i : Int)) (zV (Zp ba (oa + i * 1)) (by kernel_rfl) (ZA (b := ba) (off := oa) (c := cap) (n := xs.length) (k := .i64) (j := (i : Int)) (e := 47) (sz := 1) hA) (Zo (.slice x.A x.l.length x.cap) (a := ⟨ba, oa + i * 1, none⟩) (fun w hO => zX gO (fun j u h => (hO.below.cell (p := ⟨ba, oa + j, none⟩) hlta).trans (hcella j u h)) i 0 hi (by omega) _ (by rw [hx]; kernel_rfl)) (Zv (.int .i64 (x.l.length : Int)) ?_))))))))
    by_cases h4 : (k : Int) < (x.l.length : Int)
    · have hk : k < x.l.length := by omega
      obtain ⟨bc, oc, hC, hltc, hcellc⟩ := he x hxm (by omega)
      obtain ⟨c, hc⟩ : ∃ c, x.l[k] = c := ⟨_, rfl⟩
      have hcm : c ∈ x.l := hc ▸ List.getElem_mem hk
      have hcp := xH c.v.pre
      have hcb := xH c.v.build
      refine Zg h4 (ZY (ZB (z7 (zM (ZO (Zv (Zp b1 0) (Zl 0 ⟨b1, #[.slice A xs.length cap], 25⟩ (off := 0) (.slice A xs.length cap) ?_)))))))
      refine Zv (.int .i64 (i : Int)) (zV (Zp ba (oa + i * 1)) (by kernel_rfl) (ZA (b := ba) (off := oa) (c := cap) (n := xs.length) (k := .i64) (j := (i : Int)) (e := 47) (sz := 1) hA) (Zo (.slice x.A x.l.length x.cap) (a := ⟨ba, oa + i * 1, none⟩) (fun w hO => zX gO (fun j u h => (hO.below.cell (p := ⟨ba, oa + j, none⟩) hlta).trans (hcella j u h)) i 0 hi (by omega) _ (by rw [hx]; kernel_rfl)) (Zv (.int .i64 (k : Int)) (zV (Zp bc (oc + k * 7)) (by kernel_rfl) (ZA (b := bc) (off := oc) (c := x.cap) (n := x.l.length) (k := .i64) (j := (k : Int)) (e := 51) (sz := 7) hC) (Zv (Zp bc (oc + k * 7 + 2)) (Zv (Zp bc (oc + k * 7 + 5)) (Zo (.string (mkS c.v.pre)) (a := ⟨bc, oc + k * 7 + 5, none⟩) (fun w hO => zX j4 (fun j u h => (hO.below.cell (p := ⟨bc, oc + j, none⟩) hltc).trans (hcellc j u h)) k 5 hk (by omega) _ (by rw [hc]; kernel_rfl)) (Zv (.int .i64 ((mkS c.v.pre).size)) ?_))))))))
      by_cases h5 : (60 : Int) < (mkS c.v.pre).size
      · refine Zg h5 (Zv Z4 (Zk (Zk (Zk (Zk (Zk (Zk (Zk (Zk (Zk (Zk ?_)))))))))))
        refine Zk (Zk (Zv Z4 (ZY (ZO (Zv Z5 (ZN (zC ?_)))))))
        exact zG (z6 (y5 (zG (zG (z6 (y5 (zG (z6 (ZF Z5 Tryz.results18 (fun w hO => ⟨by rw [few7_one hxm (fewX_one hcm (by unfold fewC; simp; omega))], hO.below⟩))))))))))
      refine Zh h5 (Zv Z5 (Zv (Zp b1 0) (Zl 0 ⟨b1, #[.slice A xs.length cap], 25⟩ (off := 0) (.slice A xs.length cap) (Zv (.int .i64 (i : Int)) (zV (Zp ba (oa + i * 1)) (by kernel_rfl) (ZA (b := ba) (off := oa) (c := cap) (n := xs.length) (k := .i64) (j := (i : Int)) (e := 47) (sz := 1) hA) (Zo (.slice x.A x.l.length x.cap) (a := ⟨ba, oa + i * 1, none⟩) (fun w hO => zX gO (fun j u h => (hO.below.cell (p := ⟨ba, oa + j, none⟩) hlta).trans (hcella j u h)) i 0 hi (by omega) _ (by rw [hx]; kernel_rfl)) (Zv (.int .i64 (k : Int)) (zV (Zp bc (oc + k * 7)) (by kernel_rfl) (ZA (b := bc) (off := oc) (c := x.cap) (n := x.l.length) (k := .i64) (j := (k : Int)) (e := 51) (sz := 7) hC) (Zv (Zp bc (oc + k * 7 + 2)) (Zv (Zp bc (oc + k * 7 + 6)) (Zo (.string (mkS c.v.build)) (a := ⟨bc, oc + k * 7 + 6, none⟩) (fun w hO => zX j4 (fun j u h => (hO.below.cell (p := ⟨bc, oc + j, none⟩) hltc).trans (hcellc j u h)) k 6 hk (by omega) _ (by rw [hc]; kernel_rfl)) ?_)))))))))))
      refine Zv (.int .i64 ((mkS c.v.build).size)) ?_
      by_cases h6 : (60 : Int) < (mkS c.v.build).size
      · refine Zg h6 (Zv Z4 (ZY (ZO (Zv Z5 (ZN (zC (zG ?_)))))))
        exact z6 (y5 (zG (zG (z6 (y5 (zG (z6 (ZF Z5 Tryz.results18 (fun w hO => ⟨by rw [few7_one hxm (fewX_one hcm (by unfold fewC; simp; omega))], hO.below⟩)))))))))
      refine Zh h6 (Zv Z5 (ZX (yP (zP (zB (zA (Zv (.int .i64 (k : Int)) (Zu (k := .i64) (((k + 1 : Nat) : Int)) (IntWalk.i64_in _ (by omega)) (Zv (.int .i64 ((k + 1 : Nat) : Int)) ?_)))))))))
      exact zO (zS (m' := x.l.length - (k + 1)) (by omega) ⟨k + 1, _, ⟨by omega, bM hrel.2 hk hc (by unfold fewC; rw [decide_eq_true (show c.v.pre.length ≤ 60 by omega), decide_eq_true (show c.v.build.length ≤ 60 by omega)]; rfl)⟩, rfl, ZU, rfl⟩)
    refine Zh h4 (ZX (y7 (zF (zN (zJ (zP (zB (zA (Zv (.int .i64 (i : Int)) ?_)))))))))
    exact Zu (k := .i64) (((i + 1 : Nat) : Int)) (IntWalk.i64_in _ (by omega)) (Zv (.int .i64 ((i + 1 : Nat) : Int)) (zO (zS (m' := xs.length - (i + 1)) (by omega) ⟨i + 1, _, ⟨by omega, by omega, bM hrel0.2.2 hi hx (fewX_yes (by omega) (pO hrel.2 (by omega)))⟩, rfl, ZU, rfl⟩)))
  refine Zh h1 (ZX (y7 (zF (zN (zJ (zB (ZO (Zv Z4 ?_))))))))
  exact ZN (zC (ZF Z4 Tryz.results18 (fun w hO => ⟨by rw [few7_yes (by omega) (pO hrel0.2.2 (by omega))], hO.below⟩)))
set_option maxHeartbeats 8000000 in
theorem scopePrints.law (W : World) (A : Option Addr) (cap : Nat) (xs : List Al) (hv : Reads alC W W.heap.size A xs) (he : ∀ x ∈ xs, Reads coC W W.heap.size x.A x.l) (ht : HasLib W) :
    Calls Tryz.prog 4 #[.agg #[.slice A xs.length cap]] W fun e w' => e = .returned (.bool true) ∧ Below W.heap.size W w' := by
  refine Z2 (n := 29) Tryz.func4 rfl (ZO (Zb (.agg #[.slice A xs.length cap]) (fun b1 => Zv Z5 (ZN (z7 (ZO (Zl 0 ⟨b1, #[.slice A xs.length cap], 25⟩ (off := 0) (.agg #[.slice A xs.length cap]) (Zc (k := 18) (args := #[.agg #[.slice A xs.length cap]]) (.bool (few7 xs)) (fun w hO => few7_any A cap xs w (hv.on hO.below hO.size) (fun x hx => (he x hx).on hO.below hO.size)) ?_))))))))
  cases h1 : few7 xs with
  | true =>
    have hin := few_in h1 hv he
    refine Zv Z5 (ZX (ZB (z7 (j0 (by kernel_rfl) (Zz 0 (Zx [] _ (k := 11) (args := #[]) Z4 rfl (fun w hO => awake7_any w (ht.on hO.below)) (ZT 1 [] _ Z4 (zD zH) rfl (ZL 2 [] _ 0 ⟨b1, #[.slice A xs.length cap], 25⟩ (off := 0) (.agg #[.slice A xs.length cap]) (zD zH) rfl rfl ?_))))))))
    refine ZL 4 [] _ 0 ⟨b1, #[.slice A xs.length cap], 25⟩ (off := 0) (.agg #[.slice A xs.length cap]) (zD zH) rfl rfl (Zz 3 (Zx [] _ (k := 19) (args := #[.agg #[.slice A xs.length cap]]) (.bool (rgMay (yK xs))) rfl (fun w hO => ret_b (rfl) (gMay_any A cap xs w (hin.on hO.below hO.size) (ht.on hO.below))) (Zz 5 (Zx [] _ (k := 20) (args := #[.agg #[.slice A xs.length cap]]) (.bool (rgMay (yK xs))) rfl (fun w hO => ret_b (rfl) (rsMay_any A cap xs w (hin.on hO.below hO.size))) ?_))))
    cases h2 : rgMay (yK xs) with
    | true =>
      refine ZT 6 [] _ Z4 (zD zH) rfl (ZT 7 [] _ Z4 (zD zH) rfl (ZT 8 [] _ Z4 (zD zH) rfl (ZL 9 [] _ 0 ⟨b1, #[.slice A xs.length cap], 25⟩ (off := 0) (.agg #[.slice A xs.length cap]) (zD zH) rfl rfl (ZL 11 [] _ 0 ⟨b1, #[.slice A xs.length cap], 25⟩ (off := 0) (.agg #[.slice A xs.length cap]) (zD zH) rfl rfl (Zz 10 (Zx [] _ (k := 21) (args := #[.agg #[.slice A xs.length cap]]) (.string (mkS (gN (yK xs)))) rfl (fun w hO => vR (rfl) (f8 A cap xs w (hin.on hO.below hO.size) (ht.on hO.below))) (Zz 12 (Zx [] _ (k := 22) (args := #[.agg #[.slice A xs.length cap]]) (.string (mkS (gN (yK xs)))) rfl (fun w hO => vR (rfl) (rsPrint_any A cap xs w (hin.on hO.below hO.size))) (vS 13 [] _ Z4 rfl (by kernel_rfl) (by kernel_rfl) (by kernel_rfl) (zD zH) (by kernel_rfl) (fun w _ => yM (a := (gN (yK xs))) (b := (gN (yK xs))) rfl (by kernel_rfl) (by kernel_rfl) (decide_eq_true (rfl)) w) (ZT 14 [] _ Z4 (zD zH) rfl (ZT 15 [] _ Z4 (zD zH) rfl ?_)))))))))))
      refine ZL 16 [] _ 0 ⟨b1, #[.slice A xs.length cap], 25⟩ (off := 0) (.agg #[.slice A xs.length cap]) (zD zH) rfl rfl (ZL 18 [] _ 0 ⟨b1, #[.slice A xs.length cap], 25⟩ (off := 0) (.agg #[.slice A xs.length cap]) (zD zH) rfl rfl (Zz 17 (kA _ (k := 23) (args := #[.agg #[.slice A xs.length cap]]) (fun v' L' => ∃ ob', L' = ob' ++ ([] ++ ([⟨b1, #[.slice A xs.length cap], 25⟩])) ∧ SetO v' (x9 (yK xs)) ob') rfl (by kernel_rfl) (fun _ => by kernel_rfl) (fun w hO => (gSet_any A cap xs w (hin.on hO.below hO.size) (ht.on hO.below)).mono fun e w' ⟨v', ob', k1, k2, k3⟩ => ⟨v', _, k1, ⟨ob', rfl, k2⟩, Own.joinN hO k3⟩) (fun v' L' ⟨ob', e, _⟩ w hO => by subst e; exact Own.sub [] (Own.sub ob' hO)) (fun v1 L2 hv2 => ?_))))
      obtain ⟨o1, rfl, hr1⟩ := hv2
      obtain ⟨V1, U1, c1, d1, rfl⟩ := hr1.form
      refine gK (L' := (o1 ++ ([] : List Blk)) ++ ([⟨b1, #[.slice A xs.length cap], 25⟩])) (List.append_assoc _ _ _).symm (Zz 19 (kA _ (k := 24) (args := #[.agg #[.slice A xs.length cap]]) (fun v' L' => ∃ ob', L' = ob' ++ ((o1 ++ ([] : List Blk)) ++ ([⟨b1, #[.slice A xs.length cap], 25⟩])) ∧ SetO v' (x9 (yK xs)) ob') rfl (by kernel_rfl) (fun _ => by kernel_rfl) (fun w hO => (rsSet_any A cap xs w (hin.on hO.below hO.size)).mono fun e w' ⟨v', ob', k1, k2, k3⟩ => ⟨v', _, k1, ⟨ob', rfl, k2⟩, Own.joinN hO k3⟩) (fun v' L' ⟨ob', e, _⟩ w hO => by subst e; exact Own.sub (o1 ++ ([] : List Blk)) (Own.sub ob' hO)) (fun v2 L2 hv2 => ?_)))
      obtain ⟨o2, rfl, hr2⟩ := hv2
      obtain ⟨V2, U2, c2, d2, rfl⟩ := hr2.form
      exact gK (L' := (o2 ++ (o1 ++ ([] : List Blk))) ++ ([⟨b1, #[.slice A xs.length cap], 25⟩])) (List.append_assoc _ _ _).symm (Zz 20 (Zx (o2 ++ (o1 ++ ([] : List Blk))) _ (k := 17) (args := #[.agg #[.slice V1 ((x9 (yK xs)).rel.length) c1, .slice U1 ((x9 (yK xs)).pre.length) d1], .agg #[.slice V2 ((x9 (yK xs)).rel.length) c2, .slice U2 ((x9 (yK xs)).pre.length) d2]]) Z4 rfl (fun w hO => ret_b ((same_g _ _).trans (decide_eq_true (rfl))) (pV V1 U1 V2 U2 c1 d1 c2 d2 (x9 (yK xs)) (x9 (yK xs)) w (SetO.inn hr1 hO (fun x hx => by simp [hx]) ((bV (yK xs))) (by decide)) (SetO.inn hr2 hO (fun x hx => by simp [hx]) ((bV (yK xs))) (by decide)))) (ZT 21 (o2 ++ (o1 ++ ([] : List Blk))) _ Z4 (zD zH) rfl (ZT 22 (o2 ++ (o1 ++ ([] : List Blk))) _ Z4 (zD zH) rfl (h_drop (o2 ++ (o1 ++ ([] : List Blk))) (ZZ (zB (zC (ZF Z4 Tryz.results4 (fun w hO => ⟨rfl, hO.below⟩))))))))))
    | false =>
      refine ZT 6 [] _ Z4 (zD zH) rfl (ZT 7 [] _ Z4 (zD zH) rfl (ZT 8 [] _ Z4 (zD zH) rfl (ZL 9 [] _ 0 ⟨b1, #[.slice A xs.length cap], 25⟩ (off := 0) (.agg #[.slice A xs.length cap]) (zD zH) rfl rfl (ZL 11 [] _ 0 ⟨b1, #[.slice A xs.length cap], 25⟩ (off := 0) (.agg #[.slice A xs.length cap]) (zD zH) rfl rfl (Zz 10 (Zx [] _ (k := 21) (args := #[.agg #[.slice A xs.length cap]]) (.string (mkS (gN (yK xs)))) rfl (fun w hO => vR (rfl) (f8 A cap xs w (hin.on hO.below hO.size) (ht.on hO.below))) (Zz 12 (Zx [] _ (k := 22) (args := #[.agg #[.slice A xs.length cap]]) (.string (mkS (gN (yK xs)))) rfl (fun w hO => vR (rfl) (rsPrint_any A cap xs w (hin.on hO.below hO.size))) (vS 13 [] _ Z4 rfl (by kernel_rfl) (by kernel_rfl) (by kernel_rfl) (zD zH) (by kernel_rfl) (fun w _ => yM (a := (gN (yK xs))) (b := (gN (yK xs))) rfl (by kernel_rfl) (by kernel_rfl) (decide_eq_true (rfl)) w) (ZT 14 [] _ Z4 (zD zH) rfl (ZT 15 [] _ Z4 (zD zH) rfl ?_)))))))))))
      refine ZL 16 [] _ 0 ⟨b1, #[.slice A xs.length cap], 25⟩ (off := 0) (.agg #[.slice A xs.length cap]) (zD zH) rfl rfl (ZL 18 [] _ 0 ⟨b1, #[.slice A xs.length cap], 25⟩ (off := 0) (.agg #[.slice A xs.length cap]) (zD zH) rfl rfl (Zz 17 (kA _ (k := 23) (args := #[.agg #[.slice A xs.length cap]]) (fun v' L' => ∃ ob', L' = ob' ++ ([] ++ ([⟨b1, #[.slice A xs.length cap], 25⟩])) ∧ SetO v' (x9 (yK xs)) ob') rfl (by kernel_rfl) (fun _ => by kernel_rfl) (fun w hO => (gSet_any A cap xs w (hin.on hO.below hO.size) (ht.on hO.below)).mono fun e w' ⟨v', ob', k1, k2, k3⟩ => ⟨v', _, k1, ⟨ob', rfl, k2⟩, Own.joinN hO k3⟩) (fun v' L' ⟨ob', e, _⟩ w hO => by subst e; exact Own.sub [] (Own.sub ob' hO)) (fun v3 L2 hv2 => ?_))))
      obtain ⟨o3, rfl, hr3⟩ := hv2
      obtain ⟨V3, U3, c3, d3, rfl⟩ := hr3.form
      refine gK (L' := (o3 ++ ([] : List Blk)) ++ ([⟨b1, #[.slice A xs.length cap], 25⟩])) (List.append_assoc _ _ _).symm (Zz 19 (kA _ (k := 24) (args := #[.agg #[.slice A xs.length cap]]) (fun v' L' => ∃ ob', L' = ob' ++ ((o3 ++ ([] : List Blk)) ++ ([⟨b1, #[.slice A xs.length cap], 25⟩])) ∧ SetO v' (x9 (yK xs)) ob') rfl (by kernel_rfl) (fun _ => by kernel_rfl) (fun w hO => (rsSet_any A cap xs w (hin.on hO.below hO.size)).mono fun e w' ⟨v', ob', k1, k2, k3⟩ => ⟨v', _, k1, ⟨ob', rfl, k2⟩, Own.joinN hO k3⟩) (fun v' L' ⟨ob', e, _⟩ w hO => by subst e; exact Own.sub (o3 ++ ([] : List Blk)) (Own.sub ob' hO)) (fun v4 L2 hv2 => ?_)))
      obtain ⟨o4, rfl, hr4⟩ := hv2
      obtain ⟨V4, U4, c4, d4, rfl⟩ := hr4.form
      exact gK (L' := (o4 ++ (o3 ++ ([] : List Blk))) ++ ([⟨b1, #[.slice A xs.length cap], 25⟩])) (List.append_assoc _ _ _).symm (Zz 20 (Zx (o4 ++ (o3 ++ ([] : List Blk))) _ (k := 17) (args := #[.agg #[.slice V3 ((x9 (yK xs)).rel.length) c3, .slice U3 ((x9 (yK xs)).pre.length) d3], .agg #[.slice V4 ((x9 (yK xs)).rel.length) c4, .slice U4 ((x9 (yK xs)).pre.length) d4]]) Z4 rfl (fun w hO => ret_b ((same_g _ _).trans (decide_eq_true (rfl))) (pV V3 U3 V4 U4 c3 d3 c4 d4 (x9 (yK xs)) (x9 (yK xs)) w (SetO.inn hr3 hO (fun x hx => by simp [hx]) ((bV (yK xs))) (by decide)) (SetO.inn hr4 hO (fun x hx => by simp [hx]) ((bV (yK xs))) (by decide)))) (ZT 21 (o4 ++ (o3 ++ ([] : List Blk))) _ Z4 (zD zH) rfl (ZT 22 (o4 ++ (o3 ++ ([] : List Blk))) _ Z4 (zD zH) rfl (h_drop (o4 ++ (o3 ++ ([] : List Blk))) (ZZ (zB (zC (ZF Z4 Tryz.results4 (fun w hO => ⟨rfl, hO.below⟩))))))))))
  | false =>
    refine Zv Z4 (ZY (ZO (Zc (k := 11) (args := #[]) Z4 (fun w hO => awake7_any w (ht.on hO.below)) (Zv Z4 (ZN (zC (z6 ?_)))))))
    exact ZF Z4 Tryz.results4 (fun w hO => ⟨rfl, hO.below⟩)
end Go.Proofs.YtkljdpiaghepfaaGreatDoor
end

section
/-
  ScopePrints: for every input the call returns true, and each argument reads afterwards as it read before. Conditions: none but the row's own, that the listed package-level variables read as the program's text lays them.
-/
namespace Go.Proofs.YtkljdpiaghepfaaGreatDoor.scopePrints
open Go.ChangeShapes Go.WideShapes Go.ChangeAt Go.RowKit
open Go.ChangeMaps (open_string shut_string)
set_option linter.unusedVariables false

set_option maxRecDepth 100000 in
theorem contract (H : Type) (enc : TypeId × Value → H) (W : World) (base : Nat) (args : Array Value) (ds gs : List (DataW H)) (before : List MemPlace)
    (hval : ∀ (j : Nat) t v, Tryz.f4.params[j]? = some t → args[j]? = some v → Value.okWide Tryz.prog W .any base t v)
    (hW : DataW.Whole enc Tryz.prog Tryz.f4.params.toList Rows.scopePrintsSpec.vars false W args.toList ds gs before) (hL : laidMetH Tryz.prog Rows.scopePrintsRow.laid W) (hS : W.ShapedOpen Tryz.prog) :
    Calls Tryz.prog 4 args W fun e W' => ∃ v, e = .returned v ∧ Rows.scopePrintsSpec.post enc Tryz.prog Tryz.f4 false true false false W args v W' := by
  have ht : HasLib W := hasLib_of (hasTab_of hL (by rfl)) hS
  have hW' := hW
  obtain ⟨p, q, hA0, hV, rfl, hfz, hnd⟩ := hW
  have hA : DataW.TrodAll enc Tryz.prog W 0 (fun _ => true) true Tryz.f4.params.toList args.toList ds p := hA0
  rw [Tryz.params4] at hA hval
  obtain ⟨v0, vs0, d0, ds0, p0, q0, hargs, rfl, rfl, h0, r0⟩ := trodAll_cons hA
  obtain ⟨rfl, rfl, rfl⟩ := trodAll_nil r0
  obtain rfl : args = #[v0] := by cases args; simp_all
  obtain ⟨rfl, rfl⟩ := trodVars_none hV
  clear hA0
  obtain ⟨r_A, r_c, r, rfl, r_r, _, _, r_e⟩ := open_rg (hval 0 25 v0 rfl rfl) h0
  refine (scopePrints.law W r_A r_c r r_r (fun y hy => (r_e y hy).1) ht).mono fun e W' ⟨he, hb⟩ => ?_
  subst he
  exact ⟨_, rfl, law_end laidOut (fun t ht => by rw [Tryz.params4] at ht; simp at ht; subst ht; exact ⟨by kernel_rfl, of_decide_eq_true (by kernel_rfl)⟩) rfl rfl Tryz.underlying4 hW' (by rfl) hb⟩

noncomputable def laidWorld (os : Os) : World :=
  { World.holding Tryz.prog os ⟨#[], #[], []⟩ with heap := layAt (layAt (layAt (layAt (layAt ((World.holding Tryz.prog os ⟨#[], #[], []⟩).heap) 4 Rows.laid_math_bits_deBruijn32tab) 5 Rows.laid_math_bits_deBruijn64tab) 3 Rows.laid_internal_strconv_uint64pow10) 2 Rows.laid_unicode_utf8_acceptRanges) 1 Rows.laid_unicode_utf8_first }
theorem laid_met (os : Os) : laidMet Tryz.prog Rows.scopePrintsRow.laid ((laidWorld os).forCall (fun _ _ => 0) ⟨#[], #[.agg #[.slice none 0 0]], []⟩).memory :=
  laidMet_of_run' 8 (by kernel_rfl) (by kernel_rfl)
theorem reads (os : Os) {H : Type} (enc : TypeId × Value → H) : ∃ places, DataW.whole enc Tryz.prog ((laidWorld os).forCall (fun _ _ => 0) ⟨#[], #[.agg #[.slice none 0 0]], []⟩).memory Tryz.f4.params.toList Rows.scopePrintsSpec.vars false (#[.agg #[.slice none 0 0]] : Array Value).toList 8 = some ([.agg [.nil]], [], places) :=
  ⟨[], by kernel_rfl⟩

set_option maxRecDepth 100000 in
theorem lifted (os : Os) (started : os.Started) (H : Type) (enc : TypeId × Value → H) (F : Stop.Interp) :
    ReturnsInHanded {} Tryz.checked os 4 .any ((OpenSpec.ofChange Rows.scopePrintsSpec).preRow enc Tryz.prog Tryz.f4 Rows.scopePrintsRow.domain false Rows.scopePrintsRow.laid) (((OpenSpec.ofChange Rows.scopePrintsSpec).at F).post enc Tryz.prog Tryz.f4 false true false false) := by
  obtain ⟨places, hx⟩ := reads os enc
  refine returnsInHanded_of_row (C := Tryz.checked) (s := OpenSpec.ofChange Rows.scopePrintsSpec) own started (by kernel_rfl) Tryz.func4
    (witness_row_at (enc := enc) (C := Tryz.checked) false (laidWorld os) #[.agg #[.slice none 0 0]] rfl (by kernel_rfl) (by kernel_rfl) (by kernel_rfl)
      (OpenSpec.preRow_of_cond 8 hx (by kernel_rfl) (fun k hk => by cases hk) (by kernel_rfl) (laid_met os))) ?_
  intro W base args ds gs before hval hW _ _ _ hL hS _
  exact contract H enc W base args ds gs before hval hW hL hS

theorem said : Rows.ScopePrintsSaid :=
  OpenClaim.holds_of_cond 4 Tryz.f4 rfl rfl rfl rfl rfl rfl rfl ⟨rfl, rfl, rfl, rfl, rfl⟩ rfl rfl rfl rfl rfl (by kernel_rfl) Tryz.func4 (by kernel_rfl)
    (of_decide_eq_true (by kernel_rfl)) (by unfold Func.isWrapper; first | (rw [if_pos (by decide +kernel)]; kernel_rfl) | (rw [if_neg (by decide +kernel)]; exact ⟨rfl, rfl⟩))
    (fun os started H enc _ F => by rw [OpenClaim.pre_eq_preRow]; exact lifted os started H enc F)

theorem n7 (f : FuncId) (fn : Func) (hf : Tryz.pinned.checked.prog.funcNamed "linchpin/linchpinlaw7.ScopePrints" = some f) (hfn : Tryz.pinned.checked.prog.funcs[f]? = some fn) :
    false = Tryz.pinned.checked.prog.looks [] ∧ ∀ (j : Nat) t, fn.params[j]? = some t → Tryz.pinned.checked.prog.wantsStandIn t = false := by
  obtain rfl : f = 4 := Option.some.inj ((show Tryz.prog.funcNamed "linchpin/linchpinlaw7.ScopePrints" = some 4 by kernel_rfl).symm.trans hf) |>.symm
  obtain rfl : fn = Tryz.f4 := (Option.some.inj (Tryz.func4.symm.trans hfn)).symm
  refine ⟨by kernel_rfl, fun j t ht => ?_⟩
  rw [Tryz.params4] at ht
  have hm := Array.mem_of_getElem? ht
  simp at hm
  subst hm
  exact (show Tryz.prog.wantsStandIn 25 = false by kernel_rfl)

theorem card : Rows.ScopePrintsCardSaid :=
  Claim7.holds_tied_plain_at .later [] _ _ _ _ said (fun _ h => by cases h) (by kernel_rfl) (fun _ h => by cases h) scopePrints_row_tie rfl ⟨rfl, rfl⟩ (by kernel_rfl) rfl n7 (by kernel_rfl)

#print axioms card
end Go.Proofs.YtkljdpiaghepfaaGreatDoor.scopePrints
end
