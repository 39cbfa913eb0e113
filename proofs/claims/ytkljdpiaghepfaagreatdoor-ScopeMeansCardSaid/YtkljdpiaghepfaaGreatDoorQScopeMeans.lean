/-
  ScopeMeans: for every input the call returns true, and each argument reads afterwards as it read before. Conditions: none but the row's own, that the listed package-level variables read as the program's text lays them.
-/
import Derived.Test.YtkljdpiaghepfaaGreatDoorCards
import Derived.Test.YtkljdpiaghepfaaGreatDoorTie
import Derived.Test.YtkljdpiaghepfaaGreatDoorME8

section
/-
  linchpinlaw7's holds, ahead; ScopeMeans: for any list of numbers the law returns true, and nothing that was there is changed. Condition: the library's table of powers of ten reads as it is laid.
-/
namespace Go.Proofs.YtkljdpiaghepfaaGreatDoor
open Go.RowKit
set_option maxRecDepth 100000
set_option linter.unusedVariables false
set_option linter.unusedSimpArgs false
set_option maxHeartbeats 2000000

def pJ (l : List Co) (v : Ver) : Bool := l.all fun c => xC c.region v
def bK (l : List Co) (v : Ver) : Bool := l.any fun c => !decide (c.v.pre = []) && gX c v 3
theorem all_no {α : Type} {p : α → Bool} {l : List α} {x : α} (hm : x ∈ l) (h : p x = false) : l.all p = false := by
  cases hq : l.all p with
  | false => rfl
  | true => rw [List.all_eq_true.1 hq x hm] at h; cases h
theorem any_no {α : Type} {p : α → Bool} {l : List α} (h : ∀ x ∈ l, p x = false) : l.any p = false := by
  cases hq : l.any p with
  | false => rfl
  | true => obtain ⟨x, hx, hp⟩ := List.any_eq_true.1 hq; rw [h x hx] at hp; cases hp
theorem ahead_yes {l : List Co} {v : Ver} {c : Co} (hm : c ∈ l) (hp : ¬ c.v.pre = []) (h1 : c.v.maj = v.maj) (h2 : c.v.min = v.min) (h3 : c.v.pat = v.pat) : bK l v = true := List.any_eq_true.2 ⟨c, hm, by unfold gX; simp [hp, h1, h2, h3]⟩
theorem n4 {c : Co} {v : Ver} (h : c.v.pre = [] ∨ ¬ c.v.maj = v.maj ∨ ¬ c.v.min = v.min ∨ ¬ c.v.pat = v.pat) : (!decide (c.v.pre = []) && gX c v 3) = false := by
  unfold gX
  rcases h with h | h | h | h
  · simp [h]
  · simp; exact fun _ e => absurd e.symm h
  · simp; exact fun _ _ e => absurd e.symm h
  · simp; exact fun _ _ _ e => h e.symm
theorem holds7_any (A : Option Addr) (cap : Nat) (l : List Co) (v : Ver) (W : World) (hv : Reads coC W W.heap.size A l) (hn : l.length ≤ 1000) (hsh : ShortA l) (hvs : v.short) : Calls Tryz.prog 27 #[.slice A l.length cap, y5 v] W fun e w' => e = .returned (.bool (pJ l v)) ∧ Below W.heap.size W w' := by
  refine zQ (n := 20) Tryz.func27 rfl (by kernel_rfl) (by kernel_rfl) (ZO (Zb (y5 v) (fun b1 => Zv (.bool false) (ZN (z6 (ZO (Zv (.int .i64 0) (zP ?_))))))))
  refine zB (zK (yP (fun L f m => ∃ (k : Nat) (j : Nat → Value), (k ≤ l.length ∧ ∀ c ∈ l.take k, xC c.region v = true) ∧ L = [⟨b1, (y5 v).cells, 44⟩] ∧ f = kA j [(0, .slice A l.length cap), (3, .pointer (some ⟨b1, 0, none⟩)), (5, .int .i64 (k : Int))] ∧ m = l.length - k) (l.length - 0) ⟨0, _, ⟨Nat.zero_le _, by simp⟩, rfl, ZU, rfl⟩ ?_))
  rintro L f m ⟨k, j, hrel, rfl, rfl, rfl⟩
  have hkl := hrel.1
  refine z6 (ZO (Zv (.int .i64 (k : Int)) (Zv (.slice A l.length cap) (Zv (.int .i64 (l.length : Int)) ?_))))
  by_cases h1 : (k : Int) < (l.length : Int)
  · have hk : k < l.length := by omega
    obtain ⟨bc, oc, hC, hltc, hcellc⟩ := hv (by omega)
    obtain ⟨c, hc⟩ : ∃ c, l[k] = c := ⟨_, rfl⟩
    have hcm : c ∈ l := hc ▸ List.getElem_mem hk
    have hcS := hsh c hcm
    refine Zd (p := (k : Int) < (l.length : Int)) true (decide_eq_true (h1)) (ZY (ZB (z6 (zK (z6 (uD (by kernel_rfl) (ZT 0 [] _ (.slice A l.length cap) (zG (zO (zG (x5 (zO (zG zJ)))))) rfl (ZT 1 [] _ (.int .i64 (k : Int)) (zG (zO (zG (x5 (zO (zG zJ)))))) rfl ?_))))))))
    refine uO 2 [] _ (.pointer (some ⟨bc, oc + k * 7, none⟩)) rfl (by kernel_rfl) (by kernel_rfl) (by kernel_rfl) (zG (zO (zG (x5 (zO (zG zJ)))))) (by kernel_rfl) (fun w _ => jJ (b := bc) (off := oc) (c := cap) (n := l.length) (k := .i64) (j := (k : Int)) (e := 51) (sz := 7) rfl (by kernel_rfl) hC (by kernel_rfl) (by kernel_rfl) (by kernel_rfl) (by omega) (by omega) (by omega) w) (pK 3 _ (a := ⟨bc, oc + k * 7, none⟩) (coV c) rfl (by kernel_rfl) (by kernel_rfl) (by kernel_rfl) (zG (zO (zG (x5 (zO (zG zJ)))))) (fun w hO => Own.sub [] hO) (by kernel_rfl) rfl (by kernel_rfl) (fun w hO => yD uY (fun j u h => (hO.below.cell (p := ⟨bc, oc + j, none⟩) hltc).trans (hcellc j u h)) k 0 hk (by omega) _ (by rw [hc]; kernel_rfl)) (ZL 5 [] _ 0 ⟨b1, (y5 v).cells, 44⟩ (off := 0) (y5 v) (zG (zO (zG (x5 (zO (zG zJ)))))) rfl rfl (zY 4 (by kernel_rfl) (vG _ (k := 53) (args := #[coV c]) (fun v' L' => ∃ ob', L' = ob' ++ ([] ++ ([⟨b1, (y5 v).cells, 44⟩])) ∧ SlS v' c.region ob') rfl (by kernel_rfl) (fun _ => by kernel_rfl) (fun w hO => (rcRegion_any c w hcS).mono fun e w' ⟨v', ob', k1, k2, k3⟩ => ⟨v', _, k1, ⟨ob', rfl, k2⟩, Own.joinN hO k3⟩) (fun v' L' ⟨ob', e, _⟩ w hO => by subst e; exact Own.sub [] (Own.sub ob' hO)) (fun v1 L2 hv2 => ?_)))))
    obtain ⟨o1, rfl, hr1⟩ := hv2
    obtain ⟨V1, c1, rfl⟩ := hr1.form
    refine jQ (L' := (o1 ++ ([] : List Blk)) ++ ([⟨b1, (y5 v).cells, 44⟩])) (List.append_assoc _ _ _).symm (zY 6 (by kernel_rfl) (xL (o1 ++ ([] : List Blk)) _ (k := 52) (args := #[.slice V1 ((c.region).length) c1, y5 v]) (.bool (xC c.region v)) rfl (by kernel_rfl) (fun _ => by kernel_rfl) (fun w hO => fO V1 c1 c.region v w (Sl.reads hr1 rfl hO (fun x hx => by simp [hx])) (Nat.le_trans (j6 c).len (by decide)) (j6 c).short hvs) ?_))
    cases h2 : xC c.region v with
    | true =>
      refine ZT 7 (o1 ++ ([] : List Blk)) _ (.bool false) (zG (zO (zG (x5 (zO (zG zJ)))))) rfl (h_drop (o1 ++ ([] : List Blk)) (yO (by kernel_rfl) (zB (Zf (yS (zS (zB (z7 (Zv (.int .i64 (k : Int)) (Zu (k := .i64) (((k + 1 : Nat) : Int)) (IntWalk.i64_in _ (by omega)) (Zv (.int .i64 ((k + 1 : Nat) : Int)) ?_)))))))))))
      exact zP (zU (m' := l.length - (k + 1)) (by omega) ⟨k + 1, _, ⟨by omega, jH hrel.2 hk hc (h2)⟩, rfl, ZU, rfl⟩)
    | false =>
      refine ZT 7 (o1 ++ ([] : List Blk)) _ (.bool true) (zG (zO (zG (x5 (zO (zG zJ)))))) rfl (h_drop (o1 ++ ([] : List Blk)) (yO (by kernel_rfl) (zB (Zt (ZO (Zv (.bool false) (ZN (zC (zF ?_)))))))))
      exact z8 (yC (zF (z8 (ZF (.bool false) Tryz.results27 (fun w hO => ⟨by rw [show pJ l v = false from all_no hcm h2], hO.below⟩)))))
  refine Zd (p := (k : Int) < (l.length : Int)) false (decide_eq_false (h1)) (ZX (y8 (zD (zN (zI (zB (ZO (Zv (.bool true) ?_))))))))
  exact ZN (zC (ZF (.bool true) Tryz.results27 (fun w hO => ⟨by rw [show pJ l v = true from List.all_eq_true.2 (t6 hrel.2 (by omega))], hO.below⟩)))
theorem ahead7_any (A : Option Addr) (cap : Nat) (l : List Co) (v : Ver) (W : World) (hv : Reads coC W W.heap.size A l) (hn : l.length ≤ 1000) (hsh : ShortA l) (hvs : v.short) : Calls Tryz.prog 28 #[.slice A l.length cap, y5 v] W fun e w' => e = .returned (.bool (bK l v)) ∧ Below W.heap.size W w' := by
  refine zQ (n := 42) Tryz.func28 rfl (by kernel_rfl) (by kernel_rfl) (ZO (Zb (y5 v) (fun b1 => Zv (.bool false) (ZN (z6 (ZO (Zv (.int .i64 0) (zP ?_))))))))
  refine zB (zK (yP (fun L f m => ∃ (k : Nat) (j : Nat → Value), (k ≤ l.length ∧ ∀ c ∈ l.take k, (!decide (c.v.pre = []) && gX c v 3) = false) ∧ L = [⟨b1, (y5 v).cells, 44⟩] ∧ f = kA j [(0, .slice A l.length cap), (3, .pointer (some ⟨b1, 0, none⟩)), (5, .int .i64 (k : Int))] ∧ m = l.length - k) (l.length - 0) ⟨0, _, ⟨Nat.zero_le _, by simp⟩, rfl, ZU, rfl⟩ ?_))
  rintro L f m ⟨k, j, hrel, rfl, rfl, rfl⟩
  have hkl := hrel.1
  refine z6 (ZO (Zv (.int .i64 (k : Int)) (Zv (.slice A l.length cap) (Zv (.int .i64 (l.length : Int)) ?_))))
  by_cases h1 : (k : Int) < (l.length : Int)
  · have hk : k < l.length := by omega
    obtain ⟨bc, oc, hC, hltc, hcellc⟩ := hv (by omega)
    obtain ⟨c, hc⟩ : ∃ c, l[k] = c := ⟨_, rfl⟩
    have hcm : c ∈ l := hc ▸ List.getElem_mem hk
    have hcS := hsh c hcm
    refine Zd (p := (k : Int) < (l.length : Int)) true (decide_eq_true (h1)) (ZY (ZB (z6 (zK (ZO (Zv (.slice A l.length cap) (Zv (.int .i64 (k : Int)) ?_)))))))
    refine zX (.pointer (some ⟨bc, oc + k * 7, none⟩)) (by kernel_rfl) (ZA (b := bc) (off := oc) (c := cap) (n := l.length) (k := .i64) (j := (k : Int)) (e := 51) (sz := 7) hC) (Zv (.pointer (some ⟨bc, oc + k * 7 + 2, none⟩)) (Zo (y5 c.v) (a := ⟨bc, oc + k * 7 + 2, none⟩) (fun w hO => yD uY (fun j u h => (hO.below.cell (p := ⟨bc, oc + j, none⟩) hltc).trans (hcellc j u h)) k 2 hk (by omega) _ (by rw [hc]; kernel_rfl)) (Za (.agg #[.int .i64 0, .int .i64 0, .int .i64 0, .string ⟨#[]⟩, .string ⟨#[]⟩]) (fun b2 => Zs 0 ⟨b2, #[.int .i64 0, .int .i64 0, .int .i64 0, .string ⟨#[]⟩, .string ⟨#[]⟩], 44⟩ (off := 0) (y5 c.v) (ZR (Zv (.pointer (some ⟨b2, 3, none⟩)) (Zl 0 ⟨b2, (y5 c.v).cells, 44⟩ (off := 3) (.string (mkS c.v.pre)) ?_)))))))
    by_cases h2 : (c.v.pre : List UInt8) = []
    · refine zX (.bool false) (by kernel_rfl) (x2 (a := c.v.pre) (b := ([])) rfl (by kernel_rfl) (by kernel_rfl) (decide_eq_true (h2))) ?_
      refine Zv (.bool false) (Zk (Zk (Zk (Zk (Zk (Zv (.bool false) (Zv (.bool false) (Zk (Zk (Zk (Zk ?_)))))))))))
      refine Zk (Zv (.bool false) (Zv (.bool false) (Zk (Zk (Zk (Zk (Zk (Zv (.bool false) (ZN (Zf ?_))))))))))
      exact yS (zS (zB (z7 (Zv (.int .i64 (k : Int)) (Zu (k := .i64) (((k + 1 : Nat) : Int)) (IntWalk.i64_in _ (by omega)) (Zv (.int .i64 ((k + 1 : Nat) : Int)) (zP (xG (fun w hO => Own.sub [_] hO) (zU (m' := l.length - (k + 1)) (by omega) ⟨k + 1, _, ⟨by omega, jH hrel.2 hk hc (n4 (by first | exact .inl (by assumption) | exact .inr (by omega)))⟩, rfl, ZU, rfl⟩)))))))))
    refine zX (.bool true) (by kernel_rfl) (x2 (a := c.v.pre) (b := ([])) rfl (by kernel_rfl) (by kernel_rfl) (decide_eq_false (h2))) (Zv (.bool true) (Zv (.pointer (some ⟨b2, 0, none⟩)) (Zl 0 ⟨b2, (y5 c.v).cells, 44⟩ (off := 0) (.int .i64 c.v.maj) (Zv (.pointer (some ⟨b1, 0, none⟩)) (Zl 1 ⟨b1, (y5 v).cells, 44⟩ (off := 0) (.int .i64 v.maj) ?_)))))
    by_cases h3 : (c.v.maj : Int) = v.maj
    · refine zW (p := (c.v.maj : Int) = v.maj) true (by kernel_rfl) (fun _ => by kernel_rfl) (decide_eq_true (h3)) ?_
      refine Zv (.bool true) (Zv (.bool true) (Zv (.pointer (some ⟨b2, 1, none⟩)) (Zl 0 ⟨b2, (y5 c.v).cells, 44⟩ (off := 1) (.int .i64 c.v.min) (Zv (.pointer (some ⟨b1, 1, none⟩)) (Zl 1 ⟨b1, (y5 v).cells, 44⟩ (off := 1) (.int .i64 v.min) ?_)))))
      by_cases h4 : (c.v.min : Int) = v.min
      · refine zW (p := (c.v.min : Int) = v.min) true (by kernel_rfl) (fun _ => by kernel_rfl) (decide_eq_true (h4)) ?_
        refine Zv (.bool true) (Zv (.bool true) (Zv (.pointer (some ⟨b2, 2, none⟩)) (Zl 0 ⟨b2, (y5 c.v).cells, 44⟩ (off := 2) (.int .i64 c.v.pat) (Zv (.pointer (some ⟨b1, 2, none⟩)) (Zl 1 ⟨b1, (y5 v).cells, 44⟩ (off := 2) (.int .i64 v.pat) ?_)))))
        by_cases h5 : (c.v.pat : Int) = v.pat
        · refine zW (p := (c.v.pat : Int) = v.pat) true (by kernel_rfl) (fun _ => by kernel_rfl) (decide_eq_true (h5)) ?_
          refine Zv (.bool true) (ZY (ZO (Zv (.bool true) (ZN (zC (zF (z8 ?_)))))))
          exact yC (zF (z8 (ZF (.bool true) Tryz.results28 (fun w hO => ⟨by rw [ahead_yes hcm h2 h3 h4 h5], hO.below⟩))))
        refine Zd (p := (c.v.pat : Int) = v.pat) false (decide_eq_false (h5)) (Zv (.bool false) (ZX (yS (zS (zB (z7 (Zv (.int .i64 (k : Int)) (Zu (k := .i64) (((k + 1 : Nat) : Int)) (IntWalk.i64_in _ (by omega)) (Zv (.int .i64 ((k + 1 : Nat) : Int)) ?_)))))))))
        exact zP (xG (fun w hO => Own.sub [_] hO) (zU (m' := l.length - (k + 1)) (by omega) ⟨k + 1, _, ⟨by omega, jH hrel.2 hk hc (n4 (by first | exact .inl (by assumption) | exact .inr (by omega)))⟩, rfl, ZU, rfl⟩))
      refine Zd (p := (c.v.min : Int) = v.min) false (decide_eq_false (h4)) (Zv (.bool false) (Zv (.bool false) (Zk (Zk (Zk (Zk (Zk (Zv (.bool false) (ZN (Zf ?_))))))))))
      exact yS (zS (zB (z7 (Zv (.int .i64 (k : Int)) (Zu (k := .i64) (((k + 1 : Nat) : Int)) (IntWalk.i64_in _ (by omega)) (Zv (.int .i64 ((k + 1 : Nat) : Int)) (zP (xG (fun w hO => Own.sub [_] hO) (zU (m' := l.length - (k + 1)) (by omega) ⟨k + 1, _, ⟨by omega, jH hrel.2 hk hc (n4 (by first | exact .inl (by assumption) | exact .inr (by omega)))⟩, rfl, ZU, rfl⟩)))))))))
    refine Zd (p := (c.v.maj : Int) = v.maj) false (decide_eq_false (h3)) (Zv (.bool false) (Zv (.bool false) (Zk (Zk (Zk (Zk (Zk (Zv (.bool false) (Zv (.bool false) (Zk (Zk ?_)))))))))))
    refine Zk (Zk (Zk (Zv (.bool false) (ZX (yS (zS (zB (z7 (Zv (.int .i64 (k : Int)) ?_)))))))))
    exact Zu (k := .i64) (((k + 1 : Nat) : Int)) (IntWalk.i64_in _ (by omega)) (Zv (.int .i64 ((k + 1 : Nat) : Int)) (zP (xG (fun w hO => Own.sub [_] hO) (zU (m' := l.length - (k + 1)) (by omega) ⟨k + 1, _, ⟨by omega, jH hrel.2 hk hc (n4 (by first | exact .inl (by assumption) | exact .inr (by omega)))⟩, rfl, ZU, rfl⟩))))
  refine Zd (p := (k : Int) < (l.length : Int)) false (decide_eq_false (h1)) (ZX (y8 (zD (zN (zI (zB (ZO (Zv (.bool false) ?_))))))))
  exact ZN (zC (ZF (.bool false) Tryz.results28 (fun w hO => ⟨by rw [show bK l v = false from any_no (t6 hrel.2 (by omega))], hO.below⟩)))
theorem any_same {α : Type} {p q : α → Bool} : ∀ {l : List α}, (∀ x ∈ l, p x = q x) → l.any p = l.any q
  | [], _ => rfl
  | a :: l, h => by
    show (p a || l.any p) = (q a || l.any q)
    rw [h a (List.mem_cons_self ..), any_same fun x hx => h x (List.mem_cons_of_mem _ hx)]
def meanP (v : Ver) (a : List Co) : Bool := pJ a v && (decide (v.pre = []) || bK a v)
def meanT (r : List (List Co)) (v : Ver) (i : Nat) : Bool := (r.take i).any (meanP v)
theorem dX {r : List (List Co)} {v : Ver} {i : Nat} (hi : i < r.length) {a : List Co} (ha : r[i] = a) : meanT r v (i + 1) = (meanT r v i || meanP v a) := by
  unfold meanT
  rw [List.take_succ_eq_append_getElem hi, List.any_append, ha]; simp
theorem mean_all {r : List (List Co)} {v : Ver} (h : rgMay r = true) (hv : v.may = true) {i : Nat} (hi : r.length ≤ i) : meanT r v i = q7 (xB r) v := by
  have hf := (fewR.facts (rgMay.facts h).1).2
  rw [rgSet_has h hv]
  unfold meanT
  rw [List.take_of_length_le hi]
  refine any_same (fun a ha => ?_)
  have hm := (fewA.facts (hf a ha)).2
  show (a.all _ && (_ || a.any _)) = _
  by_cases hp : v.pre = []
  · simp [hp]
  · rw [decide_eq_false hp, Bool.false_or, Bool.false_or]
    congr 1
    refine any_same (fun c hc => ?_)
    rw [zone_has (hm c hc) hv, decide_eq_false hp]; simp
set_option maxHeartbeats 1000000 in
theorem scopeMeans.law (W : World) (x : Value) (xl : List Int) (hxl0 : ReadsI W W.heap.size x xl) (lxl : xl.length ≤ maxLen) (ht : HasLib W) :
    Calls Tryz.prog 6 #[x] W fun e w' => e = .returned (.bool true) ∧ Below W.heap.size W w' := by
  obtain ⟨r, er⟩ : ∃ q, q = genRg xl 0 := ⟨_, rfl⟩
  have mr : rgMay r = true := er ▸ genRg_may xl 0
  obtain ⟨u, eu⟩ : ∃ q, q = zR xl 70 := ⟨_, rfl⟩
  have mu : u.may = true := eu ▸ gen_may xl 70
  have su : u.short := eu ▸ ⟨Nat.le_trans (gen_pre xl 70) (by decide), Nat.le_trans (gen_bld xl 70) (by decide)⟩
  refine zQ (n := 57) Tryz.func6 rfl (by kernel_rfl) (by kernel_rfl) (ZO (Zv (.bool false) (ZR (Zv (x) (yK (k := 25) (args := #[x, .int .i64 0]) (fun v' L' => ∃ ob', L' = ob' ++ ([]) ∧ RgO v' r ob') (by kernel_rfl) (fun _ => by kernel_rfl) (fun w hO => (genRg_any x xl 0 w ((hxl0.below hO.below).more hO.below.size) (by unfold maxLen at lxl; omega) (by omega)).mono fun e w' ⟨v', ob', k1, k2, k3⟩ => ⟨v', _, k1, ⟨ob', rfl, by rw [← er] at k2; exact k2⟩, Own.joinN hO k3⟩) (fun sv1 L1 hv1 => ?_))))))
  obtain ⟨o1, rfl, hr1⟩ := hv1
  obtain ⟨xs1, u1, p1, q1, rfl, rfl, hx1, ha1⟩ := hr1
  obtain ⟨A1, c1, rfl⟩ := Sl.form ha1.top
  refine kK (L' := p1 ++ q1) (List.append_nil _) ?_
  have hxl : xs1.length = (r).length := by rw [← hx1, kB]
  have hx0 : 0 < xs1.length := by rw [hxl]; have := (fewR.facts (rgMay.facts mr).1).1; omega
  have hx9 : xs1.length ≤ 6 := by rw [hxl]; have := (fewR.facts (rgMay.facts mr).1).1; omega
  obtain ⟨g1, cur1, rfl, rfl, hc1, hm1, hz1, ht1⟩ := Sl.block ha1.top hx0
  refine Zv (x) (Zc (k := 26) (args := #[x, .int .i64 70]) (y5 u) (fun w hO => wZ (by rw [eu]) (gen_any x xl 70 w ((hxl0.below hO.below).more hO.below.size) (by unfold maxLen at lxl; omega) (by omega))) (Za (.agg #[.slice none 0 0]) (fun b1 => Za (.agg #[.int .i64 0, .int .i64 0, .int .i64 0, .string ⟨#[]⟩, .string ⟨#[]⟩]) (fun b2 => Zs 1 ⟨b1, #[.slice none 0 0], 25⟩ (off := 0) (.agg #[.slice (some ⟨g1, 0, none⟩) xs1.length c1]) (Zs 0 ⟨b2, #[.int .i64 0, .int .i64 0, .int .i64 0, .string ⟨#[]⟩, .string ⟨#[]⟩], 44⟩ (off := 0) (y5 u) (ZR (Zv (.bool false) (zP ?_))))))))
  refine zB (z6 (ZO (Zv (.int .i64 0) (ZN (zK (yP (fun L f m => ∃ (i : Nat) (q : Bool) (j : Nat → Value), (i ≤ xs1.length ∧ q = meanT r u i) ∧ L = ⟨b2, (y5 u).cells, 44⟩ :: (⟨b1, #[.slice (some ⟨g1, 0, none⟩) xs1.length c1], 25⟩ :: (⟨g1, cur1, 47⟩ :: (q1))) ∧ f = kA j [(3, .pointer (some ⟨b1, 0, none⟩)), (4, .pointer (some ⟨b2, 0, none⟩)), (5, .bool q), (6, .int .i64 (i : Int))] ∧ m = xs1.length - i) (xs1.length - 0) ⟨0, _, _, ⟨Nat.zero_le _, rfl⟩, rfl, ZU, rfl⟩ ?_))))))
  rintro L f m ⟨i, q, j, hrel, rfl, rfl, rfl⟩
  have hil := hrel.1
  refine z6 (ZO (Zv (.int .i64 (i : Int)) (Zv (.pointer (some ⟨b1, 0, none⟩)) (Zl 1 ⟨b1, #[.slice (some ⟨g1, 0, none⟩) xs1.length c1], 25⟩ (off := 0) (.slice (some ⟨g1, 0, none⟩) xs1.length c1) (Zv (.int .i64 (xs1.length : Int)) ?_)))))
  by_cases h1 : (i : Int) < (xs1.length : Int)
  · have hi : i < xs1.length := by omega
    obtain ⟨y, hy⟩ : ∃ y, xs1[i] = y := ⟨_, rfl⟩
    have hym : y ∈ xs1 := hy ▸ List.getElem_mem hi
    have hyr : r[i]'(by omega) = y.l := by have q0 := fR hi hy; exact (List.getElem_of_eq hx1.symm _).trans q0
    have hya : y.l ∈ r := hyr ▸ List.getElem_mem _
    have hyn : y.l.length ≤ 1000 ∧ ShortA y.l := (hJ (rgMay.facts mr).1).m _ hya
    refine Zd (p := (i : Int) < (xs1.length : Int)) true (decide_eq_true (h1)) (ZY (ZB (z6 (zK (vK (by kernel_rfl) (by kernel_rfl) (Zw (.bool q) (Zw (.bool q) ?_)))))))
    cases h2 : q with
    | true =>
      refine Zj (Zj (Zj (Zj (Zj (Zj (Zj (Zj (Zj (Zj (Zj (Zj ?_)))))))))))
      refine Zj (Zj (Zj (Zj (Zj (Zj (Zj (Zj (Zj (Zw (.bool true) (Zw (.bool true) (kP ?_)))))))))))
      exact zS (zB (z7 (Zv (.int .i64 (i : Int)) (Zu (k := .i64) (((i + 1 : Nat) : Int)) (IntWalk.i64_in _ (by omega)) (Zv (.int .i64 ((i + 1 : Nat) : Int)) (zP (zU (m' := xs1.length - (i + 1)) (by omega) ⟨i + 1, true, _, ⟨by omega, by rw [dX (by omega) hyr, ← hrel.2]; unfold meanP; simp [h2]⟩, rfl, ZU, rfl⟩)))))))
    | false =>
      refine Zw (.pointer (some ⟨b1, 0, none⟩)) (Zm 1 ⟨b1, #[.slice (some ⟨g1, 0, none⟩) xs1.length c1], 25⟩ (off := 0) (.slice (some ⟨g1, 0, none⟩) xs1.length c1) (Zw (.int .i64 (i : Int)) (gF (.pointer (some ⟨g1, i * 1 + 0, none⟩)) (by kernel_rfl) (ZV (b := g1) (off := 0) (n := xs1.length) (c := c1) (k := .i64) (j := (i : Int)) (e := 47) (sz := 1)) (j0 2 ⟨g1, cur1, 47⟩ (off := i * 1 + 0) (.slice y.A y.l.length y.cap) (by kernel_rfl) rfl (by kernel_rfl) (by kernel_rfl) (xT vC ht1 i 0 hi (by omega) _ (by rw [hy]; kernel_rfl)) (Zm 0 ⟨b2, (y5 u).cells, 44⟩ (off := 0) (y5 u) (Zq (k := 27) (args := #[.slice y.A y.l.length y.cap, y5 u]) (.bool (pJ y.l u)) (fun w hO => holds7_any y.A y.cap y.l u w ((RgA.inn ha1 rfl hO (fun x hx => by rw [List.mem_singleton] at hx; simp [hx]) (fun x hx => by simp [hx]) (by rw [hx1]; exact hJ (rgMay.facts mr).1)).each y hym) hyn.1 hyn.2 su) (Zw (.bool (pJ y.l u)) ?_)))))))
      cases h3 : pJ y.l u with
      | true =>
        refine Zw (.pointer (some ⟨b2, 3, none⟩)) (Zm 0 ⟨b2, (y5 u).cells, 44⟩ (off := 3) (.string (mkS u.pre)) ?_)
        by_cases h4 : (u.pre : List UInt8) = []
        · refine gF (.bool true) (by kernel_rfl) (yV (a := u.pre) (b := ([])) rfl (by kernel_rfl) (by kernel_rfl) (decide_eq_true (h4))) ?_
          refine Zw (.bool true) (Zj (Zj (Zj (Zj (Zj (Zj (Zj (Zw (.bool true) (Zw (.bool true) (Zw (.bool true) (Zw (.bool true) ?_)))))))))))
          exact kP (zS (zB (z7 (Zv (.int .i64 (i : Int)) (Zu (k := .i64) (((i + 1 : Nat) : Int)) (IntWalk.i64_in _ (by omega)) (Zv (.int .i64 ((i + 1 : Nat) : Int)) (zP (zU (m' := xs1.length - (i + 1)) (by omega) ⟨i + 1, true, _, ⟨by omega, by rw [dX (by omega) hyr, ← hrel.2]; unfold meanP; simp [h2, h3, h4]⟩, rfl, ZU, rfl⟩))))))))
        refine gF (.bool false) (by kernel_rfl) (yV (a := u.pre) (b := ([])) rfl (by kernel_rfl) (by kernel_rfl) (decide_eq_false (h4))) (Zw (.bool false) (Zw (.pointer (some ⟨b1, 0, none⟩)) (Zm 1 ⟨b1, #[.slice (some ⟨g1, 0, none⟩) xs1.length c1], 25⟩ (off := 0) (.slice (some ⟨g1, 0, none⟩) xs1.length c1) (Zw (.int .i64 (i : Int)) (gF (.pointer (some ⟨g1, i * 1 + 0, none⟩)) (by kernel_rfl) (ZV (b := g1) (off := 0) (n := xs1.length) (c := c1) (k := .i64) (j := (i : Int)) (e := 47) (sz := 1)) (j0 2 ⟨g1, cur1, 47⟩ (off := i * 1 + 0) (.slice y.A y.l.length y.cap) (by kernel_rfl) rfl (by kernel_rfl) (by kernel_rfl) (xT vC ht1 i 0 hi (by omega) _ (by rw [hy]; kernel_rfl)) (Zm 0 ⟨b2, (y5 u).cells, 44⟩ (off := 0) (y5 u) (Zq (k := 28) (args := #[.slice y.A y.l.length y.cap, y5 u]) (.bool (bK y.l u)) (fun w hO => ahead7_any y.A y.cap y.l u w ((RgA.inn ha1 rfl hO (fun x hx => by rw [List.mem_singleton] at hx; simp [hx]) (fun x hx => by simp [hx]) (by rw [hx1]; exact hJ (rgMay.facts mr).1)).each y hym) hyn.1 hyn.2 su) (Zw (.bool (bK y.l u)) (Zw (.bool (bK y.l u)) (Zw (.bool (bK y.l u)) ?_)))))))))))
        exact Zw (.bool (bK y.l u)) (kP (zS (zB (z7 (Zv (.int .i64 (i : Int)) (Zu (k := .i64) (((i + 1 : Nat) : Int)) (IntWalk.i64_in _ (by omega)) (Zv (.int .i64 ((i + 1 : Nat) : Int)) (zP (zU (m' := xs1.length - (i + 1)) (by omega) ⟨i + 1, bK y.l u, _, ⟨by omega, by rw [dX (by omega) hyr, ← hrel.2]; unfold meanP; simp [h2, h3, h4]⟩, rfl, ZU, rfl⟩)))))))))
      | false =>
        refine Zj (Zj (Zj (Zj (Zj (Zj (Zj (Zj (Zj (Zj (Zj (Zj ?_)))))))))))
        exact Zw (.bool false) (Zw (.bool false) (Zw (.bool false) (kP (zS (zB (z7 (Zv (.int .i64 (i : Int)) (Zu (k := .i64) (((i + 1 : Nat) : Int)) (IntWalk.i64_in _ (by omega)) (Zv (.int .i64 ((i + 1 : Nat) : Int)) (zP (zU (m' := xs1.length - (i + 1)) (by omega) ⟨i + 1, false, _, ⟨by omega, by rw [dX (by omega) hyr, ← hrel.2]; unfold meanP; simp [h2, h3]⟩, rfl, ZU, rfl⟩)))))))))))
  refine Zd (p := (i : Int) < (xs1.length : Int)) false (decide_eq_false (h1)) (ZX (y8 (zD (zN (zI (zB (ZO (Zl 1 ⟨b1, #[.slice (some ⟨g1, 0, none⟩) xs1.length c1], 25⟩ (off := 0) (.agg #[.slice (some ⟨g1, 0, none⟩) xs1.length c1]) ?_))))))))
  refine yK (k := 23) (args := #[.agg #[.slice (some ⟨g1, 0, none⟩) xs1.length c1]]) (fun v' L' => ∃ ob', L' = ob' ++ (⟨b2, (y5 u).cells, 44⟩ :: (⟨b1, #[.slice (some ⟨g1, 0, none⟩) xs1.length c1], 25⟩ :: (⟨g1, cur1, 47⟩ :: (q1)))) ∧ SetO v' (xB r) ob') (by kernel_rfl) (fun _ => by kernel_rfl) (fun w hO => (gSet_any (some ⟨g1, 0, none⟩) c1 xs1 w (RgA.inn ha1 rfl hO (fun x hx => by rw [List.mem_singleton] at hx; simp [hx]) (fun x hx => by simp [hx]) (by rw [hx1]; exact hJ (rgMay.facts mr).1)) (ht.on hO.below)).mono fun e w' ⟨v', ob', k1, k2, k3⟩ => ⟨v', _, k1, ⟨ob', rfl, by rw [hx1] at k2; exact k2⟩, Own.joinN hO k3⟩) (fun v2 L2 hv2 => ?_)
  obtain ⟨o2, rfl, hr2⟩ := hv2
  obtain ⟨V2, U2, c2, d2, rfl⟩ := hr2.form
  refine Za (.agg #[.slice none 0 0, .slice none 0 0]) (fun b3 => Zs 0 ⟨b3, #[.slice none 0 0, .slice none 0 0], 31⟩ (off := 0) (.agg #[.slice V2 ((xB r).rel.length) c2, .slice U2 ((xB r).pre.length) d2]) (ZR (Zc (k := 11) (args := #[]) (.bool true) (fun w hO => awake7_any w (ht.on hO.below)) (Zv (.bool true) (Zl 0 ⟨b3, #[.slice V2 ((xB r).rel.length) c2, .slice U2 ((xB r).pre.length) d2], 31⟩ (off := 0) (.agg #[.slice V2 ((xB r).rel.length) c2, .slice U2 ((xB r).pre.length) d2]) (Zc (k := 29) (args := #[.agg #[.slice V2 ((xB r).rel.length) c2, .slice U2 ((xB r).pre.length) d2]]) (.bool true) (fun w hO => ret_b ((fQ r)).may (rsetMay_any V2 U2 c2 d2 (xB r) w (SetO.inn hr2 hO (fun x hx => by simp [hx]) ((fQ r)) (by decide)))) (Zv (.bool true) (Zv (.bool true) ?_))))))))
  refine Zl 0 ⟨b3, #[.slice V2 ((xB r).rel.length) c2, .slice U2 ((xB r).pre.length) d2], 31⟩ (off := 0) (.agg #[.slice V2 ((xB r).rel.length) c2, .slice U2 ((xB r).pre.length) d2]) (mJ ⟨b2, (y5 u).cells, 44⟩ (off := 0) (y5 u) (by kernel_rfl) rfl (by simp) (by kernel_rfl) (by kernel_rfl) (Zc (k := 30) (args := #[.agg #[.slice V2 ((xB r).rel.length) c2, .slice U2 ((xB r).pre.length) d2], y5 u]) (.bool q) (fun w hO => ret_b (by rw [hrel.2, mean_all mr mu (by omega)]) (fN V2 U2 c2 d2 (xB r) u w (SetO.inn hr2 hO (fun x hx => by simp [hx]) ((fQ r)) (by decide)) su)) (Zv (.bool q) ?_)))
  cases h5 : q with
  | true =>
    exact Zv (.bool true) (Zv (.bool true) (Zv (.bool true) (ZN (zC (ZF (.bool true) Tryz.results6 (fun w hO => ⟨rfl, hO.below⟩))))))
  | false =>
    exact Zv (.bool true) (Zv (.bool true) (Zv (.bool true) (ZN (zC (ZF (.bool true) Tryz.results6 (fun w hO => ⟨rfl, hO.below⟩))))))
end Go.Proofs.YtkljdpiaghepfaaGreatDoor
end

section
/-
  ScopeMeans: for every input the call returns true, and each argument reads afterwards as it read before. Conditions: none but the row's own, that the listed package-level variables read as the program's text lays them.
-/
namespace Go.Proofs.YtkljdpiaghepfaaGreatDoor.scopeMeans
open Go.ChangeShapes Go.WideShapes Go.ChangeAt Go.RowKit
open Go.ChangeMaps (open_string shut_string)
set_option linter.unusedVariables false

set_option maxRecDepth 100000 in
theorem contract (H : Type) (enc : TypeId × Value → H) (W : World) (base : Nat) (args : Array Value) (ds gs : List (DataW H)) (before : List MemPlace)
    (hval : ∀ (j : Nat) t v, Tryz.f6.params[j]? = some t → args[j]? = some v → Value.okWide Tryz.prog W .any base t v)
    (hW : DataW.Whole enc Tryz.prog Tryz.f6.params.toList Rows.scopeMeansSpec.vars false W args.toList ds gs before) (hL : laidMetH Tryz.prog Rows.scopeMeansRow.laid W) (hS : W.ShapedOpen Tryz.prog) :
    Calls Tryz.prog 6 args W fun e W' => ∃ v, e = .returned v ∧ Rows.scopeMeansSpec.post enc Tryz.prog Tryz.f6 false true false false W args v W' := by
  have ht : HasLib W := hasLib_of (hasTab_of hL (by rfl)) hS
  have hW' := hW
  obtain ⟨p, q, hA0, hV, rfl, hfz, hnd⟩ := hW
  have hA : DataW.TrodAll enc Tryz.prog W 0 (fun _ => true) true Tryz.f6.params.toList args.toList ds p := hA0
  rw [Tryz.params6] at hA hval
  obtain ⟨v0, vs0, d0, ds0, p0, q0, hargs, rfl, rfl, h0, r0⟩ := trodAll_cons hA
  obtain ⟨rfl, rfl, rfl⟩ := trodAll_nil r0
  obtain rfl : args = #[v0] := by cases args; simp_all
  obtain ⟨rfl, rfl⟩ := trodVars_none hV
  clear hA0
  obtain ⟨l, l_reads, l_len⟩ := open_nums (hval 0 40 v0 rfl rfl) h0
  refine (scopeMeans.law W v0 l l_reads l_len ht).mono fun e W' ⟨he, hb⟩ => ?_
  subst he
  exact ⟨_, rfl, law_end laidOut (fun t ht => by rw [Tryz.params6] at ht; simp at ht; subst ht; exact ⟨by kernel_rfl, of_decide_eq_true (by kernel_rfl)⟩) rfl rfl Tryz.underlying4 hW' (by rfl) hb⟩

noncomputable def laidWorld (os : Os) : World :=
  { World.holding Tryz.prog os ⟨#[], #[], []⟩ with heap := layAt (layAt (layAt (layAt (layAt ((World.holding Tryz.prog os ⟨#[], #[], []⟩).heap) 4 Rows.laid_math_bits_deBruijn32tab) 5 Rows.laid_math_bits_deBruijn64tab) 3 Rows.laid_internal_strconv_uint64pow10) 2 Rows.laid_unicode_utf8_acceptRanges) 1 Rows.laid_unicode_utf8_first }
theorem laid_met (os : Os) : laidMet Tryz.prog Rows.scopeMeansRow.laid ((laidWorld os).forCall (fun _ _ => 0) ⟨#[], #[.slice none 0 0], []⟩).memory :=
  laidMet_of_run' 8 (by kernel_rfl) (by kernel_rfl)
theorem reads (os : Os) {H : Type} (enc : TypeId × Value → H) : ∃ places, DataW.whole enc Tryz.prog ((laidWorld os).forCall (fun _ _ => 0) ⟨#[], #[.slice none 0 0], []⟩).memory Tryz.f6.params.toList Rows.scopeMeansSpec.vars false (#[.slice none 0 0] : Array Value).toList 8 = some ([.nil], [], places) :=
  ⟨[], by kernel_rfl⟩

set_option maxRecDepth 100000 in
theorem lifted (os : Os) (started : os.Started) (H : Type) (enc : TypeId × Value → H) (F : Stop.Interp) :
    ReturnsInHanded {} Tryz.checked os 6 .any ((OpenSpec.ofChange Rows.scopeMeansSpec).preRow enc Tryz.prog Tryz.f6 Rows.scopeMeansRow.domain false Rows.scopeMeansRow.laid) (((OpenSpec.ofChange Rows.scopeMeansSpec).at F).post enc Tryz.prog Tryz.f6 false true false false) := by
  obtain ⟨places, hx⟩ := reads os enc
  refine returnsInHanded_of_row (C := Tryz.checked) (s := OpenSpec.ofChange Rows.scopeMeansSpec) own started (by kernel_rfl) Tryz.func6
    (witness_row_at (enc := enc) (C := Tryz.checked) false (laidWorld os) #[.slice none 0 0] rfl (by kernel_rfl) (by kernel_rfl) (by kernel_rfl)
      (OpenSpec.preRow_of_cond 8 hx (by kernel_rfl) (fun k hk => by cases hk) (by kernel_rfl) (laid_met os))) ?_
  intro W base args ds gs before hval hW _ _ _ hL hS _
  exact contract H enc W base args ds gs before hval hW hL hS

theorem said : Rows.ScopeMeansSaid :=
  OpenClaim.holds_of_cond 6 Tryz.f6 rfl rfl rfl rfl rfl rfl rfl ⟨rfl, rfl, rfl, rfl, rfl⟩ rfl rfl rfl rfl rfl (by kernel_rfl) Tryz.func6 (by kernel_rfl)
    (of_decide_eq_true (by kernel_rfl)) (by unfold Func.isWrapper; first | (rw [if_pos (by decide +kernel)]; kernel_rfl) | (rw [if_neg (by decide +kernel)]; exact ⟨rfl, rfl⟩))
    (fun os started H enc _ F => by rw [OpenClaim.pre_eq_preRow]; exact lifted os started H enc F)

theorem tI (f : FuncId) (fn : Func) (hf : Tryz.pinned.checked.prog.funcNamed "linchpin/linchpinlaw7.ScopeMeans" = some f) (hfn : Tryz.pinned.checked.prog.funcs[f]? = some fn) :
    false = Tryz.pinned.checked.prog.looks [] ∧ ∀ (j : Nat) t, fn.params[j]? = some t → Tryz.pinned.checked.prog.wantsStandIn t = false := by
  obtain rfl : f = 6 := Option.some.inj ((show Tryz.prog.funcNamed "linchpin/linchpinlaw7.ScopeMeans" = some 6 by kernel_rfl).symm.trans hf) |>.symm
  obtain rfl : fn = Tryz.f6 := (Option.some.inj (Tryz.func6.symm.trans hfn)).symm
  refine ⟨by kernel_rfl, fun j t ht => ?_⟩
  rw [Tryz.params6] at ht
  have hm := Array.mem_of_getElem? ht
  simp at hm
  subst hm
  exact (show Tryz.prog.wantsStandIn 40 = false by kernel_rfl)

theorem card : Rows.ScopeMeansCardSaid :=
  Claim7.holds_tied_plain_at .later [] _ _ _ _ said (fun _ h => by cases h) (by kernel_rfl) (fun _ h => by cases h) scopeMeans_row_tie rfl ⟨rfl, rfl⟩ (by kernel_rfl) rfl tI (by kernel_rfl)

#print axioms card
end Go.Proofs.YtkljdpiaghepfaaGreatDoor.scopeMeans
end
