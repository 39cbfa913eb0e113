/-
  What the statement's proof leans on: the ways of walking, tO mathematics, and what the program's functions return; each theorem says on what conditions.
-/
import Derived.Deep.RegionHeld3
import Derived.Outline
import Derived.Test.YtkljdpiaghepfaaGreatDoorMG3
set_option maxRecDepth 1000000
set_option maxHeartbeats 8000000
set_option linter.unusedVariables false
set_option linter.unusedSimpArgs false
set_option linter.unnecessarySimpa false
namespace Go.Proofs.YtkljdpiaghepfaaGreatDoor
open Go.RowKit

section
def qZ (sep : List UInt8) : List (List UInt8) → List UInt8
  | [] => []
  | [x] => x
  | x :: y :: l => x ++ sep ++ qZ sep (y :: l)
theorem dL (sep x y : List UInt8) (l : List (List UInt8)) : qZ sep (x :: y :: l) = x ++ sep ++ qZ sep (y :: l) := rfl
theorem joinB_snoc (sep x : List UInt8) : ∀ (l : List (List UInt8)), qZ sep (l ++ [x]) = if l = [] then x else qZ sep l ++ sep ++ x
  | [] => rfl
  | [y] => rfl
  | y :: z :: l => by
    rw [if_neg (by simp)]
    show y ++ sep ++ qZ sep ((z :: l) ++ [x]) = y ++ sep ++ qZ sep (z :: l) ++ sep ++ x
    rw [joinB_snoc sep x (z :: l), if_neg (by simp)]
    simp only [List.append_assoc]
def sumN : List Nat → Nat
  | [] => 0
  | n :: l => n + sumN l
theorem joinB_len (sep : List UInt8) : ∀ (l : List (List UInt8)), (qZ sep l).length = sumN (l.map (·.length)) + (l.length - 1) * sep.length
  | [] => by simp [qZ, sumN]
  | [x] => by simp [qZ, sumN]
  | x :: y :: l => by
    rw [dL, List.length_append, List.length_append, joinB_len sep (y :: l)]
    show x.length + sep.length + (sumN ((y :: l).map (·.length)) + ((y :: l).length - 1) * sep.length) = x.length + sumN ((y :: l).map (·.length)) + ((y :: l).length + 1 - 1) * sep.length
    have e : ((y :: l).length + 1 - 1) * sep.length = ((y :: l).length - 1) * sep.length + sep.length := by
      rw [show (y :: l).length + 1 - 1 = ((y :: l).length - 1) + 1 from by simp, Nat.add_mul, Nat.one_mul]
    omega
def xL (a : List Co) : List UInt8 := qZ [44, 32] (a.map Co.print)
def kP (r : List (List Co)) : List UInt8 := qZ [32, 124, 124, 32] (r.map xL)
def fewA (a : List Co) : Bool := decide (1 ≤ a.length ∧ a.length ≤ 6) && a.all Co.may
def fewR (r : List (List Co)) : Bool := decide (1 ≤ r.length ∧ r.length ≤ 6) && r.all fewA
def rgMay (r : List (List Co)) : Bool := fewR r && decide ((kP r).length ≤ 96)
def fB (r : List (List Co)) : List UInt8 := if rgMay r then kP r else []
theorem fewA.facts {a : List Co} (h : fewA a = true) : (1 ≤ a.length ∧ a.length ≤ 6) ∧ ∀ c ∈ a, c.may = true := by
  unfold fewA at h
  rw [Bool.and_eq_true, decide_eq_true_eq] at h
  exact ⟨h.1, List.all_eq_true.1 h.2⟩
theorem fewR.facts {r : List (List Co)} (h : fewR r = true) : (1 ≤ r.length ∧ r.length ≤ 6) ∧ ∀ a ∈ r, fewA a = true := by
  unfold fewR at h
  rw [Bool.and_eq_true, decide_eq_true_eq] at h
  exact ⟨h.1, List.all_eq_true.1 h.2⟩
theorem rgMay.facts {r : List (List Co)} (h : rgMay r = true) : fewR r = true ∧ (kP r).length ≤ 96 := by
  unfold rgMay at h
  rw [Bool.and_eq_true, decide_eq_true_eq] at h
  exact h
def g0 : List UInt8 → List UInt8
  | [] => []
  | c :: l => if c = 32 then g0 l else c :: l
def kI (s : List UInt8) : List UInt8 := (g0 (g0 s).reverse).reverse
def gO : List UInt8 → List UInt8 → List (List UInt8)
  | acc, [] => [acc]
  | acc, [c] => [acc ++ [c]]
  | acc, c :: d :: r => if c = 124 ∧ d = 124 then acc :: gO [] r else gO (acc ++ [c]) (d :: r)
def wG {α β : Type} (f : α → Option β) : List α → Option (List β)
  | [] => some []
  | x :: l => match f x, wG f l with
    | some y, some m => some (y :: m)
    | _, _ => none
theorem allO_cons {α β : Type} {f : α → Option β} {x : α} {l : List α} {y : β} {m : List β} (h1 : f x = some y) (h2 : wG f l = some m) : wG f (x :: l) = some (y :: m) := by
  show (match f x, wG f l with | some y, some m => some (y :: m) | _, _ => none) = _
  rw [h1, h2]
theorem allO_inv {α β : Type} {f : α → Option β} {x : α} {l : List α} {m : List β} (h : wG f (x :: l) = some m) : ∃ y m', m = y :: m' ∧ f x = some y ∧ wG f l = some m' := by
  have h : (match f x, wG f l with | some y, some m => some (y :: m) | _, _ => none) = some m := h
  cases h1 : f x with
  | none => rw [h1] at h; cases h
  | some y =>
    cases h2 : wG f l with
    | none => rw [h1, h2] at h; cases h
    | some m' => rw [h1, h2] at h; injection h with h; exact ⟨y, m', h.symm, rfl, rfl⟩
theorem allO_none {α β : Type} {f : α → Option β} : ∀ {l : List α} {x : α}, x ∈ l → f x = none → wG f l = none
  | y :: l, x, hx, h => by
    show (match f y, wG f l with | some y, some m => some (y :: m) | _, _ => none) = _
    rcases List.mem_cons.1 hx with rfl | hx
    · rw [h]
    · rw [allO_none hx h]; cases f y <;> rfl
theorem dZ {α β : Type} {f : α → Option β} : ∀ {l : List α} {m : List β}, wG f l = some m → m.length = l.length
  | [], m, h => by injection h with h; subst h; rfl
  | x :: l, m, h => by
    obtain ⟨y, m', rfl, _, h2⟩ := allO_inv h
    rw [List.length_cons, List.length_cons, dZ h2]
theorem allO_app {α β : Type} {f : α → Option β} {b : List α} {n : List β} (hb : wG f b = some n) : ∀ {a : List α} {m : List β}, wG f a = some m → wG f (a ++ b) = some (m ++ n)
  | [], m, h => by injection h with h; subst h; exact hb
  | x :: a, m, h => by
    obtain ⟨y, m', rfl, h1, h2⟩ := allO_inv h
    exact allO_cons h1 (allO_app hb h2)
theorem allO_snoc {α β : Type} {f : α → Option β} {a : List α} {m : List β} {x : α} {y : β} (h : wG f a = some m) (h1 : f x = some y) : wG f (a ++ [x]) = some (m ++ [y]) := allO_app (allO_cons h1 rfl) h
theorem allO_back {α β : Type} {f : α → Option β} : ∀ {l : List α} {m : List β}, wG f l = some m → ∀ y ∈ m, ∃ x ∈ l, f x = some y
  | [], m, h, y, hy => by injection h with h; subst h; cases hy
  | z :: l, m, h, y, hy => by
    obtain ⟨w, m', rfl, h1, h2⟩ := allO_inv h
    rcases List.mem_cons.1 hy with rfl | hy
    · exact ⟨z, List.mem_cons_self .., h1⟩
    · obtain ⟨x, hx, e⟩ := allO_back h2 y hy
      exact ⟨x, List.mem_cons_of_mem _ hx, e⟩
def parseP (s : List UInt8) : Option Co := qL (kI s)
def parseA (s : List UInt8) : Option (List Co) := wG parseP (yZ 44 [] s)
def qX (s : List UInt8) : Option (List (List Co)) := wG parseA (gO [] s)
def kG (s : List UInt8) : Option (List (List Co)) := if 96 < s.length then none else (qX s).filter rgMay
def jN (s : List UInt8) : Int := if 96 < s.length then 3 else match qX s with
  | none => 6
  | some r => if fewR r then (if (kP r).length ≤ 96 then 0 else 3) else 6
def blanks (n : Nat) : List UInt8 := List.replicate n 32
theorem altsL_ne : ∀ (s acc : List UInt8), gO acc s ≠ []
  | [], acc => by simp [gO]
  | [c], acc => by simp [gO]
  | c :: d :: r, acc => by
    rw [gO]
    split
    · simp
    · exact altsL_ne (d :: r) _
theorem altsL_le : ∀ (s acc : List UInt8), ∀ x ∈ gO acc s, x.length ≤ acc.length + s.length
  | [], acc, x, hx => by
    have : x = acc := by simpa [gO] using hx
    subst this; simp
  | [c], acc, x, hx => by
    have : x = acc ++ [c] := by simpa [gO] using hx
    subst this; simp
  | c :: d :: r, acc, x, hx => by
    rw [gO] at hx
    split at hx
    · rcases List.mem_cons.1 hx with rfl | hx
      · simp only [List.length_cons]; omega
      · have := altsL_le r [] x hx
        simp only [List.length_cons, List.length_nil] at this ⊢; omega
    · have := altsL_le (d :: r) (acc ++ [c]) x hx
      simp only [List.length_append, List.length_cons, List.length_nil] at this ⊢; omega
theorem t7 : ∀ (s acc : List UInt8), (gO acc s).length ≤ s.length + 1
  | [], acc => by simp [gO]
  | [c], acc => by simp [gO]
  | c :: d :: r, acc => by
    rw [gO]
    split
    · have := t7 r []; simp only [List.length_cons]; omega
    · have := t7 (d :: r) (acc ++ [c]); simp only [List.length_cons] at this ⊢; omega
inductive Two {α β : Type} (R : α → β → Prop) : List α → List β → Prop
  | nil : Two R [] []
  | cons {x : α} {y : β} {l : List α} {m : List β} (h : R x y) (t : Two R l m) : Two R (x :: l) (y :: m)
def SpellC (s : List UInt8) (c : Co) : Prop := ∃ n m, s = blanks n ++ c.text ++ blanks m
def SpellA (s : List UInt8) (a : List Co) : Prop := ∃ ps, s = yC 44 ps ∧ Two SpellC ps a ∧ ps ≠ []
def SpellR (s : List UInt8) (r : List (List Co)) : Prop := ∃ l, s = qZ [124, 124] l ∧ Two SpellA l r ∧ l ≠ []
theorem text_ne {c : Co} (h : c.may = true) : c.text ≠ [] := by
  intro e
  have := (fE c.text c).2 ⟨h, .inl rfl⟩
  rw [e] at this
  revert this
  have : qL [] = none := by decide
  rw [this]; simp
theorem mE {s : List UInt8} {r : List (List Co)} (h : kG s = some r) : jN s = 0 ∧ rgMay r = true ∧ qX s = some r ∧ s.length ≤ 96 := by
  unfold kG at h
  split at h
  · cases h
  · rename_i hl
    cases hp : qX s with
    | none => rw [hp] at h; cases h
    | some q =>
      rw [hp] at h
      unfold Option.filter at h
      simp only at h
      split at h
      · rename_i hm
        injection h with h
        subst h
        obtain ⟨k1, k2⟩ := rgMay.facts hm
        refine ⟨?_, hm, rfl, by omega⟩
        unfold jN
        rw [if_neg hl, hp]
        simp only
        rw [if_pos k1, if_pos k2]
      · cases h
theorem err_none {s : List UInt8} (h : kG s = none) : jN s = 3 ∨ jN s = 6 := by
  unfold kG at h
  unfold jN
  split at h
  · rename_i hl; rw [if_pos hl]; exact .inl rfl
  · rename_i hl
    rw [if_neg hl]
    cases hp : qX s with
    | none => exact .inr rfl
    | some q =>
      rw [hp] at h
      simp only
      cases h1 : fewR q with
      | false => exact .inr rfl
      | true =>
        rw [if_pos rfl]
        by_cases h2 : (kP q).length ≤ 96
        · exfalso
          have : rgMay q = true := by unfold rgMay; rw [h1, decide_eq_true h2]; rfl
          simp [Option.filter, this] at h
        · rw [if_neg h2]; exact .inl rfl
end
section
theorem nodup_le {α : Type} [DecidableEq α] : ∀ (l m : List α), l.Nodup → (∀ x ∈ l, x ∈ m) → l.length ≤ m.length
  | [], m, _, _ => Nat.zero_le _
  | x :: l, m, hn, hs => by
    have hx := hs x (List.mem_cons_self ..)
    have h1 := List.length_erase_of_mem hx
    have hn2 := List.nodup_cons.1 hn
    have h2 := nodup_le l (m.erase x) hn2.2 fun y hy => (List.mem_erase_of_ne (by rintro rfl; exact hn2.1 hy)).2 (hs y (List.mem_cons_of_mem _ hy))
    have h3 : 0 < m.length := List.length_pos_of_mem hx
    rw [List.length_cons]; omega
def flatC : List Sp → List Cu
  | [] => []
  | s :: l => s.lo :: s.hi :: flatC l
theorem flatC_len : ∀ (l : List Sp), (flatC l).length = 2 * l.length
  | [] => rfl
  | s :: l => by show (flatC l).length + 1 + 1 = 2 * (l.length + 1); rw [flatC_len l]; omega
theorem n4 : ∀ {l : List Sp} {x : Cu}, x ∈ flatC l → ∃ s ∈ l, x = s.lo ∨ x = s.hi
  | s :: l, x, h => by
    rcases List.mem_cons.1 h with e | h
    · exact ⟨s, List.mem_cons_self .., .inl e⟩
    · rcases List.mem_cons.1 h with e | h
      · exact ⟨s, List.mem_cons_self .., .inr e⟩
      · obtain ⟨t, ht, e⟩ := n4 h
        exact ⟨t, List.mem_cons_of_mem _ ht, e⟩
theorem flatC_nodup : ∀ {l : List Sp}, zN l = true → (flatC l).Nodup
  | [], _ => List.nodup_nil
  | s :: l, h => by
    have hs := xZ h
    have hm := y9 hs
    have hlt := uW hs
    have haf := gE h
    have far : ∀ x ∈ flatC l, zQ s.hi x < 0 := fun x hx => by
      obtain ⟨t, ht, e⟩ := n4 hx
      have tm := xG (kX h) t ht
      have t2 := y9 tm
      rcases e with rfl | rfl
      · exact haf t ht
      · exact xY hm.2 t2.1 t2.2 (haf t ht) (uW tm)
    have xm : ∀ x ∈ flatC l, x.may = true := fun x hx => by
      obtain ⟨t, ht, e⟩ := n4 hx
      have t2 := y9 (xG (kX h) t ht)
      rcases e with rfl | rfl
      · exact t2.1
      · exact t2.2
    refine List.nodup_cons.2 ⟨fun hx => ?_, List.nodup_cons.2 ⟨fun hx => ?_, flatC_nodup (kX h)⟩⟩
    · rcases List.mem_cons.1 hx with e | hx
      · rw [e, gC] at hlt; omega
      · have := xY hm.1 hm.2 (xm _ hx) hlt (far _ hx)
        rw [gC] at this; omega
    · have := far _ hx
      rw [gC] at this; omega
theorem row_half {l : List Sp} {C : List Cu} (h : zN l = true) (hc : ∀ s ∈ l, s.lo ∈ C ∧ s.hi ∈ C) : 2 * l.length ≤ C.length := by
  rw [← flatC_len]
  refine nodup_le _ _ (flatC_nodup h) fun x hx => ?_
  obtain ⟨s, hs, e⟩ := n4 hx
  rcases e with rfl | rfl
  · exact (hc s hs).1
  · exact (hc s hs).2
theorem pX {p : Cu → Cu → Bool} {l : List Sp} (hl : ∀ s ∈ l, s.may = true) (h : zN (g6 p [] (gB l)) = true) : (g6 p [] (gB l)).length ≤ 1 + l.length := by
  have h1 := row_half h (fM p (· ∈ gB l) (gB l) [] (fun c hc => hc) (fun s hs => by simp at hs))
  have h2 := cuts_len hl
  omega
theorem RF.make1 {l : List Sp} {n : Nat} (hl : ∀ s ∈ l, s.may = true) (hn : l.length ≤ n) : RF (uO l) (1 + n) := ⟨(wA hl).1, by
  have := pX (p := inL l) hl (wA hl).1
  unfold uO; omega⟩
theorem RF.or1 {a b : List Sp} {n m : Nat} (ha : RF a n) (hb : RF b m) : RF (orL a b) (1 + (n + m)) := RF.make1 (dY ha.may hb.may) (by rw [List.length_append]; have := ha.len; have := hb.len; omega)
theorem RF.and1 {a b : List Sp} {n m : Nat} (ha : RF a n) (hb : RF b m) : RF (g9 a b) (1 + (n + m)) := ⟨(mJ ha.may hb.may).1, by
  have h1 := pX (p := fun c d => inL a c d && inL b c d) (dY ha.may hb.may) (mJ ha.may hb.may).1
  have := ha.len; have := hb.len
  rw [List.length_append] at h1
  unfold g9; omega⟩
theorem RF.not1 {a : List Sp} {n : Nat} (ha : RF a n) : RF (jM a) (1 + n) := ⟨(bR ha.may).1, by
  have h1 := pX (p := fun c d => !inL a c d) (xG ha.may) (bR ha.may).1
  have := ha.len
  unfold jM; omega⟩
theorem RF.rel1 {a : List Sp} {n : Nat} (ha : RF a n) : RF (gW a) (1 + n) := RF.make1 (fI a) (by
  have := List.length_filter_le (fun s : Sp => s.may) (a.map u7)
  rw [List.length_map] at this
  have := ha.len; omega)
theorem SF.or1 {a b : St} {n m : Nat} (ha : SF a n) (hb : SF b m) : SF (orT a b) (1 + (n + m)) := ⟨ha.rel.or1 hb.rel, ha.pre.or1 hb.pre, ha.right.or hb.right⟩
theorem one_r1 (lo hi : Cu) : RF (kN lo hi) 1 := ⟨oneRow_may lo hi, by have := nG [] lo hi; unfold kN; simpa using this⟩
theorem wI (c : Co) : RF c.region 2 := by
  unfold Co.region
  split
  · split
    · exact (one_r1 _ _).not1
    · exact (one_r1 _ _).le (by decide)
  · exact nil_rf.le (by decide)
theorem mM (c : Co) : RF c.zone 1 := ⟨zone_may, by unfold Co.zone; split <;> simp⟩
def xW (a : List Co) : List Sp := a.foldl (fun l c => g9 l c.region) nV
def xU (a : List Co) : List Sp := a.foldl (fun l c => orL l c.zone) []
def yV (a : List Co) : St := ⟨gW (xW a), g9 (xW a) (xU a)⟩
def xH (r : List (List Co)) : St := r.foldl (fun s a => orT s (yV a)) gS
def zA (r : List (List Co)) : St := if rgMay r then xH r else gS
theorem mK (a : List Co) (c : Co) : xW (a ++ [c]) = g9 (xW a) c.region := by unfold xW; rw [List.foldl_append]; rfl
theorem fO (a : List Co) (c : Co) : xU (a ++ [c]) = orL (xU a) c.zone := by unfold xU; rw [List.foldl_append]; rfl
theorem wP (r : List (List Co)) (a : List Co) : xH (r ++ [a]) = orT (xH r) (yV a) := by unfold xH; rw [List.foldl_append]; rfl
theorem uK {α : Type} {P : List α → Prop} (h0 : P []) (h1 : ∀ l x, P l → P (l ++ [x])) (l : List α) : P l := by
  have : ∀ n (l : List α), l.length = n → P l := by
    intro n
    induction n with
    | zero => intro l hl; rw [List.length_eq_zero_iff.1 hl]; exact h0
    | succ n ih =>
      intro l hl
      have hne : l ≠ [] := by rintro rfl; simp at hl
      rw [← List.dropLast_concat_getLast hne]
      exact h1 _ _ (ih _ (by rw [List.length_dropLast, hl]; rfl))
  exact this _ l rfl
theorem vU (a : List Co) : RF (xW a) (1 + 3 * a.length) :=
  uK (P := fun a => RF (xW a) (1 + 3 * a.length)) whole_rf (fun l x h => by
    rw [mK, List.length_append]
    exact (h.and1 (wI x)).le (by simp; omega)) a
theorem bA (a : List Co) : RF (xU a) (2 * a.length) :=
  uK (P := fun a => RF (xU a) (2 * a.length)) nil_rf (fun l x h => by
    rw [fO, List.length_append]
    exact (h.or1 (mM x)).le (by simp; omega)) a
theorem kU (a : List Co) : SF (yV a) (2 + 5 * a.length) := ⟨(vU a).rel1.le (by omega), ((vU a).and1 (bA a)).le (by omega), makeRel_right (xG (vU a).may)⟩
theorem orAll_sf {n : Nat} (r : List (List Co)) : (∀ a ∈ r, a.length ≤ n) → SF (xH r) (r.length * (3 + 5 * n)) :=
  uK (P := fun r => (∀ a ∈ r, a.length ≤ n) → SF (xH r) (r.length * (3 + 5 * n))) (fun _ => by rw [List.length_nil, Nat.zero_mul]; exact none_sf) (fun l x h ha => by
    rw [wP, List.length_append]
    have h1 := h fun a hm => ha a (List.mem_append.2 (.inl hm))
    have h2 := (kU x).le (m := 2 + 5 * n) (by have := ha x (by simp); omega)
    refine (h1.or1 h2).le ?_
    show _ ≤ (l.length + 1) * (3 + 5 * n)
    rw [Nat.add_mul, Nat.one_mul]; omega) r
theorem orAll_few {r : List (List Co)} (h : fewR r = true) : SF (xH r) 198 := by
  obtain ⟨h1, h2⟩ := fewR.facts h
  refine (orAll_sf (n := 6) r fun a ha => ((fewA.facts (h2 a ha)).1).2).le ?_
  show r.length * 33 ≤ 198
  omega
theorem kC (r : List (List Co)) : SF (zA r) 198 := by
  unfold zA
  split
  · rename_i h; exact orAll_few (rgMay.facts h).1
  · exact none_sf.le (by decide)
theorem altRel_den (a : List Co) {x : Cu} (hx : x.may = true) (he : zQ x (y8 1) < 0) : den (xW a) x = a.all fun c => den c.region x :=
  uK (P := fun a => den (xW a) x = a.all fun c => den c.region x) (whole_den hx he) (fun l c h => by
    rw [mK, (mJ (vU l).may (wI c).may).2 x hx he, h]; simp) a
theorem altZone_den (a : List Co) {x : Cu} (hx : x.may = true) (he : zQ x (y8 1) < 0) : den (xU a) x = a.any fun c => den c.zone x :=
  uK (P := fun a => den (xU a) x = a.any fun c => den c.zone x) rfl (fun l c h => by
    rw [fO, (m7 (bA l).may (mM c).may).2 x hx he, h]; simp) a
theorem altRel_has (a : List Co) {v : Ver} (hv : v.may = true) : xJ (xW a) v = a.all fun c => xJ c.region v := by
  rw [vR (vU a).may hv, altRel_den a (qK hv) (jC hv)]
  congr 1; funext c; rw [vR (wI c).may hv]
theorem altZone_has (a : List Co) {v : Ver} (hv : v.may = true) : xJ (xU a) v = a.any fun c => xJ c.zone v := by
  rw [vR (bA a).may hv, altZone_den a (qK hv) (jC hv)]
  congr 1; funext c; rw [vR (mM c).may hv]
theorem altSet_has (a : List Co) {v : Ver} (hv : v.may = true) : qI (yV a) v = ((a.all fun c => xJ c.region v) && (decide (v.pre = []) || a.any fun c => xJ c.zone v)) := by
  rw [has_may (kU a) hv, ← altRel_has a hv, ← altZone_has a hv]
  by_cases hp : v.pre = []
  · rw [if_pos hp, decide_eq_true hp, Bool.true_or, Bool.and_true]
    exact makeRel_has (vU a).may hv hp
  · rw [if_neg hp, decide_eq_false hp, Bool.false_or]
    exact has_and4 (vU a).may (bA a).may hv
theorem uC (r : List (List Co)) : ∃ n, SF (xH r) n := by
  have : ∃ n, ∀ a ∈ r, a.length ≤ n := by
    induction r with
    | nil => exact ⟨0, fun a h => by simp at h⟩
    | cons a r ih =>
      obtain ⟨n, h⟩ := ih
      refine ⟨a.length + n, fun b hb => ?_⟩
      rcases List.mem_cons.1 hb with rfl | hb
      · omega
      · have := h b hb; omega
  obtain ⟨n, h⟩ := this
  exact ⟨_, orAll_sf r h⟩
theorem orAll_has (r : List (List Co)) {v : Ver} (hv : v.may = true) : qI (xH r) v = r.any fun a => qI (yV a) v :=
  uK (P := fun r => qI (xH r) v = r.any fun a => qI (yV a) v) setHas_none (fun l a h => by
    obtain ⟨n, hl⟩ := uC l
    rw [wP, setHas_or hl (kU a) hv, h]; simp) r
theorem orAll_rel (r : List (List Co)) {x : Cu} (hx : x.may = true) (he : zQ x (y8 1) < 0) : den (xH r).rel x = r.any fun a => den (yV a).rel x :=
  uK (P := fun r => den (xH r).rel x = r.any fun a => den (yV a).rel x) rfl (fun l a h => by
    obtain ⟨n, hl⟩ := uC l
    rw [wP]
    show den (orL _ _) x = _
    rw [(m7 hl.rel.may (kU a).rel.may).2 x hx he, h]; simp) r
theorem orAll_pre (r : List (List Co)) {x : Cu} (hx : x.may = true) (he : zQ x (y8 1) < 0) : den (xH r).pre x = r.any fun a => den (yV a).pre x :=
  uK (P := fun r => den (xH r).pre x = r.any fun a => den (yV a).pre x) rfl (fun l a h => by
    obtain ⟨n, hl⟩ := uC l
    rw [wP]
    show den (orL _ _) x = _
    rw [(m7 hl.pre.may (kU a).pre.may).2 x hx he, h]; simp) r
theorem orAll_app (r q : List (List Co)) : xH (r ++ q) = orT (xH r) (xH q) := by
  obtain ⟨n, hr⟩ := uC r
  obtain ⟨m, hq⟩ := uC q
  obtain ⟨k, hk⟩ := uC (r ++ q)
  refine St.eq (j5 _ _ hk.rel.may (hr.rel.or1 hq.rel).may fun x hx he => ?_) (j5 _ _ hk.pre.may (hr.pre.or1 hq.pre).may fun x hx he => ?_)
  · show _ = den (orL _ _) x
    rw [orAll_rel _ hx he, (m7 hr.rel.may hq.rel.may).2 x hx he, orAll_rel r hx he, orAll_rel q hx he, List.any_append]
  · show _ = den (orL _ _) x
    rw [orAll_pre _ hx he, (m7 hr.pre.may hq.pre.may).2 x hx he, orAll_pre r hx he, orAll_pre q hx he, List.any_append]
theorem orT_none {s : St} {n : Nat} (h : SF s n) : orT gS s = s := St.eq
  (j5 _ _ (nil_rf.or1 h.rel).may h.rel.may fun x hx he => by show den (orL [] _) x = _; rw [(m7 nil_rf.may h.rel.may).2 x hx he]; rfl)
  (j5 _ _ (nil_rf.or1 h.pre).may h.pre.may fun x hx he => by show den (orL [] _) x = _; rw [(m7 nil_rf.may h.pre.may).2 x hx he]; rfl)
theorem orAll_one (a : List Co) : xH [a] = yV a := orT_none (kU a)
theorem joinB_mem (sep : List UInt8) : ∀ {l : List (List UInt8)} {x : List UInt8}, x ∈ l → x.length ≤ (qZ sep l).length
  | [y], x, h => by rw [List.mem_singleton.1 h]; exact Nat.le_refl _
  | y :: z :: l, x, h => by
    rw [dL, List.length_append, List.length_append]
    rcases List.mem_cons.1 h with rfl | h
    · omega
    · have := joinB_mem sep h; omega
theorem one_may {r : List (List Co)} {a : List Co} (h : rgMay r = true) (ha : a ∈ r) : rgMay [a] = true := by
  obtain ⟨h1, h2⟩ := rgMay.facts h
  obtain ⟨h3, h4⟩ := fewR.facts h1
  unfold rgMay fewR
  have : (kP [a]).length ≤ 96 := Nat.le_trans (joinB_mem _ (List.mem_map.2 ⟨a, ha, rfl⟩) : (xL a).length ≤ _) h2
  rw [decide_eq_true this]
  simp [h4 a ha]
theorem rgSet_one {r : List (List Co)} {a : List Co} (h : rgMay r = true) (ha : a ∈ r) : zA [a] = yV a := by
  unfold zA
  rw [if_pos (one_may h ha), orAll_one]
theorem rgSet_has {r : List (List Co)} (h : rgMay r = true) {v : Ver} (hv : v.may = true) : qI (zA r) v = r.any fun a => (a.all fun c => xJ c.region v) && (decide (v.pre = []) || a.any fun c => xJ c.zone v) := by
  unfold zA
  rw [if_pos h, orAll_has r hv]
  congr 1; funext a; exact altSet_has a hv
theorem within_orT {s t : St} {n m : Nat} (hs : SF s n) (ht : SF t m) : andT s (orT s t) = s := St.eq (within_or_l hs.rel.may hs.rel.may ht.rel.may (within_self hs.rel.may)) (within_or_l hs.pre.may hs.pre.may ht.pre.may (within_self hs.pre.may))
theorem alt_less (a : List Co) (c : Co) : g9 (yV (a ++ [c])).rel (yV a).rel = (yV (a ++ [c])).rel := by
  refine rel_ext (mJ (kU _).rel.may (kU a).rel.may).1 (kU _).rel.may ((kU _).right.and (kU a).right) (kU _).right fun v hv hp => ?_
  rw [has_and4 (kU _).rel.may (kU a).rel.may hv]
  have e : ∀ b, xJ (yV b).rel v = b.all fun c => xJ c.region v := fun b => (makeRel_has (vU b).may hv hp).trans (altRel_has b hv)
  rw [e, e, List.all_append]
  cases a.all fun c => xJ c.region v <;> simp
end
section
theorem wC {W : World} {v : Value} {l : List Int} (hv : ReadsI W W.heap.size v l) (hl : l.length ≤ 9223372036854775807) (i : Nat) (n : Int) (hi : i ≤ 1000000) (hn : 0 < n) (hn2 : n ≤ 1000000) {k : Int} (hk : plc (atL l i) n = k) :
    ∀ w, Below W.heap.size W w → Calls Tryz.prog 51 #[v, .int .i64 i, .int .i64 n] w fun e w' => e = .returned (.int .i64 k) ∧ Below w.heap.size w w' := fun w hb => by
  have h := from_any v l i n w ((hv.below hb).more hb.size) hl hi hn hn2
  rw [hk] at h
  exact h.mono fun _ _ ⟨e1, e2⟩ => ⟨e1, e2 ▸ Below.refl _ _⟩
theorem jU (v : Int) (n : Nat) (hn : 0 < n) : ∃ k : Nat, plc v n = (k : Int) ∧ k < n := by
  have h := plc_in v n (by omega)
  exact ⟨(plc v n).toNat, (Int.toNat_of_nonneg h.1).symm, by omega⟩
theorem rd_num : ∀ (k : Nat), k < 8 → kF Tryz.prog 3 Z9 k = some (.int .i64 (wQ k))
  | 0, _ => by kernel_rfl
  | 1, _ => by kernel_rfl
  | 2, _ => by kernel_rfl
  | 3, _ => by kernel_rfl
  | 4, _ => by kernel_rfl
  | 5, _ => by kernel_rfl
  | 6, _ => by kernel_rfl
  | 7, _ => by kernel_rfl
theorem rd_pre : ∀ (k : Nat), k < 14 → kF Tryz.prog 9 #[.string ⟨#[]⟩, .string ⟨#[]⟩, .string ⟨#[]⟩, .string ⟨#[]⟩, .string ⟨#[48]⟩, .string ⟨#[49]⟩, .string ⟨#[50]⟩, .string ⟨#[49, 49]⟩, .string ⟨#[97]⟩, .string ⟨#[97, 46, 49]⟩, .string ⟨#[97, 46, 98]⟩, .string ⟨#[98]⟩, .string ⟨#[48, 46, 48]⟩, .string ⟨#[114, 99, 46, 49]⟩] k = some (.string (mkS (wO k)))
  | 0, _ => by kernel_rfl
  | 1, _ => by kernel_rfl
  | 2, _ => by kernel_rfl
  | 3, _ => by kernel_rfl
  | 4, _ => by kernel_rfl
  | 5, _ => by kernel_rfl
  | 6, _ => by kernel_rfl
  | 7, _ => by kernel_rfl
  | 8, _ => by kernel_rfl
  | 9, _ => by kernel_rfl
  | 10, _ => by kernel_rfl
  | 11, _ => by kernel_rfl
  | 12, _ => by kernel_rfl
  | 13, _ => by kernel_rfl
theorem rd_bld : ∀ (k : Nat), k < 6 → kF Tryz.prog 9 #[.string ⟨#[]⟩, .string ⟨#[]⟩, .string ⟨#[]⟩, .string ⟨#[]⟩, .string ⟨#[48, 48, 55]⟩, .string ⟨#[120, 46, 49]⟩] k = some (.string (mkS (bldT k)))
  | 0, _ => by kernel_rfl
  | 1, _ => by kernel_rfl
  | 2, _ => by kernel_rfl
  | 3, _ => by kernel_rfl
  | 4, _ => by kernel_rfl
  | 5, _ => by kernel_rfl
theorem gen_any (v : Value) (l : List Int) (i : Nat) (W : World) (hv : ReadsI W W.heap.size v l) (hl : l.length ≤ 9223372036854775807) (hi : i ≤ 100000) :
    Calls Tryz.prog 26 #[v, .int .i64 (i : Int)] W fun e w' => e = .returned (yR (zR l i)) ∧ Below W.heap.size W w' := by
  obtain ⟨k0, e0, q0⟩ := jU (atL l i) 8 (by omega)
  have f0 := wC hv hl i 8 (by omega) (by omega) (by omega) e0
  obtain ⟨k1, e1, q1⟩ := jU (atL l (i + 1)) 8 (by omega)
  have f1 := wC hv hl (i + 1) 8 (by omega) (by omega) (by omega) e1
  obtain ⟨k2, e2, q2⟩ := jU (atL l (i + 2)) 8 (by omega)
  have f2 := wC hv hl (i + 2) 8 (by omega) (by omega) (by omega) e2
  obtain ⟨k3, e3, q3⟩ := jU (atL l (i + 3)) 14 (by omega)
  have f3 := wC hv hl (i + 3) 14 (by omega) (by omega) (by omega) e3
  obtain ⟨k4, e4, q4⟩ := jU (atL l (i + 4)) 6 (by omega)
  have f4 := wC hv hl (i + 4) 6 (by omega) (by omega) (by omega) e4
  have hg : zR l i = ⟨wQ k0, wQ k1, wQ k2, wO k3, bldT k4⟩ := by unfold zR; rw [show plc (atL l i) 8 = _ from e0, show plc (atL l (i + 1)) 8 = _ from e1, show plc (atL l (i + 2)) 8 = _ from e2, show plc (atL l (i + 3)) 14 = _ from e3, show plc (atL l (i + 4)) 6 = _ from e4]; rfl
  rw [hg]
  refine Z2 (n := 41) Tryz.func26 rfl (ZO (Za (.agg Z7) (fun b1 => ZR (Zv (.agg Z9) (Za (.agg #[.int .i64 0, .int .i64 0, .int .i64 0, .int .i64 0, .int .i64 0, .int .i64 0, .int .i64 0, .int .i64 0]) (fun b2 => Zs 0 ⟨b2, #[.int .i64 0, .int .i64 0, .int .i64 0, .int .i64 0, .int .i64 0, .int .i64 0, .int .i64 0, .int .i64 0], 70⟩ (off := 0) (.agg Z9) (zU ?_)))))))
  refine zF (ZO (Zv (.agg #[.string ⟨#[]⟩, .string ⟨#[]⟩, .string ⟨#[]⟩, .string ⟨#[]⟩, .string ⟨#[48]⟩, .string ⟨#[49]⟩, .string ⟨#[50]⟩, .string ⟨#[49, 49]⟩, .string ⟨#[97]⟩, .string ⟨#[97, 46, 49]⟩, .string ⟨#[97, 46, 98]⟩, .string ⟨#[98]⟩, .string ⟨#[48, 46, 48]⟩, .string ⟨#[114, 99, 46, 49]⟩]) (Za (.agg Zp0) (fun b3 => Zs 0 ⟨b3, Zp0, 71⟩ (off := 0) (.agg #[.string ⟨#[]⟩, .string ⟨#[]⟩, .string ⟨#[]⟩, .string ⟨#[]⟩, .string ⟨#[48]⟩, .string ⟨#[49]⟩, .string ⟨#[50]⟩, .string ⟨#[49, 49]⟩, .string ⟨#[97]⟩, .string ⟨#[97, 46, 49]⟩, .string ⟨#[97, 46, 98]⟩, .string ⟨#[98]⟩, .string ⟨#[48, 46, 48]⟩, .string ⟨#[114, 99, 46, 49]⟩]) (ZR (Zv (.agg #[.string ⟨#[]⟩, .string ⟨#[]⟩, .string ⟨#[]⟩, .string ⟨#[]⟩, .string ⟨#[48, 48, 55]⟩, .string ⟨#[120, 46, 49]⟩]) (Za (.agg #[.string ⟨#[]⟩, .string ⟨#[]⟩, .string ⟨#[]⟩, .string ⟨#[]⟩, .string ⟨#[]⟩, .string ⟨#[]⟩]) (fun b4 => ?_))))))))
  refine Zs 0 ⟨b4, #[.string ⟨#[]⟩, .string ⟨#[]⟩, .string ⟨#[]⟩, .string ⟨#[]⟩, .string ⟨#[]⟩, .string ⟨#[]⟩], 72⟩ (off := 0) (.agg #[.string ⟨#[]⟩, .string ⟨#[]⟩, .string ⟨#[]⟩, .string ⟨#[]⟩, .string ⟨#[48, 48, 55]⟩, .string ⟨#[120, 46, 49]⟩]) (ZN (zB (ok_drawt 30 (by kernel_rfl) (by kernel_rfl) (by kernel_rfl) ?_)))
  simp only [List.take_succ_cons, List.take_zero, List.drop_succ_cons, List.drop_zero]
  refine Zw (v) (Zw (.int .i64 ((i : Nat) : Int)) (Zq (k := 51) (args := #[v, .int .i64 ((i : Nat) : Int), .int .i64 8]) (.int .i64 (k0 : Int)) (fun w hO => f0 w hO.below) (gG (Zp b2 k0) (by kernel_rfl) (dB (b := b2) (off := 0) (k := .i64) (j := (k0 : Int)) (n := 8) (e := 3) (sz := 1) rfl (by kernel_rfl) (by kernel_rfl) (by kernel_rfl) (by kernel_rfl) (by omega) (by omega) (by omega)) (jB 2 ⟨b2, Z9, 70⟩ (off := k0) (.int .i64 (wQ k0)) (by kernel_rfl) rfl (by kernel_rfl) (by kernel_rfl) (rd_num k0 q0) (Zw (v) (Zw (.int .i64 ((i : Nat) : Int)) (q_sum (k := .i64) (((i + 1 : Nat) : Int)) (by kernel_rfl) (fun _ => by kernel_rfl) (IntWalk.i64_in _ (by omega)) (Zq (k := 51) (args := #[v, .int .i64 ((i + 1 : Nat) : Int), .int .i64 8]) (.int .i64 (k1 : Int)) (fun w hO => f1 w hO.below) (gG (Zp b2 k1) (by kernel_rfl) (dB (b := b2) (off := 0) (k := .i64) (j := (k1 : Int)) (n := 8) (e := 3) (sz := 1) rfl (by kernel_rfl) (by kernel_rfl) (by kernel_rfl) (by kernel_rfl) (by omega) (by omega) (by omega)) (jB 2 ⟨b2, Z9, 70⟩ (off := k1) (.int .i64 (wQ k1)) (by kernel_rfl) rfl (by kernel_rfl) (by kernel_rfl) (rd_num k1 q1) (Zw (v) ?_)))))))))))
  refine Zw (.int .i64 ((i : Nat) : Int)) (q_sum (k := .i64) (((i + 2 : Nat) : Int)) (by kernel_rfl) (fun _ => by kernel_rfl) (IntWalk.i64_in _ (by omega)) (Zq (k := 51) (args := #[v, .int .i64 ((i + 2 : Nat) : Int), .int .i64 8]) (.int .i64 (k2 : Int)) (fun w hO => f2 w hO.below) (gG (Zp b2 k2) (by kernel_rfl) (dB (b := b2) (off := 0) (k := .i64) (j := (k2 : Int)) (n := 8) (e := 3) (sz := 1) rfl (by kernel_rfl) (by kernel_rfl) (by kernel_rfl) (by kernel_rfl) (by omega) (by omega) (by omega)) (jB 2 ⟨b2, Z9, 70⟩ (off := k2) (.int .i64 (wQ k2)) (by kernel_rfl) rfl (by kernel_rfl) (by kernel_rfl) (rd_num k2 q2) (Zw (v) (Zw (.int .i64 ((i : Nat) : Int)) (q_sum (k := .i64) (((i + 3 : Nat) : Int)) (by kernel_rfl) (fun _ => by kernel_rfl) (IntWalk.i64_in _ (by omega)) (Zq (k := 51) (args := #[v, .int .i64 ((i + 3 : Nat) : Int), .int .i64 14]) (.int .i64 (k3 : Int)) (fun w hO => f3 w hO.below) (gG (Zp b3 k3) (by kernel_rfl) (dB (b := b3) (off := 0) (k := .i64) (j := (k3 : Int)) (n := 14) (e := 9) (sz := 1) rfl (by kernel_rfl) (by kernel_rfl) (by kernel_rfl) (by kernel_rfl) (by omega) (by omega) (by omega)) (jB 1 ⟨b3, #[.string ⟨#[]⟩, .string ⟨#[]⟩, .string ⟨#[]⟩, .string ⟨#[]⟩, .string ⟨#[48]⟩, .string ⟨#[49]⟩, .string ⟨#[50]⟩, .string ⟨#[49, 49]⟩, .string ⟨#[97]⟩, .string ⟨#[97, 46, 49]⟩, .string ⟨#[97, 46, 98]⟩, .string ⟨#[98]⟩, .string ⟨#[48, 46, 48]⟩, .string ⟨#[114, 99, 46, 49]⟩], 71⟩ (off := k3) (.string (mkS (wO k3))) (by kernel_rfl) rfl (by kernel_rfl) (by kernel_rfl) (rd_pre k3 q3) (Zw (v) ?_)))))))))))
  refine Zw (.int .i64 ((i : Nat) : Int)) (q_sum (k := .i64) (((i + 4 : Nat) : Int)) (by kernel_rfl) (fun _ => by kernel_rfl) (IntWalk.i64_in _ (by omega)) (Zq (k := 51) (args := #[v, .int .i64 ((i + 4 : Nat) : Int), .int .i64 6]) (.int .i64 (k4 : Int)) (fun w hO => f4 w hO.below) (gG (Zp b4 k4) (by kernel_rfl) (dB (b := b4) (off := 0) (k := .i64) (j := (k4 : Int)) (n := 6) (e := 9) (sz := 1) rfl (by kernel_rfl) (by kernel_rfl) (by kernel_rfl) (by kernel_rfl) (by omega) (by omega) (by omega)) (jB 0 ⟨b4, #[.string ⟨#[]⟩, .string ⟨#[]⟩, .string ⟨#[]⟩, .string ⟨#[]⟩, .string ⟨#[48, 48, 55]⟩, .string ⟨#[120, 46, 49]⟩], 72⟩ (off := k4) (.string (mkS (bldT k4))) (by kernel_rfl) rfl (by kernel_rfl) (by kernel_rfl) (rd_bld k4 q4) (Zw (.agg #[.int .i64 (wQ k0), .int .i64 (wQ k1), .int .i64 (wQ k2), .string (mkS (wO k3)), .string (mkS (bldT k4))]) (gH (Zs 3 ⟨b1, Z7, 44⟩ (off := 0) (.agg #[.int .i64 (wQ k0), .int .i64 (wQ k1), .int .i64 (wQ k2), .string (mkS (wO k3)), .string (mkS (bldT k4))]) (ZN (zG (ZC 3 ⟨b1, #[.int .i64 (wQ k0), .int .i64 (wQ k1), .int .i64 (wQ k2), .string (mkS (wO k3)), .string (mkS (bldT k4))], 44⟩ (off := 0) (.agg #[.int .i64 (wQ k0), .int .i64 (wQ k1), .int .i64 (wQ k2), .string (mkS (wO k3)), .string (mkS (bldT k4))]) Tryz.results26 ?_))))))))))
  exact fun w hO => ⟨rfl, hO.below⟩
end
section
def ordSp (c d : Cu) : Sp := if 0 < zQ c d then ⟨d, c⟩ else ⟨c, d⟩
def spG (l : List Int) (i n : Nat) : Sp := ordSp (genC l (i + 12 * n - 11)) (genC l (i + 12 * n - 5))
def spansG (l : List Int) (i : Nat) : Nat → List Sp
  | 0 => []
  | n + 1 => (if (spG l i (n + 1)).may then [spG l i (n + 1)] else []) ++ spansG l i n
structure SpI (l : List Int) (i N n : Nat) (z : Int) (u : Value) (acc : List Sp) (ob : List Blk) : Prop where
  z : z = (n : Int)
  sl : SlS u acc ob
  len : acc.length + n ≤ N
  eq : acc ++ spansG l i n = spansG l i N
end
section
def rowG (l : List Int) (i : Nat) : List Sp := uO (spansG l i (plc (atL l i) (4 + 1 : Nat)).toNat)
end
section
end
section
theorem core_short {v : Ver} (h : v.short) : (kS v).short := ⟨h.1, by show ([] : List UInt8).length ≤ _; exact Nat.zero_le _⟩
theorem next_flat (v : Ver) : (xA v).pre = [] ∧ (xA v).build = [] := by
  cases h : v.may with
  | false => unfold xA; rw [h]; exact ⟨rfl, rfl⟩
  | true =>
    rcases next_is h with ⟨h1, h2, _⟩ | ⟨_, a, b, c, e, _⟩
    · unfold gN at h1
      rw [h, h2] at h1
      simp at h1
      unfold xA
      simp [h, h2, h1]
      exact ⟨rfl, rfl⟩
    · rw [e]; exact ⟨rfl, rfl⟩
theorem next_short (v : Ver) : (xA v).short := ⟨by rw [(next_flat v).1]; exact Nat.zero_le _, by rw [(next_flat v).2]; exact Nat.zero_le _⟩
theorem relV_short (v : Ver) : (nH v).short := ⟨by show ([] : List UInt8).length ≤ _; exact Nat.zero_le _, by show ([] : List UInt8).length ≤ _; exact Nat.zero_le _⟩
theorem rleast_any (v : Ver) (W : World) : Calls Tryz.prog 97 #[yR v] W fun e w' => e = .returned (.bool (vF v)) ∧ Below W.heap.size W w' := by
  refine Z2 (n := 16) Tryz.func97 rfl (ZO (Zb (yR v) (fun b1 => Zv Z5 (ZR (Zv (Zp b1 0) (Zl 0 ⟨b1, (yR v).cells, 44⟩ (off := 0) (.int .i64 v.maj) ?_))))))
  by_cases h1 : (v.maj : Int) = 0
  · refine Zg h1 (Zv Z4 (Zv (Zp b1 1) (Zl 0 ⟨b1, (yR v).cells, 44⟩ (off := 1) (.int .i64 v.min) ?_)))
    by_cases h2 : (v.min : Int) = 0
    · refine Zg h2 (Zv Z4 (Zv Z4 (Zv (Zp b1 2) (Zl 0 ⟨b1, (yR v).cells, 44⟩ (off := 2) (.int .i64 v.pat) ?_))))
      by_cases h3 : (v.pat : Int) = 0
      · exact Zg h3 (Zv Z4 (Zv Z4 (ZN (zG (ZF Z4 Tryz.results97 (fun w hO => ⟨by simp [vF, h1, h2, h3], hO.below⟩))))))
      exact Zh h3 (Zv Z5 (Zv Z5 (ZN (zG (ZF Z5 Tryz.results97 (fun w hO => ⟨by simp [vF, h1, h2, h3], hO.below⟩))))))
    refine Zh h2 (Zv Z5 (Zv Z5 (Zk (Zk (Zk (Zv Z5 (Zv Z5 (ZN (zG (ZF Z5 Tryz.results97 ?_))))))))))
    exact fun w hO => ⟨by simp [vF, h1, h2], hO.below⟩
  refine Zh h1 (Zv Z5 (Zk (Zk (Zk (Zv Z5 (Zv Z5 (Zk (Zk (Zk (Zv Z5 (Zv Z5 ?_)))))))))))
  exact ZN (zG (ZF Z5 Tryz.results97 (fun w hO => ⟨by simp [vF, h1], hO.below⟩)))
theorem rright_any (c : Cu) (W : World) : Calls Tryz.prog 55 #[zI c] W fun e w' => e = .returned (.bool (xC c)) ∧ Below W.heap.size W w' := by
  refine Z2 (n := 23) Tryz.func55 rfl (ZO (Zb (zI c) (fun b1 => Zv Z5 (ZR (Zv (Zp b1 0) (Zl 0 ⟨b1, (zI c).cells, 78⟩ (off := 0) (.int .i64 c.e) ?_))))))
  by_cases h1 : (c.e : Int) = 0
  · refine Zn (p := (c.e : Int) = 0) true (decide_eq_true (h1)) (Zv Z5 (Zv (Zp b1 6) (Zl 0 ⟨b1, (zI c).cells, 78⟩ (off := 6) (.bool c.aft) ?_)))
    cases h2 : c.aft with
    | true =>
      refine Zv Z5 (Zv Z5 (Zk (Zk (Zk (Zk (Zv Z5 (Zv Z5 (Zk (Zk (Zk (Zk ?_)))))))))))
      exact Zv Z5 (Zv Z5 (Zv Z5 (ZN (zG (ZF Z5 Tryz.results55 (fun w hO => ⟨by simp [xC, h1, h2], hO.below⟩))))))
    | false =>
      refine Zv Z4 (Zv Z4 (Zv (Zp b1 1) (Zv (Zp b1 4) (Zl 0 ⟨b1, (zI c).cells, 78⟩ (off := 4) (.string (mkS c.v.pre)) ?_))))
      by_cases h3 : (c.v.pre : List UInt8) = []
      · refine zX Z4 (by kernel_rfl) (xB (a := c.v.pre) (b := ([])) rfl (by kernel_rfl) (by kernel_rfl) (decide_eq_true (h3))) (Zv Z4 (Zv Z4 (Zv (Zp b1 1) (Zl 0 ⟨b1, (zI c).cells, 78⟩ (off := 1) (.agg (ZP c.v)) (Zc (k := 97) (args := #[.agg (ZP c.v)]) (.bool (vF c.v)) (fun w _ => rleast_any c.v w) ?_)))))
        cases h4 : vF c.v with
        | true =>
          exact Zv Z5 (Zv Z5 (Zv Z5 (Zv Z5 (ZN (zG (ZF Z5 Tryz.results55 (fun w hO => ⟨by simp [xC, h1, h2, h3, h4], hO.below⟩)))))))
        | false =>
          exact Zv Z4 (Zv Z4 (Zv Z4 (Zv Z4 (ZN (zG (ZF Z4 Tryz.results55 (fun w hO => ⟨by simp [xC, h1, h2, h3, h4], hO.below⟩)))))))
      refine zX Z5 (by kernel_rfl) (xB (a := c.v.pre) (b := ([])) rfl (by kernel_rfl) (by kernel_rfl) (decide_eq_false (h3))) (Zv Z5 (Zv Z5 (Zk (Zk (Zk (Zk (Zv Z5 (Zv Z5 (Zv Z5 (zU (zF ?_)))))))))))
      exact zG (ZF Z5 Tryz.results55 (fun w hO => ⟨by simp [xC, h1, h2, h3], hO.below⟩))
  refine Zn (p := (c.e : Int) = 0) false (decide_eq_false (h1)) (Zv Z4 (Zk (Zk (Zk (Zk (Zk (Zk (Zk (Zk (Zk (Zk ?_)))))))))))
  exact Zk (Zk (Zk (Zk (Zk (Zv Z4 (Zv Z4 (ZN (zG (ZF Z4 Tryz.results55 (fun w hO => ⟨by simp [xC, h1], hO.below⟩))))))))))
end
section
structure SetIn (w : World) (B : Nat) (A A' : Option Addr) (a : St) : Prop where
  rel : Reads x6 w B A a.rel
  pre : Reads x6 w B A' a.pre
  lr : a.rel.length ≤ 100000
  lp : a.pre.length ≤ 100000
  sr : x5 a.rel
  sp : x5 a.pre
theorem SetIn.on {w w' : World} {B B' : Nat} {A A' : Option Addr} {a : St} (h : SetIn w B A A' a) (hb : Below B w w') (hB : B ≤ B') : SetIn w' B' A A' a := ⟨h.rel.on hb hB, h.pre.on hb hB, h.lr, h.lp, h.sr, h.sp⟩
theorem all_take (p : Sp → Bool) {l : List Sp} {k : Nat} (hk : k < l.length) (h : (l.take k).all p = true) (hs : p l[k] = true) : (l.take (k + 1)).all p = true := by
  rw [List.take_succ_eq_append_getElem hk, List.all_append, h]
  simp [hs]
theorem all_not (p : Sp → Bool) {l : List Sp} {k : Nat} (hk : k < l.length) (hs : p l[k] = false) : l.all p = false := by
  cases h : l.all p with
  | false => rfl
  | true => rw [List.all_eq_true.1 h _ (List.getElem_mem hk)] at hs; cases hs
theorem fY (A B : Option Addr) (c d : Nat) (a : St) (W : World) (hs : SetIn W W.heap.size A B a) : Calls Tryz.prog 29 #[.agg #[.slice A a.rel.length c, .slice B a.pre.length d]] W fun e w' => e = .returned (.bool a.may) ∧ Below W.heap.size W w' := by
  refine Z2 (n := 39) Tryz.func29 rfl (ZO (Zb (.agg #[.slice A a.rel.length c, .slice B a.pre.length d]) (fun b1 => Zv Z5 (ZN (zB (ZO (Zv (Zp b1 0) (Zl 0 ⟨b1, #[.slice A a.rel.length c, .slice B a.pre.length d], 31⟩ (off := 0) (.slice A a.rel.length c) ?_))))))))
  refine Zc (k := 54) (args := #[.slice A a.rel.length c]) (.bool (zN a.rel)) (fun w hO => vJ A c a.rel w (hs.rel.on hO.below hO.below.size) (Nat.le_trans hs.lr (by decide)) hs.sr) ?_
  cases h1 : zN a.rel with
  | true =>
    refine Zv Z5 (Zv Z5 (Zv (Zp b1 1) (Zl 0 ⟨b1, #[.slice A a.rel.length c, .slice B a.pre.length d], 31⟩ (off := 1) (.slice B a.pre.length d) (Zc (k := 54) (args := #[.slice B a.pre.length d]) (.bool (zN a.pre)) (fun w hO => vJ B d a.pre w (hs.pre.on hO.below hO.below.size) (Nat.le_trans hs.lp (by decide)) hs.sp) ?_))))
    cases h2 : zN a.pre with
    | true =>
      refine Zv Z5 (Zv Z5 (ZX (ZB (zB (ZO (Zv (.int .i64 0) (zU ?_)))))))
      refine zF (zP (x7 (fun L f m => ∃ (k : Nat) (j : Nat → Value), (k ≤ a.rel.length ∧ (a.rel.take k).all (fun x => xC x.lo && xC x.hi) = true) ∧ L = [⟨b1, #[.slice A a.rel.length c, .slice B a.pre.length d], 31⟩] ∧ f = kL j [(1, Zp b1 0), (3, .int .i64 (k : Int))] ∧ m = a.rel.length - k) (a.rel.length - 0) ⟨0, _, ⟨Nat.zero_le _, by rw [List.take_zero]; rfl⟩, rfl, ZU, rfl⟩ ?_))
      rintro L f m ⟨k, j, hrel, rfl, rfl, rfl⟩
      have hkl := hrel.1; have hln := hs.lr
      refine zB (ZO (Zv (.int .i64 (k : Int)) (Zv (Zp b1 0) (Zl 0 ⟨b1, #[.slice A a.rel.length c, .slice B a.pre.length d], 31⟩ (off := 0) (.slice A a.rel.length c) (Zv (.int .i64 (a.rel.length : Int)) ?_)))))
      by_cases h3 : (k : Int) < (a.rel.length : Int)
      · have hk : k < a.rel.length := by omega
        obtain ⟨b, off, hA, hlt, hcell⟩ := hs.rel (by omega)
        obtain ⟨s, he⟩ : ∃ s, a.rel[k] = s := ⟨_, rfl⟩
        refine Zg h3 (ZY (ZB (zB (zP (ZO (Zv (Zp b1 0) (Zl 0 ⟨b1, #[.slice A a.rel.length c, .slice B a.pre.length d], 31⟩ (off := 0) (.slice A a.rel.length c) ?_)))))))
        refine Zv (.int .i64 (k : Int)) (zX (Zp b (off + k * 14)) (by kernel_rfl) (ZA (b := b) (off := off) (c := c) (n := a.rel.length) (k := .i64) (j := (k : Int)) (e := 80) (sz := 14) hA) (Zv (Zp b (off + k * 14 + 0)) (Zo (zI s.lo) (a := ⟨b, off + k * 14 + 0, none⟩) (fun w hO => yF yA (fun j u h => (hO.below.cell (p := ⟨b, off + j, none⟩) hlt).trans (hcell j u h)) k 0 hk (by omega) _ (by rw [he]; kernel_rfl)) (Zc (k := 55) (args := #[zI s.lo]) (.bool (xC s.lo)) (fun w _ => rright_any s.lo w) ?_))))
        cases h4 : xC s.lo with
        | true =>
          refine Zv Z5 (Zv Z5 (Zv (Zp b1 0) (Zl 0 ⟨b1, #[.slice A a.rel.length c, .slice B a.pre.length d], 31⟩ (off := 0) (.slice A a.rel.length c) (Zv (.int .i64 (k : Int)) (zX (Zp b (off + k * 14)) (by kernel_rfl) (ZA (b := b) (off := off) (c := c) (n := a.rel.length) (k := .i64) (j := (k : Int)) (e := 80) (sz := 14) hA) (Zv (Zp b (off + k * 14 + 7)) (Zo (zI s.hi) (a := ⟨b, off + k * 14 + 7, none⟩) (fun w hO => yF yA (fun j u h => (hO.below.cell (p := ⟨b, off + j, none⟩) hlt).trans (hcell j u h)) k 7 hk (by omega) _ (by rw [he]; kernel_rfl)) (Zc (k := 55) (args := #[zI s.hi]) (.bool (xC s.hi)) (fun w _ => rright_any s.hi w) ?_))))))))
          cases h5 : xC s.hi with
          | true =>
            refine Zv Z5 (Zv Z5 (ZX (xD (zV (zF (zC (Zv (.int .i64 (k : Int)) (Zu (k := .i64) (((k + 1 : Nat) : Int)) (IntWalk.i64_in _ (by omega)) (Zv (.int .i64 ((k + 1 : Nat) : Int)) ?_)))))))))
            refine zU ?_
            have hnext : (a.rel.take (k + 1)).all (fun x => xC x.lo && xC x.hi) = true := all_take _ hk hrel.2 (by simp [he, h1, h2, h3, h4, h5])
            exact zY (m' := a.rel.length - (k + 1)) (by omega) ⟨k + 1, _, ⟨by omega, hnext⟩, rfl, ZU, rfl⟩
          | false =>
            refine Zv Z4 (Zv Z4 (ZY (ZO (Zv Z5 (ZN (zG (zJ ?_)))))))
            exact zD (yK (zJ (zD (ZF Z5 Tryz.results29 (fun w hO => ⟨by unfold St.may; rw [all_not _ hk (by simp [he, h1, h2, h3, h4, h5])]; simp, hO.below⟩)))))
        | false =>
          refine Zv Z4 (Zv Z4 (Zk (Zk (Zk (Zk (Zk (Zk (Zk (Zk (Zv Z4 (zU ?_)))))))))))
          refine zF (Zt (ZO (Zv Z5 (ZN (zG (zJ (zD (yK (zJ ?_)))))))))
          exact zD (ZF Z5 Tryz.results29 (fun w hO => ⟨by unfold St.may; rw [all_not _ hk (by simp [he, h1, h2, h3, h4])]; simp, hO.below⟩))
      have hall : a.rel.all (fun x => xC x.lo && xC x.hi) = true := by have h := hrel.2; rwa [List.take_of_length_le (by omega)] at h
      refine Zh h3 (ZX (yE (zH (zS (zM (zF (ZO (Zv Z4 ?_))))))))
      exact ZN (zG (ZF Z4 Tryz.results29 (fun w hO => ⟨by unfold St.may; simp [hall, h1, h2, h3], hO.below⟩)))
    | false =>
      refine Zv Z4 (Zv Z4 (ZY (ZO (Zv Z5 (ZN (zG (zD ?_)))))))
      exact ZF Z5 Tryz.results29 (fun w hO => ⟨by unfold St.may; simp [h1, h2], hO.below⟩)
  | false =>
    refine Zv Z4 (Zv Z4 (Zk (Zk (Zk (Zk (Zv Z4 (ZY (zB (zC ?_)))))))))
    exact Zv Z5 (ZN (zG (zD (ZF Z5 Tryz.results29 (fun w hO => ⟨by unfold St.may; simp [h1], hO.below⟩)))))
theorem rsetHas_any (A B : Option Addr) (c d : Nat) (a : St) (v : Ver) (W : World) (hs : SetIn W W.heap.size A B a) (hv : v.short) : Calls Tryz.prog 30 #[.agg #[.slice A a.rel.length c, .slice B a.pre.length d], yR v] W fun e w' => e = .returned (.bool (qI a v)) ∧ Below W.heap.size W w' := by
  refine Z2 (n := 24) Tryz.func30 rfl (ZO (Zb (.agg #[.slice A a.rel.length c, .slice B a.pre.length d]) (fun b1 => Zb (yR v) (fun b2 => Zv Z5 (ZN (zB (ZO (Zl 1 ⟨b1, #[.slice A a.rel.length c, .slice B a.pre.length d], 31⟩ (off := 0) (.agg #[.slice A a.rel.length c, .slice B a.pre.length d]) ?_))))))))
  refine Zc (k := 29) (args := #[.agg #[.slice A a.rel.length c, .slice B a.pre.length d]]) (.bool a.may) (fun w hO => fY A B c d a w (hs.on hO.below hO.size)) ?_
  cases h1 : a.may with
  | true =>
    refine Zv Z5 (Zv Z5 (Zl 0 ⟨b2, (yR v).cells, 44⟩ (off := 0) (yR v) (Zc (k := 56) (args := #[yR v]) (.bool v.may) (fun w _ => wN v w hv.1 hv.2) ?_)))
    cases h2 : v.may with
    | true =>
      refine Zv Z5 (Zv Z5 (ZX (ZB (zB (ZO (Zv (Zp b2 3) (Zl 0 ⟨b2, (yR v).cells, 44⟩ (off := 3) (.string (mkS v.pre)) ?_)))))))
      by_cases h3 : (v.pre : List UInt8) = []
      · refine zX Z4 (by kernel_rfl) (xB (a := v.pre) (b := ([])) rfl (by kernel_rfl) (by kernel_rfl) (decide_eq_true (h3))) (ZY (ZO (Zv (Zp b1 0) (Zl 1 ⟨b1, #[.slice A a.rel.length c, .slice B a.pre.length d], 31⟩ (off := 0) (.slice A a.rel.length c) (Zl 0 ⟨b2, (yR v).cells, 44⟩ (off := 0) (yR v) (Zc (k := 52) (args := #[.slice A a.rel.length c, yR v]) (.bool (xJ a.rel v)) (fun w hO => rrowHas_any A c a.rel v w (hs.rel.on hO.below hO.below.size) (Nat.le_trans hs.lr (by decide)) hs.sr hv) (Zv (.bool (xJ a.rel v)) (zU ?_))))))))
        exact zF (zG (zD (ZF (.bool (xJ a.rel v)) Tryz.results30 (fun w hO => ⟨by simp [qI, h1, h2, h3], hO.below⟩))))
      refine zX Z5 (by kernel_rfl) (xB (a := v.pre) (b := ([])) rfl (by kernel_rfl) (by kernel_rfl) (decide_eq_false (h3))) (ZX (ZB (ZO (Zv (Zp b1 1) (Zl 1 ⟨b1, #[.slice A a.rel.length c, .slice B a.pre.length d], 31⟩ (off := 1) (.slice B a.pre.length d) (Zl 0 ⟨b2, (yR v).cells, 44⟩ (off := 0) (yR v) (Zc (k := 52) (args := #[.slice B a.pre.length d, yR v]) (.bool (xJ a.pre v)) (fun w hO => rrowHas_any B d a.pre v w (hs.pre.on hO.below hO.below.size) (Nat.le_trans hs.lp (by decide)) hs.sp hv) ?_)))))))
      exact Zv (.bool (xJ a.pre v)) (ZN (zG (ZF (.bool (xJ a.pre v)) Tryz.results30 (fun w hO => ⟨by simp [qI, h1, h2, h3], hO.below⟩))))
    | false =>
      refine Zv Z4 (Zv Z4 (ZY (ZO (Zv Z5 (ZN (zG (zD ?_)))))))
      exact ZF Z5 Tryz.results30 (fun w hO => ⟨by simp [qI, h1, h2], hO.below⟩)
  | false =>
    refine Zv Z4 (Zv Z4 (Zk (Zk (Zk (Zv Z4 (ZY (ZO (Zv Z5 ?_))))))))
    exact ZN (zG (zD (ZF Z5 Tryz.results30 (fun w hO => ⟨by simp [qI, h1], hO.below⟩))))
end
section
section
variable {M : List Nat} {P : Program} {n : Nat} {ops : Array Oper} {W : World} {L0 : List Blk} {Q : Exit → Act → World → Prop} {fuel : Nat} {listed : Array Bool} {L : List Blk} {f : Nat → Value}
theorem n3 (i : Nat) (E : List Blk) (oi : Oper) (x : Blk) {ty : TypeId} {p : Operand} {off : Nat} (v : Value) (hi : ops[i]? = some oi) (hs : Region.noSelect ops = true) (hf : Region.free .any ops listed i = true) (hr : (Region.ready .any ops listed).contains i = true)
    (hQ : PQ Q) (hw : xR ops n f oi = true) (ho : oi.op = .load ty p) (hL : x ∈ L0) (hp : ev n f p = .pointer (some ⟨x.b, off, none⟩)) (hv : kF P ty x.cs off = some v)
    (h : qU M P n ops W L0 Q fuel (listed.setIfInBounds i true) (E ++ L0) (upd f oi.dst v)) : qU M P n ops W L0 Q (fuel + 1) listed (E ++ L0) f :=
  uT i E oi v hi hs hf hr hQ hw (fun _ hO => q8 ho hp (qE hv (hO.held x hL))) h
theorem yS {i : Nat} {E E' : List Blk} (p : E.Perm E') (h : j4 M P n ops W L0 Q fuel listed i (E' ++ L0) f) : j4 M P n ops W L0 Q fuel listed i (E ++ L0) f := ⟨fun w hO => h.go w (hO.perm (p.append_right L0))⟩
end
theorem vH {M : List Nat} {W w : World} {L : List Blk} (h : Own M W w L) : Own M W w [] := h.sublist (List.nil_sublist _)
theorem own_mid {M : List Nat} {W w : World} {x : Blk} {A B L0 : List Blk} (h : Own M W w ((x :: (A ++ (B ++ []))) ++ L0)) : Own M W w (A ++ B) := by
  rw [List.append_nil] at h
  exact h.sublist ((List.sublist_append_left (A ++ B) L0).cons x)
end
section
theorem bH {A : Option Addr} {n c : Nat} {l : List Sp} {ob : List Blk} (h : SlS (.slice A n c) l ob) : l.length ≤ c := by
  rcases h.2 with ⟨h1, h2, _⟩ | ⟨g, c', cur, h1, _, h3, _⟩
  · rw [h2]; exact Nat.zero_le _
  · simp only [Value.slice.injEq] at h1
    rw [h1.2.2]; exact h3
def SetO (v : Value) (a : St) (ob : List Blk) : Prop := ∃ v1 v2 o1 o2, v = .agg #[v1, v2] ∧ ob = o2 ++ o1 ∧ SlS v1 a.rel o1 ∧ SlS v2 a.pre o2
theorem SetO.form {v : Value} {a : St} {ob : List Blk} (h : SetO v a ob) : ∃ A B c d, v = .agg #[.slice A a.rel.length c, .slice B a.pre.length d] := by
  obtain ⟨v1, v2, o1, o2, rfl, _, h1, h2⟩ := h
  obtain ⟨A, c, rfl⟩ := h1.form
  obtain ⟨B, d, rfl⟩ := h2.form
  exact ⟨A, B, c, d, rfl⟩
theorem agg_two {a b c d : Value} (h : (Value.agg #[a, b]) = .agg #[c, d]) : a = c ∧ b = d := by
  injection h with h
  have h2 := congrArg Array.toList h
  simp only [List.cons.injEq, and_true] at h2
  exact h2
theorem SetO.inn {A B : Option Addr} {c d n : Nat} {a : St} {ob L : List Blk} {M : List Nat} {W w : World} (h : SetO (.agg #[.slice A a.rel.length c, .slice B a.pre.length d]) a ob) (hO : Own M W w L) (hob : ∀ x ∈ ob, x ∈ L) (hf : SF a n) (hn : n ≤ 100000) : SetIn w w.heap.size A B a := by
  obtain ⟨v1, v2, o1, o2, e, rfl, h1, h2⟩ := h
  obtain ⟨rfl, rfl⟩ := agg_two e
  exact ⟨Sl.reads h1 rfl hO (fun x hx => hob x (by simp [hx])), Sl.reads h2 rfl hO (fun x hx => hob x (by simp [hx])), Nat.le_trans hf.rel.len hn, Nat.le_trans hf.pre.len hn, hf.rel.short, hf.pre.short⟩
theorem SetO.caps {A B : Option Addr} {c d : Nat} {a : St} {ob : List Blk} (h : SetO (.agg #[.slice A a.rel.length c, .slice B a.pre.length d]) a ob) : a.rel.length ≤ c ∧ a.pre.length ≤ d := by
  obtain ⟨v1, v2, o1, o2, e, rfl, h1, h2⟩ := h
  obtain ⟨rfl, rfl⟩ := agg_two e
  exact ⟨bH h1, bH h2⟩
theorem SetO.none : SetO (.agg ZM) gS [] := ⟨_, _, [], [], rfl, rfl, Sl.nil _ _, Sl.nil _ _⟩
theorem rsetWithin_any (A B A' B' : Option Addr) (c d c' d' : Nat) (a b : St) (W : World) (hs : SetIn W W.heap.size A B a) (ht : SetIn W W.heap.size A' B' b) : Calls Tryz.prog 32 #[.agg #[.slice A a.rel.length c, .slice B a.pre.length d], .agg #[.slice A' b.rel.length c', .slice B' b.pre.length d']] W fun e w' => e = .returned (.bool (a.may && b.may && decide (g9 a.rel b.rel = a.rel) && decide (g9 a.pre b.pre = a.pre))) ∧ Below W.heap.size W w' := by
  refine Z2 (n := 25) Tryz.func32 rfl (ZO (Zb (.agg #[.slice A a.rel.length c, .slice B a.pre.length d]) (fun b1 => Zb (.agg #[.slice A' b.rel.length c', .slice B' b.pre.length d']) (fun b2 => Zv Z5 (ZR (Zl 1 ⟨b1, #[.slice A a.rel.length c, .slice B a.pre.length d], 31⟩ (off := 0) (.agg #[.slice A a.rel.length c, .slice B a.pre.length d]) (Zc (k := 29) (args := #[.agg #[.slice A a.rel.length c, .slice B a.pre.length d]]) (.bool a.may) (fun w hO => fY A B c d a w (hs.on hO.below hO.size)) ?_)))))))
  refine Zv (.bool a.may) ?_
  cases h1 : a.may with
  | true =>
    refine Zl 0 ⟨b2, #[.slice A' b.rel.length c', .slice B' b.pre.length d'], 31⟩ (off := 0) (.agg #[.slice A' b.rel.length c', .slice B' b.pre.length d']) (Zc (k := 29) (args := #[.agg #[.slice A' b.rel.length c', .slice B' b.pre.length d']]) (.bool b.may) (fun w hO => fY A' B' c' d' b w (ht.on hO.below hO.size)) (Zv (.bool b.may) (Zv (.bool b.may) ?_)))
    cases h2 : b.may with
    | true =>
      refine Zv (Zp b1 0) (Zl 1 ⟨b1, #[.slice A a.rel.length c, .slice B a.pre.length d], 31⟩ (off := 0) (.slice A a.rel.length c) (Zv (Zp b2 0) (Zl 0 ⟨b2, #[.slice A' b.rel.length c', .slice B' b.pre.length d'], 31⟩ (off := 0) (.slice A' b.rel.length c') (Zc (k := 33) (args := #[.slice A a.rel.length c, .slice A' b.rel.length c']) (.bool (decide (g9 a.rel b.rel = a.rel))) (fun w hO => hD (by rw [(St.facts h1).1, (St.facts h2).1]; rfl) (bI A A' c c' a.rel b.rel w (hs.rel.on hO.below hO.size) (ht.rel.on hO.below hO.size) hs.lr ht.lr hs.sr ht.sr)) (Zv (.bool (decide (g9 a.rel b.rel = a.rel))) (Zv (.bool (decide (g9 a.rel b.rel = a.rel))) ?_))))))
      cases h3 : decide (g9 a.rel b.rel = a.rel) with
      | true =>
        exact Zv (Zp b1 1) (Zl 1 ⟨b1, #[.slice A a.rel.length c, .slice B a.pre.length d], 31⟩ (off := 1) (.slice B a.pre.length d) (Zv (Zp b2 1) (Zl 0 ⟨b2, #[.slice A' b.rel.length c', .slice B' b.pre.length d'], 31⟩ (off := 1) (.slice B' b.pre.length d') (Zc (k := 33) (args := #[.slice B a.pre.length d, .slice B' b.pre.length d']) (.bool (decide (g9 a.pre b.pre = a.pre))) (fun w hO => hD (by rw [(St.facts h1).2.1, (St.facts h2).2.1]; rfl) (bI B B' d d' a.pre b.pre w (hs.pre.on hO.below hO.size) (ht.pre.on hO.below hO.size) hs.lp ht.lp hs.sp ht.sp)) (Zv (.bool (decide (g9 a.pre b.pre = a.pre))) (Zv (.bool (decide (g9 a.pre b.pre = a.pre))) (ZN (zG (ZF (.bool (decide (g9 a.pre b.pre = a.pre))) Tryz.results32 (fun w hO => ⟨by simp [h1, h2, h3], hO.below⟩))))))))))
      | false =>
        exact Zk (Zk (Zk (Zk (Zk (Zv Z5 (Zv Z5 (ZN (zG (ZF Z5 Tryz.results32 (fun w hO => ⟨by simp [h1, h2, h3], hO.below⟩))))))))))
    | false =>
      refine Zk (Zk (Zk (Zk (Zk (Zv Z5 (Zv Z5 (Zk (Zk (Zk (Zk (Zk ?_)))))))))))
      exact Zv Z5 (Zv Z5 (ZN (zG (ZF Z5 Tryz.results32 (fun w hO => ⟨by simp [h1, h2], hO.below⟩)))))
  | false =>
    refine Zk (Zk (Zv Z5 (Zv Z5 (Zk (Zk (Zk (Zk (Zk (Zv Z5 (Zv Z5 (Zk ?_)))))))))))
    exact Zk (Zk (Zk (Zk (Zv Z5 (Zv Z5 (ZN (zG (ZF Z5 Tryz.results32 (fun w hO => ⟨by simp [h1], hO.below⟩)))))))))
end
section
abbrev ZQ (x : Co) : Array Value := #[.int .i64 x.op, .int .i64 x.parts, .int .i64 x.v.maj, .int .i64 x.v.min, .int .i64 x.v.pat, .string (mkS x.v.pre), .string (mkS x.v.build)]
def coV (c : Co) : Value := .agg #[.int .i64 c.op, .int .i64 c.parts, .int .i64 c.v.maj, .int .i64 c.v.min, .int .i64 c.v.pat, .string (mkS c.v.pre), .string (mkS c.v.build)]
def Co.short (c : Co) : Prop := c.v.short
def bC (p : Int) (v : Ver) : Ver := ⟨if p < 1 then 0 else v.maj, if p < 2 then 0 else v.min, if p < 3 then 0 else v.pat, if p < 3 then [] else v.pre, []⟩
def xS (l : List Int) (i : Nat) : Co :=
  ⟨1 + plc (atL l (i + 5)) 9, if 1 + plc (atL l (i + 5)) 9 = 9 then plc (atL l (i + 6)) 3 else 1 + plc (atL l (i + 6)) 3, bC (if 1 + plc (atL l (i + 5)) 9 = 9 then plc (atL l (i + 6)) 3 else 1 + plc (atL l (i + 6)) 3) (zR l i)⟩
theorem told_may {p : Int} {v : Ver} (h : v.may = true) : (bC p v).may = true := by
  obtain ⟨h1, h2, h3⟩ := qY h
  have h4 := mW h
  have k0 : yP 0 = true := by decide
  have kp : vV [] = true := by decide
  have kb : qN [] = true := by decide
  unfold Ver.may bC
  dsimp only
  have e1 : yP (if p < 1 then 0 else v.maj) = true := by split <;> assumption
  have e2 : yP (if p < 2 then 0 else v.min) = true := by split <;> assumption
  have e3 : yP (if p < 3 then 0 else v.pat) = true := by split <;> assumption
  have e4 : vV (if p < 3 then [] else v.pre) = true := by split <;> assumption
  rw [e1, e2, e3, e4, kb]; rfl
theorem genCo_may (l : List Int) (i : Nat) : (xS l i).may = true := by
  have h5 := plc_in (atL l (i + 5)) 9 (by omega)
  have h6 := plc_in (atL l (i + 6)) 3 (by omega)
  unfold xS
  generalize plc (atL l (i + 5)) 9 = a at h5 ⊢
  generalize plc (atL l (i + 6)) 3 = b at h6 ⊢
  unfold Co.may
  dsimp only
  rw [told_may (gen_may l i)]
  have e : (1 ≤ 1 + a ∧ 1 + a ≤ 9) := by omega
  rw [decide_eq_true e, show (bC (if 1 + a = 9 then b else 1 + b) (zR l i)).build = [] from rfl]
  unfold bC
  dsimp only
  by_cases h9 : 1 + a = 9
  · rw [if_pos h9, if_pos h9]
    have : b = 0 ∨ b = 1 ∨ b = 2 := by omega
    rcases this with rfl | rfl | rfl <;> simp
  · rw [if_neg h9, if_neg h9]
    have : b = 0 ∨ b = 1 ∨ b = 2 := by omega
    rcases this with rfl | rfl | rfl <;> simp
theorem told_short {p : Int} {v : Ver} (h : v.pre.length ≤ 1000000) : (bC p v).short := by
  refine ⟨?_, Nat.zero_le _⟩
  unfold bC
  dsimp only
  by_cases hp : p < 3
  · rw [if_pos hp]; exact Nat.zero_le _
  · rw [if_neg hp]; exact h
theorem genCo_short (l : List Int) (i : Nat) : (xS l i).short := told_short (Nat.le_trans (gen_pre l i) (by decide))
end
section
end
section
theorem rjoin_any (v : Value) (l : List (List UInt8)) (b : UInt8) (w : World) (hv : ReadsT w w.heap.size v l) (hl : (yC b l).length ≤ 1000000000) (hn : l.length ≤ 1000000000) :
    Calls Tryz.prog 127 #[v, .int .u8 b.toNat] w fun e w' => e = .returned (.string (mkS (yC b l))) ∧ Below w.heap.size w w' := by
  have hcv := fun (w : World) (x : Int) => conv1 w x
  obtain ⟨A, cap, rfl, hcell⟩ := hv
  go_enter Tryz.func127, Tryz.ntmps127
  go_wp2
  go_loopw [5, 6] (fun sv iv wr => ∃ (k : Nat), iv = .int .i64 k ∧ k ≤ l.length ∧ sv = .string (mkS (yC b (l.take k))) ∧ Below w.heap.size w wr) (fun _ iv _ => l.length - (intOf iv).toNat)
  case atStart => exact ⟨0, rfl, Nat.zero_le _, rfl, Below.refl _ _⟩
  case round =>
    obtain ⟨k, rfl, hk, rfl, hb⟩ := hrel
    have hsz := hb.size
    by_cases hp : k < l.length
    · obtain ⟨ad, rfl, hlt, hc⟩ := hcell (by omega)
      have hck : wr.cell? (ad.add k) = some (.string (mkS l[k])) := (hb.cell (by rw [fQ]; exact hlt)).trans (hc k hp)
      have hln : (yC b (l.take (k + 1))).length ≤ 1000000000 := Nat.le_trans (nQ b l (k + 1)) hl
      have HJ := Lib.hid (joinL_snoc b (l.take k) l[k])
      rw [← take_snocL l k hp] at HJ
      clear hc hcell
      by_cases h0 : k = 0
      · subst h0
        have hx1 : (mkS (yC b [])).size ≤ 0 := by rw [dJ]; simp [yC]
        have hx2 : (mkS l[0]).size ≤ 1000000000 := by
          rw [dJ]; rw [HJ.out, if_pos List.take_zero] at hln; exact hln
        have hck0 : wr.cell? ad = some (.string (mkS l[0])) := hck
        clear hck
        go_wp2
        go_roundw
        case rel => exact ⟨0 + 1, by go_num, by omega, by rw [HJ.out, if_pos List.take_zero, fG]; rfl, hb⟩
        case measure => simp [intOf]; omega
      · have h0p : 0 < k := by omega
        have hlen : (yC b (l.take k)).length + (l[k].length + 1) ≤ 1000000000 := by
          rw [HJ.out, if_neg (uZ l k hp h0p), List.length_append, List.length_cons] at hln; exact hln
        have hx1 : (mkS (yC b (l.take k))).size + ((mkS l[k]).size + 1) ≤ 1000000000 := by rw [dJ, dJ]; exact hlen
        have hx2 : (one (b.toNat : Int)).size ≤ 1 := Nat.le_refl _
        have hx3 : (mkS (yC b (l.take k)) ++ one (b.toNat : Int)).size ≤ (mkS (yC b (l.take k))).size + 1 := by rw [ByteArray.size_append]; omega
        clear hlen
        have hck2 := fun o => (World.cell?_alloc_lt wr o (ad.add k) (by rw [fQ]; omega)).trans hck
        clear hck
        go_wp2
        go_roundw
        case rel => exact ⟨k + 1, by go_num, by omega, by rw [HJ.out, if_neg (uZ l k hp h0p), one_mk, fG, fG, List.append_assoc]; rfl, hb.alloc hsz _⟩
        case measure => simp [intOf]; omega
    · obtain rfl : k = l.length := by omega
      go_wp2
      go_ret
      exact ⟨tJ (by rw [List.take_length]), hb⟩
end
section
theorem Reads.load {P : Program} {α : Type} {g : α → List Value} {sz : Nat} (hg : ∀ x, (g x).length = sz) {ty : TypeId} {w : World} {B b off o : Nat} {A : Option Addr} {l : List α} (h : Reads g w B A l) (hA : A = some ⟨b, off, none⟩) (k fo : Nat) (hk : k < l.length) (ho : o = off + k * sz + fo) (v : Value)
    (hr : kF P ty ((g l[k]).drop fo).toArray 0 = some v) : (loadVar ty ⟨b, o, none⟩).run P w = .ok v w := by
  subst hA
  obtain ⟨b', off', e, hlt, hcell⟩ := h (by omega)
  obtain ⟨rfl, rfl⟩ : b = b' ∧ off = off' := by simp at e; exact e
  exact yF hg hcell k fo hk ho v hr
end
section
def SlT (v : Value) (l : List (List UInt8)) (ob : List Blk) : Prop := Sl 9 1 v l.length (qW l) ob
theorem SlT.form {v : Value} {l : List (List UInt8)} {ob : List Blk} (h : SlT v l ob) : ∃ A cap, v = .slice A l.length cap := by
  rcases h.2 with ⟨h1, h2, _⟩ | ⟨g, cap, cur, h1, _⟩
  · exact ⟨none, 0, by rw [h1, h2]⟩
  · exact ⟨_, _, h1⟩
def tD (x : List UInt8) : List Value := [.string (mkS x)]
theorem d5 (x : List UInt8) : (tD x).length = 1 := rfl
theorem wH : ∀ (l : List (List UInt8)), qW l = l.flatMap tD
  | [] => rfl
  | x :: l => by
    show Value.string (mkS x) :: qW l = [Value.string (mkS x)] ++ l.flatMap tD
    rw [wH l]; rfl
theorem SlT.reads {A : Option Addr} {n cap : Nat} {l : List (List UInt8)} {ob L : List Blk} {M : List Nat} {W w : World} (h : SlT (.slice A n cap) l ob) (hn : l.length = n) (hO : Own M W w L) (hs : ∀ x ∈ ob, x ∈ L) : Reads tD w w.heap.size A l := by
  subst hn
  unfold SlT at h
  rw [wH] at h
  exact Sl.reads h rfl hO hs
theorem SlT.readsT {v : Value} {l : List (List UInt8)} {ob L : List Blk} {M : List Nat} {W w : World} (h : SlT v l ob) (hO : Own M W w L) (hs : ∀ x ∈ ob, x ∈ L) : ReadsT w w.heap.size v l := by
  obtain ⟨A, cap, rfl⟩ := h.form
  refine ⟨A, cap, rfl, fun h0 => ?_⟩
  obtain ⟨b, off, e, hlt, hc⟩ := SlT.reads h rfl hO hs h0
  refine ⟨⟨b, off, none⟩, e, hlt, fun j hj => ?_⟩
  rw [y7]
  refine hc j _ ?_
  rw [← wH]
  unfold qW
  rw [List.getElem?_map, List.getElem?_eq_getElem hj]; rfl
theorem slt_lit (l : List (List UInt8)) (b : Nat) (cur : Array Value) (h : cur.toList = qW l) (hm : l.length ≤ maxLen) : SlT (.slice (some ⟨b, 0, none⟩) l.length l.length) l [⟨b, cur, 9⟩] := by
  have hc : cur.toList.length = l.length := by rw [h, jE]
  refine ⟨by rw [jE]; omega, .inr ⟨b, l.length, cur, rfl, rfl, Nat.le_refl _, hm, by rw [← Array.length_toList, hc]; omega, ?_⟩⟩
  rw [h]
  exact List.take_of_length_le (by rw [jE]; omega)
theorem str_cells (l : List (List UInt8)) : ∀ u ∈ qW l, u.oneCell' = true := fun u hu => by
  unfold qW at hu
  obtain ⟨x, _, rfl⟩ := List.mem_map.1 hu; rfl
end
section
theorem run_slhm {P : Program} {ρ : Operand → Value} {o : Oper} {t e : TypeId} {x z y : Operand} {b n c sz : Nat} {k q : IntKind} {j m : Int} (ho : o.op = .slice t x none (some z) (some y)) (hx : ρ x = .slice (some ⟨b, 0, none⟩) n c) (hz : ρ z = .int k j) (hy : ρ y = .int q m)
    (hu : P.underlying t = some (.slice e)) (hs : (P.info? e).map (·.size) = some sz) (h0 : 0 ≤ j) (h1 : j ≤ m) (h2 : m ≤ c) (w : World) : (execOp ρ o).run P w = .ok (.value (.slice (some ⟨b, 0, none⟩) j.toNat m.toNat)) w := by
  cases he : P.info? e with
  | none => rw [he] at hs; cases hs
  | some i =>
    rw [he] at hs
    obtain rfl := Option.some.inj hs
    have h3 : 0 ≤ m := Int.le_trans h0 h1
    unfold execOp
    simp [ho, hx, hz, hy, Instr.sliceAt, Instr.slice, Instr.sliceBounds, Instr.sliceBound, Sem.run_bind, asIntOf, run_underlying hu, h0, h1, h2, h3, sizeOf, typeInfo, he, y7]
    try (first | omega | (rw [if_pos (by omega)]; simp [y7]))
theorem x1 {P : Program} {ρ : Operand → Value} {o : Oper} {t t' : TypeId} {x y : Operand} {a b : List UInt8} (ho : o.op = .binOp .add t x y t') (hx : ρ x = .string (mkS a)) (hy : ρ y = .string (mkS b)) (hb : a.length + b.length ≤ 4000000000) (w : World) : (execOp ρ o).run P w = .ok (.value (.string (mkS (a ++ b)))) w := by
  unfold execOp
  have h1 : ¬ (9223372036854775807 : Int) < ((mkS a).size : Int) + ((mkS b).size : Int) := by rw [xV, xV]; omega
  simp [ho, hx, hy, Sem.run_bind, eqGuard, binOp, Op.stringOp, fG, h1]
theorem run_min2 {P : Program} {ρ : Operand → Value} {o : Oper} {t t' : TypeId} {x y : Operand} {k q : IntKind} {i j : Int} (ho : o.op = .call { callee := .builtin .min, args := #[x, y], argTypes := #[t, t'] }) (hx : ρ x = .int k i) (hy : ρ y = .int q j) (w : World) : (execOp ρ o).run P w = .ok (.value (.int k (min i j))) w := by
  unfold execOp
  have e : min i j = if j < i then j else i := by split <;> omega
  simp [ho, resolve, invoke, builtin, Builtin.min_, Builtin.min2, hx, hy, e]
section
variable {M : List Nat} {P : Program} {n0 : Nat} {ops : Array Oper} {W : World} {Q : Exit → Act → World → Prop} {rest : List Oper} {o : Oper} {L : List Blk} {f : Nat → Value}
theorem s_appendF {t T : TypeId} {s x : Operand} {i : TypeInfo} {z : Value} {sz : Nat} (hw : xR ops n0 f o = true) (ho : o.op = .call { callee := .builtin .append, args := #[s, x], argTypes := #[t, t] })
    (ht : P.underlying t = some (.slice T)) (hi : P.info? T = some i) (hz : i.zero = some z) (hsz : i.size = sz) (hzs : z.cells.size = sz)
    {b : Addr} {n cap : Nat} {xs : List Value} (hs : ev n0 f s = .slice (some b) n cap) (hxl : xs.length = n * sz) (hxs : ∀ w, Own M W w L → ∀ j u, xs[j]? = some u → w.cell? (b.add j) = some u)
    {a : Addr} {m c : Nat} {news : List Value} (hx : ev n0 f x = .slice (some a) m c) (hl : news.length = m * sz) (hnews : ∀ w, Own M W w L → ∀ j u, news[j]? = some u → w.cell? (a.add j) = some u)
    (hroom : cap < n + m) (h63 : n + m ≤ maxLen) (hbytes : (n + m) * i.bytes ≤ 140737488355328)
    (h : ∀ v' ob', Sl T sz v' (n + m) (xs ++ news) ob' → Seg M P n0 ops W Q rest (ob' ++ L) (upd f o.dst v')) : Seg M P n0 ops W Q (o :: rest) L f :=
  jA hw fun w hO => by
    subst hsz
    have hsmall : n + m ≤ 9223372036854775807 := by simp only [maxLen] at h63; omega
    have hlen : (xs ++ news).length = (n + m) * i.size := by rw [List.length_append, hxl, hl, Nat.add_mul]
    have hr := run_append_grow (P := P) w t o.type T i z ht hi hz b n cap xs hxl (hxs w hO) a m c news hl (hnews w hO) (by omega) (by omega) (growslice_fits (by omega) hbytes)
    have hge := grownCap_ge w (n + m) cap T
    have hcm := grownCap_le_maxLen w (n + m) cap T h63
    refine vW _ (w' := _) ?_ ((h _ [⟨w.heap.size, xs.toArray ++ news.toArray ++ Builtin.zeroCells z.cells (grownCap w (n + m) cap T - (n + m)), T⟩] ⟨hlen, .inr ⟨w.heap.size, grownCap w (n + m) cap T, _, rfl, rfl, hge, hcm, ?_, ?_⟩⟩).go _ ((tY hO).alloc (xs.toArray ++ news.toArray ++ Builtin.zeroCells z.cells (grownCap w (n + m) cap T - (n + m))) T))
    · unfold execOp
      simp only [ho, resolve, invoke, builtin, Sem.run_bind, Sem.run_pure, Result.andThen_ok, List.map_toArray, List.map_cons, List.map_nil, hs, hx, hr]
    · simp only [Array.size_append, List.size_toArray, size_zeroCells, hzs, hxl, hl, ← Nat.add_mul]
      congr 1
      omega
    · simp only [Array.toList_append, List.append_assoc]
      rw [← List.append_assoc, ← hlen]
      exact List.take_left
end
section
variable {M : List Nat} {P : Program} {n : Nat} {ops : Array Oper} {W : World} {L0 : List Blk} {Q : Exit → Act → World → Prop} {fuel : Nat} {listed : Array Bool} {f : Nat → Value}
end
end
section
theorem bump_short (v : Ver) (k : Int) : (x9 v k).short := by
  by_cases h : yQ v k = true
  · obtain ⟨a, b, c, e⟩ := bump_rel h
    rw [e]; exact ⟨Nat.zero_le _, Nat.zero_le _⟩
  · unfold x9
    rw [if_neg h]; exact ⟨Nat.zero_le _, Nat.zero_le _⟩
def uP (v : Ver) (z : Int) : Cu := if z < 0 then y8 1 else qO v z.toNat
theorem highZ_hit {v : Ver} {z : Int} (h0 : 0 ≤ z) (h : yQ v z = true) : uP v z = ⟨0, x9 v z, false⟩ := by
  unfold uP
  rw [if_neg (by omega)]
  obtain ⟨k, rfl⟩ : ∃ k : Nat, z = k := ⟨z.toNat, by omega⟩
  rw [Int.toNat_natCast]
  cases k with
  | zero => unfold qO; exact if_pos h
  | succ k => unfold qO; rw [if_pos h]
theorem highZ_next {v : Ver} {z : Int} (h0 : 0 ≤ z) (h : yQ v z = false) : uP v z = uP v (z - 1) := by
  unfold uP
  rw [if_neg (by omega)]
  obtain ⟨k, rfl⟩ : ∃ k : Nat, z = k := ⟨z.toNat, by omega⟩
  rw [Int.toNat_natCast]
  cases k with
  | zero => unfold qO; rw [if_neg (by rw [show ((0 : Nat) : Int) = 0 from rfl] at h; rw [h]; decide), if_pos (by decide)]
  | succ k =>
    unfold qO
    rw [if_neg (by rw [h]; decide), if_neg (by omega)]
    rw [show (((k + 1 : Nat) : Int) - 1).toNat = k from by omega]
    cases k <;> rfl
theorem rcMay_any (c : Co) (W : World) (hc : c.short) : Calls Tryz.prog 79 #[coV c] W fun e w' => e = .returned (.bool c.may) ∧ Below W.heap.size W w' := by
  refine Z2 (n := 80) Tryz.func79 rfl (ZO (Zb (coV c) (fun b1 => Zv Z5 (ZN (zB (ZO (Zv (Zp b1 0) (Zl 0 ⟨b1, (coV c).cells, 51⟩ (off := 0) (.int .i64 c.op) ?_))))))))
  by_cases h1 : (c.op : Int) < 1
  · refine Zg h1 (Zv Z4 (Zk (Zk (Zk (Zv Z4 (Zv Z4 (Zk (Zk (Zk (Zk (Zv Z4 ?_)))))))))))
    refine Zv Z4 (Zk (Zk (Zk (Zk (Zv Z4 (ZY (ZO (Zv Z5 ?_))))))))
    exact ZN (zG (zD (ZF Z5 Tryz.results79 (fun w hO => ⟨by rw [show c.may = false from Bool.eq_false_iff.2 fun q0 => by have q1 := Co.may_iff.1 q0; grind], hO.below⟩))))
  refine Zh h1 (Zv Z5 (Zv (Zp b1 0) (Zl 0 ⟨b1, (coV c).cells, 51⟩ (off := 0) (.int .i64 c.op) ?_)))
  by_cases h2 : (9 : Int) < c.op
  · refine Zg h2 (Zv Z4 (Zv Z4 (Zk (Zk (Zk (Zk (Zv Z4 (Zv Z4 (Zk (Zk (Zk ?_)))))))))))
    refine Zk (Zv Z4 (ZY (ZO (Zv Z5 (ZN (zG (zD ?_)))))))
    exact ZF Z5 Tryz.results79 (fun w hO => ⟨by rw [show c.may = false from Bool.eq_false_iff.2 fun q0 => by have q1 := Co.may_iff.1 q0; grind], hO.below⟩)
  refine Zh h2 (Zv Z5 (Zv Z5 (Zv (Zp b1 2) (Zl 0 ⟨b1, (coV c).cells, 51⟩ (off := 2) (.agg (ZP c.v)) (Zc (k := 56) (args := #[.agg (ZP c.v)]) (.bool c.v.may) (fun w _ => wN c.v w hc.1 hc.2) ?_)))))
  cases h3 : c.v.may with
  | true =>
    refine Zv Z5 (Zv Z5 (Zv Z5 (Zv (Zp b1 2) (Zv (Zp b1 6) (Zl 0 ⟨b1, (coV c).cells, 51⟩ (off := 6) (.string (mkS c.v.build)) ?_)))))
    by_cases h4 : (c.v.build : List UInt8) = []
    · refine zX Z5 (by kernel_rfl) (xI (a := c.v.build) (b := ([])) rfl (by kernel_rfl) (by kernel_rfl) (decide_eq_true (h4))) (Zv Z5 (ZX (ZB (ZO (Zv (.int .i64 1) (Zv (.int .i64 3) (zU ?_)))))))
      refine zF (zB (ZO (Zv (Zp b1 0) (Zl 0 ⟨b1, (coV c).cells, 51⟩ (off := 0) (.int .i64 c.op) ?_))))
      by_cases h5 : (c.op : Int) = 9
      · refine Zg h5 (ZN (j6 (fun L f => ∃ (lo : Int) (hi : Int) (j : Nat → Value), ((c.op = 9 → lo = 0 ∧ hi = 2) ∧ (¬ c.op = 9 → lo = 1 ∧ hi = 3)) ∧ L = [⟨b1, (coV c).cells, 51⟩] ∧ f = kL j [(1, Zp b1 0), (3, .int .i64 lo), (4, .int .i64 hi)]) ?_ ?_))
        · exact Zt (zC (Zv (.int .i64 0) (Zv (.int .i64 2) (zU (zW ⟨0, 2, _, ⟨by omega, by omega⟩, rfl, ZU⟩)))))
        · rintro L f ⟨lo, hi, j, hj3, rfl, rfl⟩
          refine zF (zB (zB (j6 (fun L f => ∃ (bad : Bool) (j : Nat → Value), ((bad = true → ¬ (lo ≤ c.parts ∧ c.parts ≤ hi ∧ (3 ≤ c.parts ∨ c.v.pre = []))) ∧ (bad = false → lo ≤ c.parts ∧ c.parts ≤ hi ∧ (3 ≤ c.parts ∨ c.v.pre = []))) ∧ L = [⟨b1, (coV c).cells, 51⟩] ∧ f = kL j [(1, Zp b1 0), (48, .bool bad)]) ?_ ?_)))
          · refine zC (Zv (Zp b1 1) (Zl 0 ⟨b1, (coV c).cells, 51⟩ (off := 1) (.int .i64 c.parts) (Zv (.int .i64 lo) ?_)))
            by_cases h6 : (c.parts : Int) < lo
            · refine Zg h6 (Zv Z4 (Zk (Zk (Zk (Zk (Zv Z4 (Zv Z4 (Zk (Zk (Zk (Zk ?_)))))))))))
              exact Zk (Zk (Zk (Zk (Zk (Zv Z4 (zU (zW ⟨true, _, ⟨fun q0 => by grind, fun q0 => absurd q0 (by decide)⟩, rfl, ZU⟩)))))))
            refine Zh h6 (Zv Z5 (Zv (Zp b1 1) (Zl 0 ⟨b1, (coV c).cells, 51⟩ (off := 1) (.int .i64 c.parts) (Zv (.int .i64 hi) ?_))))
            by_cases h7 : (hi : Int) < c.parts
            · refine Zg h7 (Zv Z4 (Zv Z4 (Zk (Zk (Zk (Zk (Zk (Zk (Zk (Zk (Zk ?_)))))))))))
              exact Zv Z4 (zU (zW ⟨true, _, ⟨fun q0 => by grind, fun q0 => absurd q0 (by decide)⟩, rfl, ZU⟩))
            refine Zh h7 (Zv Z5 (Zv Z5 (Zv (Zp b1 1) (Zl 0 ⟨b1, (coV c).cells, 51⟩ (off := 1) (.int .i64 c.parts) ?_))))
            by_cases h8 : (c.parts : Int) < 3
            · refine Zg h8 (Zv Z4 (Zv (Zp b1 2) (Zv (Zp b1 5) (Zl 0 ⟨b1, (coV c).cells, 51⟩ (off := 5) (.string (mkS c.v.pre)) ?_))))
              by_cases h9 : (c.v.pre : List UInt8) = []
              · exact zX Z5 (by kernel_rfl) (xI (a := c.v.pre) (b := ([])) rfl (by kernel_rfl) (by kernel_rfl) (decide_eq_true (h9))) (Zv Z5 (Zv Z5 (zU (zW ⟨false, _, ⟨fun q0 => absurd q0 (by decide), fun q0 => ⟨by omega, by omega, by first | exact .inr (by assumption) | exact .inl (by omega)⟩⟩, rfl, ZU⟩))))
              exact zX Z4 (by kernel_rfl) (xI (a := c.v.pre) (b := ([])) rfl (by kernel_rfl) (by kernel_rfl) (decide_eq_false (h9))) (Zv Z4 (Zv Z4 (zU (zW ⟨true, _, ⟨fun q0 => by grind, fun q0 => absurd q0 (by decide)⟩, rfl, ZU⟩))))
            exact Zh h8 (Zv Z5 (Zk (Zk (Zk (Zk (Zv Z5 (Zv Z5 (zU (zW ⟨false, _, ⟨fun q0 => absurd q0 (by decide), fun q0 => ⟨by omega, by omega, by first | exact .inr (by assumption) | exact .inl (by omega)⟩⟩, rfl, ZU⟩)))))))))
          · rintro L f ⟨bad, j, hj2, rfl, rfl⟩
            refine zF ?_
            cases h10 : bad with
            | true =>
              exact Zt (ZO (Zv Z5 (ZN (zG (zD (ZF Z5 Tryz.results79 (fun w hO => ⟨by rw [show c.may = false from Bool.eq_false_iff.2 fun q0 => by have q1 := Co.may_iff.1 q0; grind], hO.below⟩)))))))
            | false =>
              refine Zf (ZB (ZO (Zv (Zp b1 1) (Zl 0 ⟨b1, (coV c).cells, 51⟩ (off := 1) (.int .i64 c.parts) ?_))))
              by_cases h11 : (0 : Int) < c.parts
              · refine Zg h11 (Zv Z4 (Zk (Zk (Zk (Zk (Zv Z4 (Zv Z4 (Zv (Zp b1 1) (Zl 0 ⟨b1, (coV c).cells, 51⟩ (off := 1) (.int .i64 c.parts) ?_)))))))))
                by_cases h12 : (1 : Int) < c.parts
                · refine Zg h12 (Zv Z4 (Zk (Zk (Zk (Zk (Zv Z4 (Zv Z4 (Zv Z4 (Zv (Zp b1 1) (Zl 0 ⟨b1, (coV c).cells, 51⟩ (off := 1) (.int .i64 c.parts) ?_))))))))))
                  by_cases h13 : (2 : Int) < c.parts
                  · refine Zg h13 (Zv Z4 (Zk (Zk (Zk (Zk (Zv Z4 (Zv Z4 (Zv Z4 (ZN (zG ?_))))))))))
                    exact ZF Z4 Tryz.results79 (fun w hO => ⟨by rw [Co.may_iff.2 ⟨by omega, by assumption, by assumption, by grind, by grind, by grind, by omega, by omega, by omega⟩], hO.below⟩)
                  refine Zh h13 (Zv Z5 (Zv (Zp b1 2) (Zv (Zp b1 4) (Zl 0 ⟨b1, (coV c).cells, 51⟩ (off := 4) (.int .i64 c.v.pat) ?_))))
                  by_cases h14 : (c.v.pat : Int) = 0
                  · exact Zg h14 (Zv Z4 (Zv Z4 (Zv Z4 (ZN (zG (ZF Z4 Tryz.results79 (fun w hO => ⟨by rw [Co.may_iff.2 ⟨by omega, by assumption, by assumption, by grind, by grind, by grind, by omega, by omega, by omega⟩], hO.below⟩)))))))
                  exact Zh h14 (Zv Z5 (Zv Z5 (Zv Z5 (ZN (zG (ZF Z5 Tryz.results79 (fun w hO => ⟨by rw [show c.may = false from Bool.eq_false_iff.2 fun q0 => by have q1 := Co.may_iff.1 q0; grind], hO.below⟩)))))))
                refine Zh h12 (Zv Z5 (Zv (Zp b1 2) (Zv (Zp b1 3) (Zl 0 ⟨b1, (coV c).cells, 51⟩ (off := 3) (.int .i64 c.v.min) ?_))))
                by_cases h15 : (c.v.min : Int) = 0
                · refine Zg h15 (Zv Z4 (Zv Z4 (Zv Z4 (Zv (Zp b1 1) (Zl 0 ⟨b1, (coV c).cells, 51⟩ (off := 1) (.int .i64 c.parts) ?_)))))
                  by_cases h16 : (2 : Int) < c.parts
                  · refine Zg h16 (Zv Z4 (Zk (Zk (Zk (Zk (Zv Z4 (Zv Z4 (Zv Z4 (ZN (zG ?_))))))))))
                    exact ZF Z4 Tryz.results79 (fun w hO => ⟨by rw [Co.may_iff.2 ⟨by omega, by assumption, by assumption, by grind, by grind, by grind, by omega, by omega, by omega⟩], hO.below⟩)
                  refine Zh h16 (Zv Z5 (Zv (Zp b1 2) (Zv (Zp b1 4) (Zl 0 ⟨b1, (coV c).cells, 51⟩ (off := 4) (.int .i64 c.v.pat) ?_))))
                  by_cases h17 : (c.v.pat : Int) = 0
                  · exact Zg h17 (Zv Z4 (Zv Z4 (Zv Z4 (ZN (zG (ZF Z4 Tryz.results79 (fun w hO => ⟨by rw [Co.may_iff.2 ⟨by omega, by assumption, by assumption, by grind, by grind, by grind, by omega, by omega, by omega⟩], hO.below⟩)))))))
                  exact Zh h17 (Zv Z5 (Zv Z5 (Zv Z5 (ZN (zG (ZF Z5 Tryz.results79 (fun w hO => ⟨by rw [show c.may = false from Bool.eq_false_iff.2 fun q0 => by have q1 := Co.may_iff.1 q0; grind], hO.below⟩)))))))
                refine Zh h15 (Zv Z5 (Zv Z5 (Zv Z5 (Zk (Zk (Zk (Zk (Zk (Zk (Zk (Zk ?_)))))))))))
                exact Zk (Zv Z5 (Zv Z5 (ZN (zG (ZF Z5 Tryz.results79 (fun w hO => ⟨by rw [show c.may = false from Bool.eq_false_iff.2 fun q0 => by have q1 := Co.may_iff.1 q0; grind], hO.below⟩))))))
              refine Zh h11 (Zv Z5 (Zv (Zp b1 2) (Zv (Zp b1 2) (Zl 0 ⟨b1, (coV c).cells, 51⟩ (off := 2) (.int .i64 c.v.maj) ?_))))
              by_cases h18 : (c.v.maj : Int) = 0
              · refine Zg h18 (Zv Z4 (Zv Z4 (Zv (Zp b1 1) (Zl 0 ⟨b1, (coV c).cells, 51⟩ (off := 1) (.int .i64 c.parts) ?_))))
                by_cases h19 : (1 : Int) < c.parts
                · refine Zg h19 (Zv Z4 (Zk (Zk (Zk (Zk (Zv Z4 (Zv Z4 (Zv Z4 (Zv (Zp b1 1) (Zl 0 ⟨b1, (coV c).cells, 51⟩ (off := 1) (.int .i64 c.parts) ?_))))))))))
                  by_cases h20 : (2 : Int) < c.parts
                  · refine Zg h20 (Zv Z4 (Zk (Zk (Zk (Zk (Zv Z4 (Zv Z4 (Zv Z4 (ZN (zG ?_))))))))))
                    exact ZF Z4 Tryz.results79 (fun w hO => ⟨by rw [Co.may_iff.2 ⟨by omega, by assumption, by assumption, by grind, by grind, by grind, by omega, by omega, by omega⟩], hO.below⟩)
                  refine Zh h20 (Zv Z5 (Zv (Zp b1 2) (Zv (Zp b1 4) (Zl 0 ⟨b1, (coV c).cells, 51⟩ (off := 4) (.int .i64 c.v.pat) ?_))))
                  by_cases h21 : (c.v.pat : Int) = 0
                  · exact Zg h21 (Zv Z4 (Zv Z4 (Zv Z4 (ZN (zG (ZF Z4 Tryz.results79 (fun w hO => ⟨by rw [Co.may_iff.2 ⟨by omega, by assumption, by assumption, by grind, by grind, by grind, by omega, by omega, by omega⟩], hO.below⟩)))))))
                  exact Zh h21 (Zv Z5 (Zv Z5 (Zv Z5 (ZN (zG (ZF Z5 Tryz.results79 (fun w hO => ⟨by rw [show c.may = false from Bool.eq_false_iff.2 fun q0 => by have q1 := Co.may_iff.1 q0; grind], hO.below⟩)))))))
                refine Zh h19 (Zv Z5 (Zv (Zp b1 2) (Zv (Zp b1 3) (Zl 0 ⟨b1, (coV c).cells, 51⟩ (off := 3) (.int .i64 c.v.min) ?_))))
                by_cases h22 : (c.v.min : Int) = 0
                · refine Zg h22 (Zv Z4 (Zv Z4 (Zv Z4 (Zv (Zp b1 1) (Zl 0 ⟨b1, (coV c).cells, 51⟩ (off := 1) (.int .i64 c.parts) ?_)))))
                  by_cases h23 : (2 : Int) < c.parts
                  · refine Zg h23 (Zv Z4 (Zk (Zk (Zk (Zk (Zv Z4 (Zv Z4 (Zv Z4 (ZN (zG ?_))))))))))
                    exact ZF Z4 Tryz.results79 (fun w hO => ⟨by rw [Co.may_iff.2 ⟨by omega, by assumption, by assumption, by grind, by grind, by grind, by omega, by omega, by omega⟩], hO.below⟩)
                  refine Zh h23 (Zv Z5 (Zv (Zp b1 2) (Zv (Zp b1 4) (Zl 0 ⟨b1, (coV c).cells, 51⟩ (off := 4) (.int .i64 c.v.pat) ?_))))
                  by_cases h24 : (c.v.pat : Int) = 0
                  · exact Zg h24 (Zv Z4 (Zv Z4 (Zv Z4 (ZN (zG (ZF Z4 Tryz.results79 (fun w hO => ⟨by rw [Co.may_iff.2 ⟨by omega, by assumption, by assumption, by grind, by grind, by grind, by omega, by omega, by omega⟩], hO.below⟩)))))))
                  exact Zh h24 (Zv Z5 (Zv Z5 (Zv Z5 (ZN (zG (ZF Z5 Tryz.results79 (fun w hO => ⟨by rw [show c.may = false from Bool.eq_false_iff.2 fun q0 => by have q1 := Co.may_iff.1 q0; grind], hO.below⟩)))))))
                refine Zh h22 (Zv Z5 (Zv Z5 (Zv Z5 (Zk (Zk (Zk (Zk (Zk (Zk (Zk (Zk ?_)))))))))))
                exact Zk (Zv Z5 (Zv Z5 (ZN (zG (ZF Z5 Tryz.results79 (fun w hO => ⟨by rw [show c.may = false from Bool.eq_false_iff.2 fun q0 => by have q1 := Co.may_iff.1 q0; grind], hO.below⟩))))))
              refine Zh h18 (Zv Z5 (Zv Z5 (Zk (Zk (Zk (Zk (Zk (Zk (Zk (Zk (Zk ?_)))))))))))
              refine Zv Z5 (Zv Z5 (Zk (Zk (Zk (Zk (Zk (Zk (Zk (Zk (Zk (Zv Z5 ?_)))))))))))
              exact Zv Z5 (ZN (zG (ZF Z5 Tryz.results79 (fun w hO => ⟨by rw [show c.may = false from Bool.eq_false_iff.2 fun q0 => by have q1 := Co.may_iff.1 q0; grind], hO.below⟩))))
      refine Zh h5 (ZN (j6 (fun L f => ∃ (lo : Int) (hi : Int) (j : Nat → Value), ((c.op = 9 → lo = 0 ∧ hi = 2) ∧ (¬ c.op = 9 → lo = 1 ∧ hi = 3)) ∧ L = [⟨b1, (coV c).cells, 51⟩] ∧ f = kL j [(1, Zp b1 0), (3, .int .i64 lo), (4, .int .i64 hi)]) ?_ ?_))
      · exact Zf (xD (zW ⟨1, 3, _, ⟨by omega, by omega⟩, rfl, ZU⟩))
      · rintro L f ⟨lo, hi, j, hj3, rfl, rfl⟩
        refine zF (zB (zB (j6 (fun L f => ∃ (bad : Bool) (j : Nat → Value), ((bad = true → ¬ (lo ≤ c.parts ∧ c.parts ≤ hi ∧ (3 ≤ c.parts ∨ c.v.pre = []))) ∧ (bad = false → lo ≤ c.parts ∧ c.parts ≤ hi ∧ (3 ≤ c.parts ∨ c.v.pre = []))) ∧ L = [⟨b1, (coV c).cells, 51⟩] ∧ f = kL j [(1, Zp b1 0), (48, .bool bad)]) ?_ ?_)))
        · refine zC (Zv (Zp b1 1) (Zl 0 ⟨b1, (coV c).cells, 51⟩ (off := 1) (.int .i64 c.parts) (Zv (.int .i64 lo) ?_)))
          by_cases h25 : (c.parts : Int) < lo
          · refine Zg h25 (Zv Z4 (Zk (Zk (Zk (Zk (Zv Z4 (Zv Z4 (Zk (Zk (Zk (Zk ?_)))))))))))
            exact Zk (Zk (Zk (Zk (Zk (Zv Z4 (zU (zW ⟨true, _, ⟨fun q0 => by grind, fun q0 => absurd q0 (by decide)⟩, rfl, ZU⟩)))))))
          refine Zh h25 (Zv Z5 (Zv (Zp b1 1) (Zl 0 ⟨b1, (coV c).cells, 51⟩ (off := 1) (.int .i64 c.parts) (Zv (.int .i64 hi) ?_))))
          by_cases h26 : (hi : Int) < c.parts
          · refine Zg h26 (Zv Z4 (Zv Z4 (Zk (Zk (Zk (Zk (Zk (Zk (Zk (Zk (Zk ?_)))))))))))
            exact Zv Z4 (zU (zW ⟨true, _, ⟨fun q0 => by grind, fun q0 => absurd q0 (by decide)⟩, rfl, ZU⟩))
          refine Zh h26 (Zv Z5 (Zv Z5 (Zv (Zp b1 1) (Zl 0 ⟨b1, (coV c).cells, 51⟩ (off := 1) (.int .i64 c.parts) ?_))))
          by_cases h27 : (c.parts : Int) < 3
          · refine Zg h27 (Zv Z4 (Zv (Zp b1 2) (Zv (Zp b1 5) (Zl 0 ⟨b1, (coV c).cells, 51⟩ (off := 5) (.string (mkS c.v.pre)) ?_))))
            by_cases h28 : (c.v.pre : List UInt8) = []
            · exact zX Z5 (by kernel_rfl) (xI (a := c.v.pre) (b := ([])) rfl (by kernel_rfl) (by kernel_rfl) (decide_eq_true (h28))) (Zv Z5 (Zv Z5 (zU (zW ⟨false, _, ⟨fun q0 => absurd q0 (by decide), fun q0 => ⟨by omega, by omega, by first | exact .inr (by assumption) | exact .inl (by omega)⟩⟩, rfl, ZU⟩))))
            exact zX Z4 (by kernel_rfl) (xI (a := c.v.pre) (b := ([])) rfl (by kernel_rfl) (by kernel_rfl) (decide_eq_false (h28))) (Zv Z4 (Zv Z4 (zU (zW ⟨true, _, ⟨fun q0 => by grind, fun q0 => absurd q0 (by decide)⟩, rfl, ZU⟩))))
          exact Zh h27 (Zv Z5 (Zk (Zk (Zk (Zk (Zv Z5 (Zv Z5 (zU (zW ⟨false, _, ⟨fun q0 => absurd q0 (by decide), fun q0 => ⟨by omega, by omega, by first | exact .inr (by assumption) | exact .inl (by omega)⟩⟩, rfl, ZU⟩)))))))))
        · rintro L f ⟨bad, j, hj2, rfl, rfl⟩
          refine zF ?_
          cases h29 : bad with
          | true =>
            exact Zt (ZO (Zv Z5 (ZN (zG (zD (ZF Z5 Tryz.results79 (fun w hO => ⟨by rw [show c.may = false from Bool.eq_false_iff.2 fun q0 => by have q1 := Co.may_iff.1 q0; grind], hO.below⟩)))))))
          | false =>
            refine Zf (ZB (ZO (Zv (Zp b1 1) (Zl 0 ⟨b1, (coV c).cells, 51⟩ (off := 1) (.int .i64 c.parts) ?_))))
            by_cases h30 : (0 : Int) < c.parts
            · refine Zg h30 (Zv Z4 (Zk (Zk (Zk (Zk (Zv Z4 (Zv Z4 (Zv (Zp b1 1) (Zl 0 ⟨b1, (coV c).cells, 51⟩ (off := 1) (.int .i64 c.parts) ?_)))))))))
              by_cases h31 : (1 : Int) < c.parts
              · refine Zg h31 (Zv Z4 (Zk (Zk (Zk (Zk (Zv Z4 (Zv Z4 (Zv Z4 (Zv (Zp b1 1) (Zl 0 ⟨b1, (coV c).cells, 51⟩ (off := 1) (.int .i64 c.parts) ?_))))))))))
                by_cases h32 : (2 : Int) < c.parts
                · refine Zg h32 (Zv Z4 (Zk (Zk (Zk (Zk (Zv Z4 (Zv Z4 (Zv Z4 (ZN (zG ?_))))))))))
                  exact ZF Z4 Tryz.results79 (fun w hO => ⟨by rw [Co.may_iff.2 ⟨by omega, by assumption, by assumption, by grind, by grind, by grind, by omega, by omega, by omega⟩], hO.below⟩)
                refine Zh h32 (Zv Z5 (Zv (Zp b1 2) (Zv (Zp b1 4) (Zl 0 ⟨b1, (coV c).cells, 51⟩ (off := 4) (.int .i64 c.v.pat) ?_))))
                by_cases h33 : (c.v.pat : Int) = 0
                · exact Zg h33 (Zv Z4 (Zv Z4 (Zv Z4 (ZN (zG (ZF Z4 Tryz.results79 (fun w hO => ⟨by rw [Co.may_iff.2 ⟨by omega, by assumption, by assumption, by grind, by grind, by grind, by omega, by omega, by omega⟩], hO.below⟩)))))))
                exact Zh h33 (Zv Z5 (Zv Z5 (Zv Z5 (ZN (zG (ZF Z5 Tryz.results79 (fun w hO => ⟨by rw [show c.may = false from Bool.eq_false_iff.2 fun q0 => by have q1 := Co.may_iff.1 q0; grind], hO.below⟩)))))))
              refine Zh h31 (Zv Z5 (Zv (Zp b1 2) (Zv (Zp b1 3) (Zl 0 ⟨b1, (coV c).cells, 51⟩ (off := 3) (.int .i64 c.v.min) ?_))))
              by_cases h34 : (c.v.min : Int) = 0
              · refine Zg h34 (Zv Z4 (Zv Z4 (Zv Z4 (Zv (Zp b1 1) (Zl 0 ⟨b1, (coV c).cells, 51⟩ (off := 1) (.int .i64 c.parts) ?_)))))
                by_cases h35 : (2 : Int) < c.parts
                · refine Zg h35 (Zv Z4 (Zk (Zk (Zk (Zk (Zv Z4 (Zv Z4 (Zv Z4 (ZN (zG ?_))))))))))
                  exact ZF Z4 Tryz.results79 (fun w hO => ⟨by rw [Co.may_iff.2 ⟨by omega, by assumption, by assumption, by grind, by grind, by grind, by omega, by omega, by omega⟩], hO.below⟩)
                refine Zh h35 (Zv Z5 (Zv (Zp b1 2) (Zv (Zp b1 4) (Zl 0 ⟨b1, (coV c).cells, 51⟩ (off := 4) (.int .i64 c.v.pat) ?_))))
                by_cases h36 : (c.v.pat : Int) = 0
                · exact Zg h36 (Zv Z4 (Zv Z4 (Zv Z4 (ZN (zG (ZF Z4 Tryz.results79 (fun w hO => ⟨by rw [Co.may_iff.2 ⟨by omega, by assumption, by assumption, by grind, by grind, by grind, by omega, by omega, by omega⟩], hO.below⟩)))))))
                exact Zh h36 (Zv Z5 (Zv Z5 (Zv Z5 (ZN (zG (ZF Z5 Tryz.results79 (fun w hO => ⟨by rw [show c.may = false from Bool.eq_false_iff.2 fun q0 => by have q1 := Co.may_iff.1 q0; grind], hO.below⟩)))))))
              refine Zh h34 (Zv Z5 (Zv Z5 (Zv Z5 (Zk (Zk (Zk (Zk (Zk (Zk (Zk (Zk ?_)))))))))))
              exact Zk (Zv Z5 (Zv Z5 (ZN (zG (ZF Z5 Tryz.results79 (fun w hO => ⟨by rw [show c.may = false from Bool.eq_false_iff.2 fun q0 => by have q1 := Co.may_iff.1 q0; grind], hO.below⟩))))))
            refine Zh h30 (Zv Z5 (Zv (Zp b1 2) (Zv (Zp b1 2) (Zl 0 ⟨b1, (coV c).cells, 51⟩ (off := 2) (.int .i64 c.v.maj) ?_))))
            by_cases h37 : (c.v.maj : Int) = 0
            · refine Zg h37 (Zv Z4 (Zv Z4 (Zv (Zp b1 1) (Zl 0 ⟨b1, (coV c).cells, 51⟩ (off := 1) (.int .i64 c.parts) ?_))))
              by_cases h38 : (1 : Int) < c.parts
              · refine Zg h38 (Zv Z4 (Zk (Zk (Zk (Zk (Zv Z4 (Zv Z4 (Zv Z4 (Zv (Zp b1 1) (Zl 0 ⟨b1, (coV c).cells, 51⟩ (off := 1) (.int .i64 c.parts) ?_))))))))))
                by_cases h39 : (2 : Int) < c.parts
                · refine Zg h39 (Zv Z4 (Zk (Zk (Zk (Zk (Zv Z4 (Zv Z4 (Zv Z4 (ZN (zG ?_))))))))))
                  exact ZF Z4 Tryz.results79 (fun w hO => ⟨by rw [Co.may_iff.2 ⟨by omega, by assumption, by assumption, by grind, by grind, by grind, by omega, by omega, by omega⟩], hO.below⟩)
                refine Zh h39 (Zv Z5 (Zv (Zp b1 2) (Zv (Zp b1 4) (Zl 0 ⟨b1, (coV c).cells, 51⟩ (off := 4) (.int .i64 c.v.pat) ?_))))
                by_cases h40 : (c.v.pat : Int) = 0
                · exact Zg h40 (Zv Z4 (Zv Z4 (Zv Z4 (ZN (zG (ZF Z4 Tryz.results79 (fun w hO => ⟨by rw [Co.may_iff.2 ⟨by omega, by assumption, by assumption, by grind, by grind, by grind, by omega, by omega, by omega⟩], hO.below⟩)))))))
                exact Zh h40 (Zv Z5 (Zv Z5 (Zv Z5 (ZN (zG (ZF Z5 Tryz.results79 (fun w hO => ⟨by rw [show c.may = false from Bool.eq_false_iff.2 fun q0 => by have q1 := Co.may_iff.1 q0; grind], hO.below⟩)))))))
              refine Zh h38 (Zv Z5 (Zv (Zp b1 2) (Zv (Zp b1 3) (Zl 0 ⟨b1, (coV c).cells, 51⟩ (off := 3) (.int .i64 c.v.min) ?_))))
              by_cases h41 : (c.v.min : Int) = 0
              · refine Zg h41 (Zv Z4 (Zv Z4 (Zv Z4 (Zv (Zp b1 1) (Zl 0 ⟨b1, (coV c).cells, 51⟩ (off := 1) (.int .i64 c.parts) ?_)))))
                by_cases h42 : (2 : Int) < c.parts
                · refine Zg h42 (Zv Z4 (Zk (Zk (Zk (Zk (Zv Z4 (Zv Z4 (Zv Z4 (ZN (zG ?_))))))))))
                  exact ZF Z4 Tryz.results79 (fun w hO => ⟨by rw [Co.may_iff.2 ⟨by omega, by assumption, by assumption, by grind, by grind, by grind, by omega, by omega, by omega⟩], hO.below⟩)
                refine Zh h42 (Zv Z5 (Zv (Zp b1 2) (Zv (Zp b1 4) (Zl 0 ⟨b1, (coV c).cells, 51⟩ (off := 4) (.int .i64 c.v.pat) ?_))))
                by_cases h43 : (c.v.pat : Int) = 0
                · exact Zg h43 (Zv Z4 (Zv Z4 (Zv Z4 (ZN (zG (ZF Z4 Tryz.results79 (fun w hO => ⟨by rw [Co.may_iff.2 ⟨by omega, by assumption, by assumption, by grind, by grind, by grind, by omega, by omega, by omega⟩], hO.below⟩)))))))
                exact Zh h43 (Zv Z5 (Zv Z5 (Zv Z5 (ZN (zG (ZF Z5 Tryz.results79 (fun w hO => ⟨by rw [show c.may = false from Bool.eq_false_iff.2 fun q0 => by have q1 := Co.may_iff.1 q0; grind], hO.below⟩)))))))
              refine Zh h41 (Zv Z5 (Zv Z5 (Zv Z5 (Zk (Zk (Zk (Zk (Zk (Zk (Zk (Zk ?_)))))))))))
              exact Zk (Zv Z5 (Zv Z5 (ZN (zG (ZF Z5 Tryz.results79 (fun w hO => ⟨by rw [show c.may = false from Bool.eq_false_iff.2 fun q0 => by have q1 := Co.may_iff.1 q0; grind], hO.below⟩))))))
            refine Zh h37 (Zv Z5 (Zv Z5 (Zk (Zk (Zk (Zk (Zk (Zk (Zk (Zk (Zk ?_)))))))))))
            refine Zv Z5 (Zv Z5 (Zk (Zk (Zk (Zk (Zk (Zk (Zk (Zk (Zk (Zv Z5 ?_)))))))))))
            exact Zv Z5 (ZN (zG (ZF Z5 Tryz.results79 (fun w hO => ⟨by rw [show c.may = false from Bool.eq_false_iff.2 fun q0 => by have q1 := Co.may_iff.1 q0; grind], hO.below⟩))))
    refine zX Z4 (by kernel_rfl) (xI (a := c.v.build) (b := ([])) rfl (by kernel_rfl) (by kernel_rfl) (decide_eq_false (h4))) (Zv Z4 (ZY (ZO (Zv Z5 (ZN (zG (zD ?_)))))))
    exact ZF Z5 Tryz.results79 (fun w hO => ⟨by rw [show c.may = false from Bool.eq_false_iff.2 fun q0 => by have q1 := Co.may_iff.1 q0; grind], hO.below⟩)
  | false =>
    refine Zv Z4 (Zv Z4 (Zv Z4 (Zk (Zk (Zk (Zk (Zv Z4 (ZY (zB ?_)))))))))
    exact zC (Zv Z5 (ZN (zG (zD (ZF Z5 Tryz.results79 (fun w hO => ⟨by rw [show c.may = false from Bool.eq_false_iff.2 fun q0 => by have q1 := Co.may_iff.1 q0; grind], hO.below⟩))))))
theorem rcsign_any (op : Int) (W : World) : Calls Tryz.prog 123 #[.int .i64 op] W fun e w' => e = .returned (.string (mkS (yD op))) ∧ Below W.heap.size W w' := by
  refine Z2 (n := 20) Tryz.func123 rfl (ZO (Zv (.string ⟨#[]⟩) (ZN (zB (ZO (Zv (.int .i64 op) (zU (zF ?_))))))))
  refine zP (zB (zC ?_))
  by_cases h1 : (op : Int) = 1
  · refine Zg h1 (Zv Z4 (ZY (ZO (Zv (.string ⟨#[61]⟩) (ZN (zG (zJ ?_)))))))
    exact zD (ZF (.string ⟨#[61]⟩) Tryz.results123 (fun w hO => ⟨by unfold yD; simp [h1]; rfl, hO.below⟩))
  refine Zh h1 (Zv Z5 (ZX (zB (zC ?_))))
  by_cases h2 : (op : Int) = 2
  · refine Zg h2 (Zv Z4 (ZY (ZO (Zv (.string ⟨#[33, 61]⟩) (ZN (zG (zJ ?_)))))))
    exact zD (ZF (.string ⟨#[33, 61]⟩) Tryz.results123 (fun w hO => ⟨by unfold yD; simp [h1, h2]; rfl, hO.below⟩))
  refine Zh h2 (Zv Z5 (ZX (zB (zC ?_))))
  by_cases h3 : (op : Int) = 3
  · refine Zg h3 (Zv Z4 (ZY (ZO (Zv (.string ⟨#[60]⟩) (ZN (zG (zJ ?_)))))))
    exact zD (ZF (.string ⟨#[60]⟩) Tryz.results123 (fun w hO => ⟨by unfold yD; simp [h1, h2, h3]; rfl, hO.below⟩))
  refine Zh h3 (Zv Z5 (ZX (zB (zC ?_))))
  by_cases h4 : (op : Int) = 4
  · refine Zg h4 (Zv Z4 (ZY (ZO (Zv (.string ⟨#[60, 61]⟩) (ZN (zG (zJ ?_)))))))
    exact zD (ZF (.string ⟨#[60, 61]⟩) Tryz.results123 (fun w hO => ⟨by unfold yD; simp [h1, h2, h3, h4]; rfl, hO.below⟩))
  refine Zh h4 (Zv Z5 (ZX (zB (zC ?_))))
  by_cases h5 : (op : Int) = 5
  · refine Zg h5 (Zv Z4 (ZY (ZO (Zv (.string ⟨#[62]⟩) (ZN (zG (zJ ?_)))))))
    exact zD (ZF (.string ⟨#[62]⟩) Tryz.results123 (fun w hO => ⟨by unfold yD; simp [h1, h2, h3, h4, h5]; rfl, hO.below⟩))
  refine Zh h5 (Zv Z5 (ZX (zB (zC ?_))))
  by_cases h6 : (op : Int) = 6
  · refine Zg h6 (Zv Z4 (ZY (ZO (Zv (.string ⟨#[62, 61]⟩) (ZN (zG (zJ ?_)))))))
    exact zD (ZF (.string ⟨#[62, 61]⟩) Tryz.results123 (fun w hO => ⟨by unfold yD; simp [h1, h2, h3, h4, h5, h6]; rfl, hO.below⟩))
  refine Zh h6 (Zv Z5 (ZX (zB (zC ?_))))
  by_cases h7 : (op : Int) = 7
  · refine Zg h7 (Zv Z4 (ZY (ZO (Zv (.string ⟨#[94]⟩) (ZN (zG (zJ ?_)))))))
    exact zD (ZF (.string ⟨#[94]⟩) Tryz.results123 (fun w hO => ⟨by unfold yD; simp [h1, h2, h3, h4, h5, h6, h7]; rfl, hO.below⟩))
  refine Zh h7 (Zv Z5 (ZX (zB (zC ?_))))
  by_cases h8 : (op : Int) = 8
  · refine Zg h8 (Zv Z4 (ZY (ZO (Zv (.string ⟨#[126]⟩) (ZN (zG (zJ ?_)))))))
    exact zD (ZF (.string ⟨#[126]⟩) Tryz.results123 (fun w hO => ⟨by unfold yD; simp [h1, h2, h3, h4, h5, h6, h7, h8]; rfl, hO.below⟩))
  refine Zh h8 (Zv Z5 (ZX (xD (zV (zF (ZO (Zv (.string ⟨#[]⟩) (zU ?_))))))))
  exact zF (zG (ZF (.string ⟨#[]⟩) Tryz.results123 (fun w hO => ⟨by unfold yD; simp [h1, h2, h3, h4, h5, h6, h7, h8]; rfl, hO.below⟩)))
end
section
theorem slit6 (s : Sp) (b : Nat) (cur : Array Value) (h : cur.toList = x6 s) : SlS (.slice (some ⟨b, 0, none⟩) 1 1) [s] [⟨b, cur, 80⟩] := by
  have e : ([s] : List Sp).flatMap x6 = x6 s := List.append_nil _
  have hc : cur.toList.length = 14 := by rw [h]; rfl
  refine ⟨by rw [e]; rfl, .inr ⟨b, 1, cur, rfl, rfl, Nat.le_refl _, by decide, by rw [← Array.length_toList, hc], ?_⟩⟩
  rw [e, h]
  exact List.take_of_length_le (Nat.le_refl 14)
theorem high_short (v : Ver) (k : Nat) : (qO v k).short := by
  induction k with
  | zero =>
    unfold qO
    split
    · exact bump_short v 0
    · exact ⟨Nat.zero_le _, Nat.zero_le _⟩
  | succ k ih =>
    unfold qO
    split
    · exact bump_short v _
    · exact ih
theorem span_short {c : Co} (h : c.short) : c.span.1.short ∧ c.span.2.short := by
  have hl : c.low.short := core_short h
  have he : ∀ e : Int, (y8 e).short := fun e => ⟨Nat.zero_le _, Nat.zero_le _⟩
  have ha : c.aft.short := by
    unfold Co.aft
    split
    · exact high_short _ _
    · exact core_short h
  have hh := fun k => high_short c.v k
  unfold Co.span
  repeat' split
  all_goals exact ⟨by first | exact hl | exact ha | exact he _ | exact hh _, by first | exact hl | exact ha | exact he _ | exact hh _⟩
theorem fF (lo hi : Cu) : kN lo hi = if zQ lo hi < 0 then [⟨lo, hi⟩] else [] := by
  unfold kN qD
  by_cases h : zQ lo hi < 0
  · rw [if_pos (d7 h), if_pos h]; rfl
  · rw [if_neg (fun q => h (uW q)), if_neg h]
end
section
def triV (l : List (List UInt8)) : Ver := if l.length = 3 then ⟨zT (tg l 0), zT (tg l 1), zT (tg l 2), [], []⟩ else Ver.zero
def triB (l : List (List UInt8)) : Bool := decide (l.length = 3) && (gR (tg l 0) && gR (tg l 1) && gR (tg l 2))
theorem pC (n : Int) (h : yP n = true) (w : World) :
    Calls Tryz.prog 171 #[.int .i64 n] w fun e w' => e = .returned (.string (mkS (Lib.itoa n))) ∧ Below w.heap.size w w' := by
  unfold yP at h; simp at h
  exact rdigits_any n (by omega) (by omega) w
end
section
theorem uA (op : Int) : (yD op).length ≤ 2 := by
  unfold yD
  repeat' split
  all_goals decide
theorem join_len (b : UInt8) (m : Nat) : ∀ (l : List (List UInt8)), (∀ x ∈ l, x.length ≤ m) → (yC b l).length ≤ l.length * (m + 1)
  | [], _ => by simp [yC]
  | [x], h => by
    have := h x (List.mem_singleton.2 rfl)
    simp [yC]; omega
  | x :: y :: r, h => by
    have h1 := h x (List.mem_cons_self ..)
    have h2 := join_len b m (y :: r) fun z hz => h z (List.mem_cons_of_mem _ hz)
    rw [yC, List.length_append, List.length_cons]
    simp only [List.length_cons, Nat.add_mul] at h2 ⊢
    omega
theorem nums_len9 {v : Ver} (hv : v.may = true) {n : Nat} : ∀ x ∈ yI v n, x.length ≤ 21 := fun x hx => by
  obtain ⟨k, hk, rfl⟩ := nums_mem hv hx
  have := tU hk
  omega
theorem uN (v : Ver) (n : Nat) : (yI v n).length ≤ 3 := by unfold yI; rw [List.length_take]; simp; omega
theorem vC {v : Ver} (hv : v.may = true) (n : Nat) : (yC 46 (yI v n)).length ≤ 100 := by
  have h := join_len 46 21 (yI v n) (nums_len9 hv)
  have := uN v n
  omega
theorem u9 {v : Ver} (hv : v.may = true) (n : Nat) : (yC 46 (yI v n ++ [[42]])).length ≤ 200 := by
  have h := join_len 46 21 (yI v n ++ [[42]]) (fun x hx => by
    rcases List.mem_append.1 hx with hx | hx
    · exact nums_len9 hv x hx
    · rw [List.mem_singleton.1 hx]; decide)
  have := uN v n
  rw [List.length_append] at h
  simp at h; omega
def toldC (v : Ver) : Array Value := #[.string (mkS (Lib.itoa v.maj)), .string (mkS (Lib.itoa v.min)), .string (mkS (Lib.itoa v.pat))]
theorem told_take (v : Ver) {n : Nat} (h : n ≤ 3) : (toldC v).toList.take (n * 1) = qW (yI v n) := by
  rw [Nat.mul_one]
  unfold qW yI
  rw [List.map_take]; rfl
theorem told_slt (v : Ver) {n : Nat} (h : n ≤ 3) (g : Nat) : SlT (.slice (some ⟨g, 0, none⟩) n 3) (yI v n) [⟨g, toldC v, 9⟩] := by
  have e := v8 v h
  refine ⟨by rw [jE, e]; omega, .inr ⟨g, 3, toldC v, by rw [e], rfl, by rw [e]; exact h, by decide, rfl, ?_⟩⟩
  rw [e]; exact told_take v h
theorem strInfo : (Tryz.prog.info? 9).map (fun i => (i.zero.map (·.cells.size), i.size, i.bytes)) = some (some 1, 1, 16) := by kernel_rfl
theorem fU : ∃ i z, Tryz.prog.info? 9 = some i ∧ i.zero = some z ∧ i.size = 1 ∧ z.cells.size = 1 ∧ i.bytes = 16 := by
  have h := strInfo
  cases hi : Tryz.prog.info? 9 with
  | none => rw [hi] at h; cases h
  | some i =>
    rw [hi] at h
    simp only [Option.map_some, Option.some.injEq, Prod.mk.injEq] at h
    cases hz : i.zero with
    | none => rw [hz] at h; simp at h
    | some z => rw [hz] at h; simp at h; exact ⟨i, z, rfl, hz, h.2.1, h.1, h.2.2⟩
theorem parts_nat {c : Co} (h : c.may = true) : ((c.parts.toNat : Nat) : Int) = c.parts ∧ c.parts.toNat ≤ 3 := by
  obtain ⟨_, _, _, h9, hn, _⟩ := Co.facts h
  by_cases e : c.op = 9
  · have := h9 e; omega
  · have := hn e; omega
theorem star_text {c : Co} (h9 : c.op = 9) : yC 46 (yI c.v c.parts.toNat ++ [[42]]) = c.text := by
  unfold Co.text Co.rest
  rw [h9, if_pos rfl]; rfl
theorem text_pre {c : Co} (h9 : ¬ c.op = 9) (hp : ¬ c.v.pre = []) : yD c.op ++ yC 46 (yI c.v c.parts.toNat) ++ [45] ++ c.v.pre = c.text := by
  unfold Co.text Co.rest bZ
  rw [if_neg h9]
  cases hq : c.v.pre with
  | nil => exact absurd hq hp
  | cons a r => simp
theorem text_bare {c : Co} (h9 : ¬ c.op = 9) (hp : c.v.pre = []) : yD c.op ++ yC 46 (yI c.v c.parts.toNat) = c.text := by
  unfold Co.text Co.rest bZ
  rw [if_neg h9, hp]; simp
theorem rctold_any (c : Co) (W : World) (hc : c.short) (hm : c.may = true) : Calls Tryz.prog 126 #[coV c] W fun e w' => ∃ v' ob', e = .returned v' ∧ (∃ g, v' = .slice (some ⟨g, 0, none⟩) c.parts.toNat 3 ∧ ob' = [⟨g, toldC c.v, 9⟩]) ∧ Own [] W w' ob' := by
  obtain ⟨m1, m2, m3⟩ := qY (Co.facts hm).2.1
  have hpn := parts_nat hm
  refine Z2 (n := 21) Tryz.func126 rfl (ZO (Zb (coV c) (fun b1 => Zv (.slice none 0 0) (ZN (zB (j7 (by kernel_rfl) (ZT 0 [] _ (Zp b1 2) (zL zO) rfl (ZT 1 [] _ (Zp b1 2) (zL zO) rfl (ZL 2 [] _ 0 ⟨b1, (coV c).cells, 51⟩ (off := 2) (.int .i64 c.v.maj) (zL zO) rfl rfl ?_)))))))))
  refine ZT 4 [] _ (Zp b1 2) (zL zO) rfl (ZT 5 [] _ (Zp b1 3) (zL zO) rfl (ZL 6 [] _ 0 ⟨b1, (coV c).cells, 51⟩ (off := 3) (.int .i64 c.v.min) (zL zO) rfl rfl (ZT 8 [] _ (Zp b1 2) (zL zO) rfl (ZT 9 [] _ (Zp b1 4) (zL zO) rfl (ZL 10 [] _ 0 ⟨b1, (coV c).cells, 51⟩ (off := 4) (.int .i64 c.v.pat) (zL zO) rfl rfl (Zz 3 (Zx [] _ (k := 171) (args := #[.int .i64 c.v.maj]) (.string (mkS (Lib.itoa c.v.maj))) rfl (fun w _ => pC c.v.maj m1 w) (Zz 7 (Zx [] _ (k := 171) (args := #[.int .i64 c.v.min]) (.string (mkS (Lib.itoa c.v.min))) rfl (fun w _ => pC c.v.min m2 w) (Zz 11 (Zx [] _ (k := 171) (args := #[.int .i64 c.v.pat]) (.string (mkS (Lib.itoa c.v.pat))) rfl (fun w _ => pC c.v.pat m3 w) ?_)))))))))))
  refine Zz 12 (gT _ 9 #[.string (mkS (Lib.itoa c.v.maj)), .string (mkS (Lib.itoa c.v.min)), .string (mkS (Lib.itoa c.v.pat))] rfl (by kernel_rfl) rfl (fun w hO => Own.sub [] hO) (fun _ => by kernel_rfl) (fun b2 => ZT 13 [⟨b2, #[.string (mkS (Lib.itoa c.v.maj)), .string (mkS (Lib.itoa c.v.min)), .string (mkS (Lib.itoa c.v.pat))], 9⟩] _ (.slice (some ⟨b2, 0, none⟩) 3 3) (zL zO) rfl (ZZ (zF (ZO (Zv (.slice (some ⟨b2, 0, none⟩) 3 3) (Zv (Zp b1 1) (Zl 1 ⟨b1, (coV c).cells, 51⟩ (off := 1) (.int .i64 c.parts) (zX (.slice (some ⟨b2, 0, none⟩) c.parts.toNat 3) (by kernel_rfl) (dA (b := b2) (off := 0) (n := 3) (c := 3) (k := .i64) (j := c.parts) (e := 9) (sz := 1) rfl (by kernel_rfl) (by kernel_rfl) (by kernel_rfl) (by kernel_rfl) (by omega) (by omega)) (Zv (.slice (some ⟨b2, 0, none⟩) c.parts.toNat 3) ?_))))))))))
  exact ZN (zG (ZF (.slice (some ⟨b2, 0, none⟩) c.parts.toNat 3) Tryz.results126 (fun w hO => ⟨_, _, rfl, ⟨_, rfl, rfl⟩, hO.sublist (List.cons_sublist_cons.2 (List.nil_sublist _))⟩)))
theorem bL (c : Co) (W : World) (hc : c.short) : Calls Tryz.prog 78 #[coV c] W fun e w' => e = .returned (.string (mkS c.print)) ∧ Below W.heap.size W w' := by
  refine Z2 (n := 39) Tryz.func78 rfl (ZO (Zb (coV c) (fun b1 => Zv (.string ⟨#[]⟩) (ZN (zB (ZO (Zl 0 ⟨b1, (coV c).cells, 51⟩ (off := 0) (coV c) (Zc (k := 79) (args := #[coV c]) (.bool c.may) (fun w _ => rcMay_any c w hc) ?_))))))))
  cases h1 : c.may with
  | true =>
    refine Zv Z5 (ZX (ZB (ZO (Zl 0 ⟨b1, (coV c).cells, 51⟩ (off := 0) (coV c) ?_))))
    have hcm := h1
    have hcv := (Co.facts hcm).2.1
    have hpn := parts_nat hcm
    refine Zr (k := 126) (args := #[coV c]) (fun v' L' => ∃ g, v' = .slice (some ⟨g, 0, none⟩) c.parts.toNat 3 ∧ L' = ⟨g, toldC c.v, 9⟩ :: [⟨b1, (coV c).cells, 51⟩]) (fun w hO => (rctold_any c w hc hcm).mono fun e w' ⟨v', ob', k1, ⟨g, k2, k4⟩, k3⟩ => ⟨v', _, k1, ⟨g, k2, rfl⟩, by subst k4; exact Own.joinN hO k3⟩) (fun v1 L1 hv1 => ?_)
    obtain ⟨g1, rfl, rfl⟩ := hv1
    refine Zv (.slice (some ⟨g1, 0, none⟩) c.parts.toNat 3) (ZN (zB (ZO (Zv (Zp b1 0) (Zl 1 ⟨b1, (coV c).cells, 51⟩ (off := 0) (.int .i64 c.op) ?_)))))
    by_cases h2 : (c.op : Int) = 9
    · refine Zg h2 (ZY (ZO (Zv (.slice (some ⟨g1, 0, none⟩) c.parts.toNat 3) (Zv (Zp b1 1) (Zl 1 ⟨b1, (coV c).cells, 51⟩ (off := 1) (.int .i64 c.parts) (Zv (Zp b1 1) (Zl 1 ⟨b1, (coV c).cells, 51⟩ (off := 1) (.int .i64 c.parts) (zX (.slice (some ⟨g1, 0, none⟩) c.parts.toNat c.parts.toNat) (by kernel_rfl) (run_slhm (b := g1) (n := c.parts.toNat) (c := 3) (k := .i64) (q := .i64) (j := c.parts) (m := c.parts) (e := 9) (sz := 1) rfl (by kernel_rfl) (by kernel_rfl) (by kernel_rfl) (by kernel_rfl) (by kernel_rfl) (by omega) (by omega) (by omega)) ?_))))))))
      refine vG 9 #[.string ⟨#[42]⟩] (by kernel_rfl) rfl (fun _ => by kernel_rfl) (fun b2 => ?_)
      obtain ⟨i0, z0, e1, e2, e3, e4, e5⟩ := fU
      refine s_appendF (sz := 1) (by kernel_rfl) rfl Tryz.underlying58 e1 e2 e3 e4 (b := ⟨g1, 0, none⟩) (n := c.parts.toNat) (cap := c.parts.toNat) (xs := qW (yI c.v c.parts.toNat)) (by kernel_rfl) (by rw [jE, v8 c.v hpn.2, Nat.mul_one]) (fun w hO j u hj => ?_) (a := ⟨b2, 0, none⟩) (m := 1) (c := 1) (news := qW [[42]]) (by kernel_rfl) (by kernel_rfl) (fun w hO j u hj => ?_) (by omega) (by unfold maxLen; omega) (by rw [e5]; omega) (fun va oa hva0 => ?_)
      · rw [← told_take c.v hpn.2, Nat.mul_one, List.getElem?_take] at hj
        split at hj
        · rw [y7, cell_of_row w g1 (0 + j) (toldC c.v) 9 _ (hO.held ⟨g1, toldC c.v, 9⟩ (by simp))]; simpa using hj
        · cases hj
      · rw [y7, cell_of_row w b2 (0 + j) (qW [[42]]).toArray 9 _ (hO.held ⟨b2, (qW [[42]]).toArray, 9⟩ List.mem_cons_self)]; simpa using hj
      have hva : SlT va (yI c.v c.parts.toNat ++ [[42]]) oa := hva0.to (by rw [List.length_append, v8 c.v hpn.2]; rfl) (by unfold qW; rw [List.map_append])
      exact Zc (k := 127) (args := #[va, .int .u8 46]) (.string (mkS (yC 46 (yI c.v c.parts.toNat ++ [[42]])))) (fun w hO => rjoin_any va _ 46 w (SlT.readsT hva hO (fun x hx => by simp [hx])) (Nat.le_trans (u9 hcv _) (by decide)) (by rw [List.length_append]; have := uN c.v c.parts.toNat; simp; omega)) (Zv (.string (mkS (yC 46 (yI c.v c.parts.toNat ++ [[42]])))) (ZN (zG (zD (ZF (.string (mkS (yC 46 (yI c.v c.parts.toNat ++ [[42]])))) Tryz.results78 (fun w hO => ⟨by rw [qB hcm, ← star_text h2], hO.below⟩))))))
    refine Zh h2 (ZX (ZB (ZO (Zv (Zp b1 0) (Zl 1 ⟨b1, (coV c).cells, 51⟩ (off := 0) (.int .i64 c.op) (Zc (k := 123) (args := #[.int .i64 c.op]) (.string (mkS (yD c.op))) (fun w _ => rcsign_any c.op w) (Zv (.slice (some ⟨g1, 0, none⟩) c.parts.toNat 3) ?_)))))))
    refine Zc (k := 127) (args := #[.slice (some ⟨g1, 0, none⟩) c.parts.toNat 3, .int .u8 46]) (.string (mkS (yC 46 (yI c.v c.parts.toNat)))) (fun w hO => rjoin_any _ _ 46 w (SlT.readsT (told_slt c.v hpn.2 g1) hO (fun x hx => by rw [List.mem_singleton.1 hx]; exact List.mem_cons_self)) (Nat.le_trans (vC hcv _) (by decide)) (Nat.le_trans (uN _ _) (by decide))) (zX (.string (mkS ((yD c.op) ++ (yC 46 (yI c.v c.parts.toNat))))) (by kernel_rfl) (x1 (a := (yD c.op)) (b := (yC 46 (yI c.v c.parts.toNat))) rfl (by kernel_rfl) (by kernel_rfl) (by have q1 := uA c.op; have q2 := vC hcv c.parts.toNat; have q3 := hc.1; first | omega | (simp only [List.length_append, List.length_cons, List.length_nil]; omega))) (Zv (.string (mkS ((yD c.op) ++ (yC 46 (yI c.v c.parts.toNat))))) (ZN (zB (ZO (Zv (Zp b1 2) (Zv (Zp b1 5) (Zl 1 ⟨b1, (coV c).cells, 51⟩ (off := 5) (.string (mkS c.v.pre)) ?_))))))))
    by_cases h3 : (c.v.pre : List UInt8) = []
    · refine zX Z5 (by kernel_rfl) (xI (a := c.v.pre) (b := ([])) rfl (by kernel_rfl) (by kernel_rfl) (decide_eq_true (h3))) (ZX (ZB (ZO (Zv (.string (mkS ((yD c.op) ++ (yC 46 (yI c.v c.parts.toNat))))) (Zv (.string (mkS ((yD c.op) ++ (yC 46 (yI c.v c.parts.toNat))))) (zU (zF ?_)))))))
      exact zG (ZF (.string (mkS ((yD c.op) ++ (yC 46 (yI c.v c.parts.toNat))))) Tryz.results78 (fun w hO => ⟨by rw [qB hcm, ← text_bare h2 h3], hO.below⟩))
    refine zX Z4 (by kernel_rfl) (xI (a := c.v.pre) (b := ([])) rfl (by kernel_rfl) (by kernel_rfl) (decide_eq_false (h3))) (ZY (zC (Zv (.string (mkS ((yD c.op) ++ (yC 46 (yI c.v c.parts.toNat))))) (zX (.string (mkS (((yD c.op) ++ (yC 46 (yI c.v c.parts.toNat))) ++ [45]))) (by kernel_rfl) (x1 (a := ((yD c.op) ++ (yC 46 (yI c.v c.parts.toNat)))) (b := [45]) rfl (by kernel_rfl) (by kernel_rfl) (by have q1 := uA c.op; have q2 := vC hcv c.parts.toNat; have q3 := hc.1; first | omega | (simp only [List.length_append, List.length_cons, List.length_nil]; omega))) (Zv (Zp b1 2) (Zv (Zp b1 5) (Zl 1 ⟨b1, (coV c).cells, 51⟩ (off := 5) (.string (mkS c.v.pre)) (zX (.string (mkS ((((yD c.op) ++ (yC 46 (yI c.v c.parts.toNat))) ++ [45]) ++ c.v.pre))) (by kernel_rfl) (x1 (a := (((yD c.op) ++ (yC 46 (yI c.v c.parts.toNat))) ++ [45])) (b := c.v.pre) rfl (by kernel_rfl) (by kernel_rfl) (by have q1 := uA c.op; have q2 := vC hcv c.parts.toNat; have q3 := hc.1; first | omega | (simp only [List.length_append, List.length_cons, List.length_nil]; omega))) (Zv (.string (mkS ((((yD c.op) ++ (yC 46 (yI c.v c.parts.toNat))) ++ [45]) ++ c.v.pre))) ?_)))))))))
    exact ZR (Zv (.string (mkS ((((yD c.op) ++ (yC 46 (yI c.v c.parts.toNat))) ++ [45]) ++ c.v.pre))) (Zv (.string (mkS ((((yD c.op) ++ (yC 46 (yI c.v c.parts.toNat))) ++ [45]) ++ c.v.pre))) (ZN (zG (ZF (.string (mkS ((((yD c.op) ++ (yC 46 (yI c.v c.parts.toNat))) ++ [45]) ++ c.v.pre))) Tryz.results78 (fun w hO => ⟨by rw [qB hcm, ← text_pre h2 h3], hO.below⟩))))))
  | false =>
    refine Zv Z4 (ZY (ZO (Zv (.string ⟨#[]⟩) (ZN (zG (zD (ZF (.string ⟨#[]⟩) Tryz.results78 ?_)))))))
    exact fun w hO => ⟨by unfold Co.print; simp [h1]; rfl, hO.below⟩
end
section
def numsOk (l : List (List UInt8)) : Bool := decide (l.length ≤ 3) && l.all gR
def numsVal (l : List (List UInt8)) : Ver := if numsOk l then ⟨zT (tg l 0), zT (tg l 1), zT (tg l 2), [], []⟩ else Ver.zero
theorem tB {l : List (List UInt8)} {i : Nat} (h : i < l.length) : l[i] = tg l i := by
  unfold tg
  rw [List.getElem?_eq_getElem h]; rfl
theorem tgi_out {l : List (List UInt8)} {i : Nat} (h : l.length ≤ i) : zT (tg l i) = 0 := by
  unfold tg
  rw [List.getElem?_eq_none h]; rfl
end
section
end
section
def pcV (s : List UInt8) : Co := (qL s).getD ⟨0, 0, Ver.zero⟩
def pcE (s : List UInt8) : Int := if (qL s).isSome then 0 else 6
theorem pc_none {s : List UInt8} (h : qL s = none) : pcV s = ⟨0, 0, Ver.zero⟩ ∧ pcE s = 6 := by unfold pcV pcE; rw [h]; exact ⟨rfl, rfl⟩
theorem pc_some {s : List UInt8} {c : Co} (h : qL s = some c) : pcV s = c ∧ pcE s = 0 := by unfold pcV pcE; rw [h]; exact ⟨rfl, rfl⟩
theorem tg_short {l : List (List UInt8)} (h : ∀ x ∈ l, x.length ≤ 1000000) (i : Nat) : (tg l i).length ≤ 1000000 := by
  unfold tg
  cases hq : l[i]? with
  | none => exact Nat.zero_le _
  | some x => exact h x (List.mem_of_getElem? hq)
end
section
def coC (c : Co) : List Value := (coV c).cells.toList
theorem wD (c : Co) : (coC c).length = 7 := rfl
theorem dV (c : Co) : ∀ u ∈ coC c, u.oneCell' = true := by
  intro u hu
  unfold coC coV at hu
  simp only [Value.cells, List.mem_cons, List.not_mem_nil, or_false] at hu
  rcases hu with rfl | rfl | rfl | rfl | rfl | rfl | rfl <;> rfl
structure Al where
  A : Option Addr
  l : List Co
  cap : Nat
def alC (x : Al) : List Value := [.slice x.A x.l.length x.cap]
theorem kW (x : Al) : (alC x).length = 1 := rfl
theorem xO (x : Al) : ∀ u ∈ alC x, u.oneCell' = true := fun u hu => by rw [List.mem_singleton.1 hu]; rfl
def yM (xs : List Al) : List (List Co) := xs.map Al.l
theorem kE (xs : List Al) : (yM xs).length = xs.length := List.length_map ..
theorem tI {xs : List Al} {i : Nat} (hi : i < xs.length) {x : Al} (h : xs[i] = x) : (yM xs)[i]'(by rw [kE]; exact hi) = x.l := by
  unfold yM; rw [List.getElem_map, h]
def ShortA (l : List Co) : Prop := ∀ c ∈ l, c.short
structure RgIn (w : World) (B : Nat) (A : Option Addr) (xs : List Al) : Prop where
  top : Reads alC w B A xs
  each : ∀ x ∈ xs, Reads coC w B x.A x.l
  n : xs.length ≤ 1000
  m : ∀ x ∈ xs, x.l.length ≤ 1000
  short : ∀ x ∈ xs, ShortA x.l
theorem RgIn.on {w w' : World} {B B' : Nat} {A : Option Addr} {xs : List Al} (h : RgIn w B A xs) (hb : Below B w w') (hB : B ≤ B') : RgIn w' B' A xs := ⟨h.top.on hb hB, fun x hx => (h.each x hx).on hb hB, h.n, h.m, h.short⟩
theorem tC {α : Type} {p : α → Prop} {l : List α} {i : Nat} (h : ∀ x ∈ l.take i, p x) (hi : i < l.length) {x : α} (hx : l[i] = x) (hp : p x) : ∀ y ∈ l.take (i + 1), p y := fun y hy => by
  rw [List.take_succ_eq_append_getElem hi] at hy
  rcases List.mem_append.1 hy with hy | hy
  · exact h y hy
  · rw [List.mem_singleton.1 hy, hx]; exact hp
theorem take_end {α : Type} {p : α → Prop} {l : List α} {i : Nat} (h : ∀ x ∈ l.take i, p x) (hi : l.length ≤ i) : ∀ y ∈ l, p y := by rwa [List.take_of_length_le hi] at h
theorem tX {l : List Co} (h : ¬ (1 ≤ l.length ∧ l.length ≤ 6)) : fewA l = false := by unfold fewA; rw [decide_eq_false h]; rfl
theorem fewA_one {l : List Co} {c : Co} (hm : c ∈ l) (h : c.may = false) : fewA l = false := by
  cases hf : fewA l with
  | false => rfl
  | true => rw [(fewA.facts hf).2 c hm] at h; cases h
theorem fewA_all {l : List Co} (h1 : 1 ≤ l.length ∧ l.length ≤ 6) (h : ∀ c ∈ l, c.may = true) : fewA l = true := by
  unfold fewA; rw [decide_eq_true h1, List.all_eq_true.2 h]; rfl
theorem few_len {xs : List Al} (h : ¬ (1 ≤ xs.length ∧ xs.length ≤ 6)) : fewR (yM xs) = false := by unfold fewR; rw [kE, decide_eq_false h]; rfl
theorem few_one {xs : List Al} {x : Al} (hm : x ∈ xs) (h : fewA x.l = false) : fewR (yM xs) = false := by
  cases hf : fewR (yM xs) with
  | false => rfl
  | true => rw [(fewR.facts hf).2 x.l (List.mem_map.2 ⟨x, hm, rfl⟩)] at h; cases h
theorem few_all {xs : List Al} (h1 : 1 ≤ xs.length ∧ xs.length ≤ 6) (h : ∀ x ∈ xs, fewA x.l = true) : fewR (yM xs) = true := by
  unfold fewR; rw [kE, decide_eq_true h1, List.all_eq_true.2 fun a ha => by obtain ⟨x, hx, rfl⟩ := List.mem_map.1 ha; exact h x hx]; rfl
theorem few_mem {xs : List Al} (h : fewR (yM xs) = true) : (1 ≤ xs.length ∧ xs.length ≤ 6) ∧ ∀ x ∈ xs, (1 ≤ x.l.length ∧ x.l.length ≤ 6) ∧ ∀ c ∈ x.l, c.may = true := by
  obtain ⟨h1, h2⟩ := fewR.facts h
  rw [kE] at h1
  exact ⟨h1, fun x hx => fewA.facts (h2 x.l (List.mem_map.2 ⟨x, hx, rfl⟩))⟩
theorem joinB_step (sep : List UInt8) {l : List (List UInt8)} {i : Nat} (hi : i < l.length) : qZ sep (l.take (i + 1)) = (if i = 0 then [] else qZ sep (l.take i) ++ sep) ++ l[i] := by
  rw [List.take_succ_eq_append_getElem hi, joinB_snoc]
  by_cases h : i = 0
  · subst h; rfl
  · have hne : l.take i ≠ [] := fun e => by
      have h3 : (l.take i).length = 0 := by rw [e]; rfl
      rw [List.length_take] at h3; omega
    rw [if_neg hne, if_neg h]
theorem wF {l : List Co} {k : Nat} (hk : k < l.length) {c : Co} (hc : l[k] = c) : xL (l.take (k + 1)) = (if k = 0 then [] else xL (l.take k) ++ [44, 32]) ++ c.print := by
  unfold xL
  rw [List.map_take, List.map_take, joinB_step _ (by rw [List.length_map]; exact hk), List.getElem_map, hc]
theorem rgText_step {r : List (List Co)} {i : Nat} (hi : i < r.length) {a : List Co} (ha : r[i] = a) : kP (r.take (i + 1)) = (if i = 0 then [] else kP (r.take i) ++ [32, 124, 124, 32]) ++ xL a := by
  unfold kP
  rw [List.map_take, List.map_take, joinB_step _ (by rw [List.length_map]; exact hi), List.getElem_map, ha]
theorem mH {c : Co} (h : c.may = true) : c.print.length ≤ 300 := by
  obtain ⟨_, hv, _⟩ := Co.facts h
  have hp := preOk_short (mW hv)
  rw [qB h]
  unfold Co.text Co.rest
  rw [List.length_append]
  have h1 : (yD c.op).length ≤ 2 := by
    unfold yD
    repeat' split
    all_goals decide
  split
  · have := u9 hv c.parts.toNat; omega
  · rw [List.length_append]
    have := vC hv c.parts.toNat
    have : (bZ 45 c.v.pre).length ≤ 37 := by
      unfold bZ
      split
      · exact Nat.zero_le _
      · rw [List.length_cons]; omega
    omega
end
end Go.Proofs.YtkljdpiaghepfaaGreatDoor
