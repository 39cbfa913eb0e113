/-
  What the statements' proofs lean on, part 4: each part begins with a remark that says what it proves and on what conditions.
-/
import Derived.Test.YtgeccfdofmnphaaGreatMA3

section
/-
  Plain mathematics of sets: a set as two rows; the set of one version; equal at the edges, equal everywhere; the laws. No condition of their own.
-/
namespace Go.Proofs.YtgeccfdofmnphaaGreat
set_option linter.unusedVariables false
set_option linter.unusedSimpArgs false

/-- A set: its releases, its other versions. -/
structure St where
  rel : List Sp
  pre : List Sp
def St.may (s : St) : Bool := rowMay s.rel && rowMay s.pre && s.rel.all fun x => rightC x.lo && rightC x.hi
/-- A valid set of at most n spans a row. -/
structure SF (s : St) (n : Nat) : Prop where
  rel : RF s.rel n
  pre : RF s.pre n
  right : AllRight s.rel
theorem right_all {l : List Sp} : (l.all fun x => rightC x.lo && rightC x.hi) = true ↔ AllRight l := by
  rw [List.all_eq_true]
  exact ⟨fun h s hs => by simpa using h s hs, fun h s hs => by simpa using h s hs⟩
theorem SF.may {s : St} {n : Nat} (h : SF s n) : s.may = true := by
  unfold St.may
  rw [h.rel.may, h.pre.may, right_all.2 h.right]; rfl
theorem St.facts {s : St} (h : s.may = true) : rowMay s.rel = true ∧ rowMay s.pre = true ∧ AllRight s.rel := by
  unfold St.may at h
  rw [Bool.and_eq_true, Bool.and_eq_true, right_all] at h
  exact ⟨h.1.1, h.1.2, h.2⟩
theorem SF.of {s : St} {n : Nat} (h : s.may = true) (h1 : s.rel.length ≤ n) (h2 : s.pre.length ≤ n) : SF s n :=
  ⟨⟨(St.facts h).1, h1⟩, ⟨(St.facts h).2.1, h2⟩, (St.facts h).2.2⟩
def setHas (s : St) (v : Ver) : Bool := s.may && v.may && (if v.pre = [] then rowHas s.rel v else rowHas s.pre v)
def noneT : St := ⟨[], []⟩
def wholeL : List Sp := [⟨endC (-1), endC 1⟩]
def allT : St := ⟨wholeL, wholeL⟩
def orT (a b : St) : St := ⟨orL a.rel b.rel, orL a.pre b.pre⟩
def andT (a b : St) : St := ⟨andL a.rel b.rel, andL a.pre b.pre⟩
def notT (a : St) : St := ⟨notL a.rel, notL a.pre⟩
def minusT (a b : St) : St := andT a (notT b)
def exactT (v : Ver) : St := if v.may then (if v.pre = [] then ⟨oneRel v, []⟩ else ⟨[], onePre v⟩) else noneT
theorem St.eq {a b : St} (h1 : a.rel = b.rel) (h2 : a.pre = b.pre) : a = b := by cases a; cases b; simp only at h1 h2; rw [h1, h2]
/-! ### Valid -/
theorem nil_rf : RF [] 0 := ⟨rfl, Nat.le_refl _⟩
theorem RF.le {l : List Sp} {n m : Nat} (h : RF l n) (hm : n ≤ m) : RF l m := ⟨h.may, Nat.le_trans h.len hm⟩
theorem SF.le {s : St} {n m : Nat} (h : SF s n) (hm : n ≤ m) : SF s m := ⟨h.rel.le hm, h.pre.le hm, h.right⟩
theorem nil_right : AllRight [] := fun s hs => by simp at hs
theorem none_sf : SF noneT 0 := ⟨nil_rf, nil_rf, nil_right⟩
theorem whole_rf : RF wholeL 1 := ⟨by decide, Nat.le_refl _⟩
theorem whole_right : AllRight wholeL := fun s hs => by
  obtain rfl : s = _ := by simpa [wholeL] using hs
  exact ⟨end_right _ (by decide), end_right _ (by decide)⟩
theorem all_sf : SF allT 1 := ⟨whole_rf, whole_rf, whole_right⟩
theorem SF.or {a b : St} {n m : Nat} (ha : SF a n) (hb : SF b m) : SF (orT a b) (2 + 2 * (n + m)) := ⟨ha.rel.or hb.rel, ha.pre.or hb.pre, ha.right.or hb.right⟩
theorem SF.and {a b : St} {n m : Nat} (ha : SF a n) (hb : SF b m) : SF (andT a b) (2 + 2 * (n + m)) := ⟨ha.rel.and hb.rel, ha.pre.and hb.pre, ha.right.and hb.right⟩
theorem SF.not {a : St} {n : Nat} (ha : SF a n) : SF (notT a) (2 + 2 * n) := ⟨ha.rel.not, ha.pre.not, ha.right.not⟩
theorem SF.minus {a b : St} {n m : Nat} (ha : SF a n) (hb : SF b m) : SF (minusT a b) (2 + 2 * (n + (2 + 2 * m))) := ha.and hb.not
theorem exact_sf (v : Ver) : SF (exactT v) 1 := by
  unfold exactT
  split
  · rename_i hv
    split
    · exact ⟨⟨(oneRel_ok hv).1, Nat.le_refl _⟩, nil_rf.le (by decide), (oneRel_ok hv).2.1⟩
    · exact ⟨nil_rf.le (by decide), ⟨(onePre_ok hv).1, Nat.le_refl _⟩, nil_right⟩
  · exact none_sf.le (by decide)
/-! ### What they have -/
theorem has_may {s : St} {v : Ver} {n : Nat} (hs : SF s n) (hv : v.may = true) : setHas s v = if v.pre = [] then rowHas s.rel v else rowHas s.pre v := by
  unfold setHas; rw [hs.may, hv, Bool.true_and, Bool.true_and]
section
variable {a b : St} {n m : Nat} {v : Ver} (ha : SF a n) (hb : SF b m) (hv : v.may = true)
include ha hb hv
theorem setHas_and : setHas (andT a b) v = (setHas a v && setHas b v) := by
  rw [has_may (ha.and hb) hv, has_may ha hv, has_may hb hv]
  split
  · exact has_and4 ha.rel.may hb.rel.may hv
  · exact has_and4 ha.pre.may hb.pre.may hv
end
theorem whole_den {x : Cu} (hx : x.may = true) (he : cmpC x (endC 1) < 0) : den wholeL x = true := by
  show (inSp ⟨endC (-1), endC 1⟩ x || false) = true
  rw [Bool.or_false]
  unfold inSp
  rw [decide_eq_true (first_le hx), decide_eq_true he]; rfl
theorem whole_has {v : Ver} (hv : v.may = true) : rowHas wholeL v = true := by rw [has_den whole_rf.may hv, whole_den (posC_may hv) (pos_lt_end hv)]
theorem setHas_all {v : Ver} (hv : v.may = true) : setHas allT v = true := by
  rw [has_may all_sf hv]; split <;> exact whole_has hv
theorem setHas_none {v : Ver} : setHas noneT v = false := by
  unfold setHas
  have h : rowHas [] v = false := rfl
  show (_ && (if v.pre = [] then rowHas [] v else rowHas [] v)) = false
  rw [h, ite_self, Bool.and_false]
/-! ### Just one version -/
theorem exact_has {v w : Ver} (hv : v.may = true) (hw : w.may = true) : setHas (exactT v) w = decide (cmpR v w = 0) := by
  rw [has_may (exact_sf v) hw]
  unfold exactT
  rw [if_pos hv]
  have hz := order_eq hv hw
  by_cases hp : v.pre = []
  · rw [if_pos hp]
    by_cases hq : w.pre = []
    · rw [if_pos hq]
      show rowHas (oneRel v) w = _
      rw [(oneRel_ok hv).2.2 w hw hq, decide_eq_decide, cmpR_code hv hw, hp, hq]
      have h0 : presR [] [] = 0 := rfl
      rw [h0]
      constructor
      · intro h; rw [if_neg (by omega), if_neg (by omega)]
      · intro h; split at h
        · omega
        · split at h <;> omega
    · rw [if_neg hq]
      show rowHas [] w = _
      symm
      refine decide_eq_false fun h => hq ?_
      have := congrArg Ver.pre (hz.1 h)
      exact this.symm.trans hp
  · rw [if_neg hp]
    by_cases hq : w.pre = []
    · rw [if_pos hq]
      show rowHas [] w = _
      symm
      refine decide_eq_false fun h => hp ?_
      have := congrArg Ver.pre (hz.1 h)
      exact this.trans hq
    · rw [if_neg hq]
      exact (onePre_ok hv).2 w hw
theorem cmp_swap0 {v w : Ver} (hv : v.may = true) (hw : w.may = true) : cmpR v w = 0 ↔ cmpR w v = 0 := by
  rw [order_anti hv hw]; omega
/-- Between the two cuts beside a version lies only the one before it. -/
theorem one_at {v : Ver} {x : Cu} (hv : v.may = true) (hx : x.may = true) : inSp ⟨⟨0, coreV v, false⟩, ⟨0, coreV v, true⟩⟩ x = decide (x = posC v) := by
  have h1 := span_mays (beside hv hv).1
  have h2 := sp_lt (beside hv hv).1
  unfold inSp
  rw [← Bool.decide_and]
  refine decide_eq_decide.2 ⟨fun ⟨p, q⟩ => ?_, fun e => ?_⟩
  · refine ((cut_eq hx (posC_may hv)).1 ?_)
    have p' : cmpC (posC v) x ≤ 0 := p
    have q' : cmpC x ⟨0, coreV v, true⟩ < 0 := q
    rw [cmpC_good (posC_may hv) hx] at p'
    rw [cmpC_good hx h1.2] at q'
    have e0 : (posC v).e = 0 := rfl
    have e1 : (posC v).v = coreV v := rfl
    have e2 : (posC v).aft = false := rfl
    rw [e0, e1, e2] at p'
    simp only at q'
    have i1 := ci_le (a := (0 : Int)) (b := x.e)
    have i2 := ci_le (a := x.e) (b := (0 : Int))
    have r1 := ci_range 0 x.e
    have r2 := ci_range x.e 0
    have s1 := ci_eq (a := (0 : Int)) (b := x.e)
    have s2 := ci_eq (a := x.e) (b := (0 : Int))
    have hxe : x.e = 0 := by
      unfold lex at p' q'
      by_cases k1 : Lib.compareInt 0 x.e = 0
      · exact (s1.1 k1).symm
      · by_cases k2 : Lib.compareInt x.e 0 = 0
        · exact s2.1 k2
        · rw [if_neg k1] at p'; rw [if_neg k2] at q'
          have := i1.1 p'; have := i2.1 (by omega); omega
    rw [hxe, show Lib.compareInt 0 0 = 0 from rfl, lex_0] at p' q'
    have hc := order_anti (may_v (posC_may hv)) (may_v hx)
    have e3 : (posC v).v = coreV v := rfl
    rw [e3] at hc
    have hz : cmpR (coreV v) x.v = 0 := by
      unfold lex at p' q'
      by_cases k1 : cmpR (coreV v) x.v = 0
      · exact k1
      · rw [if_neg k1] at p'
        rw [if_neg (by omega)] at q'
        omega
    rw [hz, lex_0] at p'
    have hz2 : cmpR x.v (coreV v) = 0 := by omega
    rw [hz2, lex_0] at q'
    rw [cmpC_good hx (posC_may hv), e0, e1, e2, hxe, show Lib.compareInt 0 0 = 0 from rfl, lex_0, hz2, lex_0]
    cases ha : x.aft with
    | false => rfl
    | true => rw [ha] at q'; exact absurd q' (by decide)
  · rw [e]
    exact ⟨by show cmpC (posC v) (posC v) ≤ 0; rw [cut_self]; exact Int.le_refl 0, h2⟩
/-- Two rows have no point in common. -/
theorem apart_iff {a b : List Sp} (ha : rowMay a = true) (hb : rowMay b = true) : andL a b = [] ↔ ∀ x : Cu, x.may = true → cmpC x (endC 1) < 0 → ¬ (den a x = true ∧ den b x = true) := by
  have h1 := and_ok ha hb
  constructor
  · intro e x hx he ⟨p, q⟩
    have h := h1.2 x hx he
    rw [e, p, q] at h
    cases h
  · intro h
    refine row_ext _ _ h1.1 rfl fun x hx he => ?_
    rw [h1.2 x hx he]
    have := h x hx he
    show _ = false
    cases p : den a x <;> cases q : den b x <;> first | rfl | exact absurd ⟨p, q⟩ this
theorem exact_apart {v w : Ver} (hv : v.may = true) (hw : w.may = true) : andT (exactT v) (exactT w) = noneT ↔ ¬ cmpR v w = 0 := by
  have sv := exact_sf v
  have sw := exact_sf w
  have nil_r : ∀ l, rowMay l = true → andL l [] = [] := fun l hl => (apart_iff hl rfl).2 fun x _ _ h => by cases h.2
  have nil_l : ∀ l, rowMay l = true → andL [] l = [] := fun l hl => (apart_iff rfl hl).2 fun x _ _ h => by cases h.1
  constructor
  · intro h h2
    have h3 := setHas_and sv sw hv (v := v)
    rw [h, setHas_none, exact_has hv hv, order_self, exact_has hw hv, (cmp_swap0 hv hw).1 h2] at h3
    cases h3
  · intro h
    unfold andT noneT
    by_cases hp : v.pre = [] <;> by_cases hq : w.pre = []
    · have ev : exactT v = ⟨oneRel v, []⟩ := by unfold exactT; rw [if_pos hv, if_pos hp]
      have ew : exactT w = ⟨oneRel w, []⟩ := by unfold exactT; rw [if_pos hw, if_pos hq]
      have ov := oneRel_ok hv
      have ow := oneRel_ok hw
      rw [ev, ew]
      refine St.eq ?_ rfl
      show andL (oneRel v) (oneRel w) = []
      refine rel_ext (and_ok ov.1 ow.1).1 rfl (ov.2.1.and ow.2.1) nil_right fun r hr hrp => ?_
      rw [has_and4 ov.1 ow.1 hr, ov.2.2 r hr hrp, ow.2.2 r hr hrp]
      show _ = false
      rw [← Bool.decide_and]
      refine decide_eq_false fun ⟨p, q⟩ => h ?_
      rw [cmpR_code hv hw, if_neg (by omega), if_neg (by omega), hp, hq]; rfl
    · have ev : exactT v = ⟨oneRel v, []⟩ := by unfold exactT; rw [if_pos hv, if_pos hp]
      have ew : exactT w = ⟨[], onePre w⟩ := by unfold exactT; rw [if_pos hw, if_neg hq]
      rw [ev, ew]
      exact St.eq (nil_r _ (oneRel_ok hv).1) (nil_l _ (onePre_ok hw).1)
    · have ev : exactT v = ⟨[], onePre v⟩ := by unfold exactT; rw [if_pos hv, if_neg hp]
      have ew : exactT w = ⟨oneRel w, []⟩ := by unfold exactT; rw [if_pos hw, if_pos hq]
      rw [ev, ew]
      exact St.eq (nil_l _ (oneRel_ok hw).1) (nil_r _ (onePre_ok hv).1)
    · have ev : exactT v = ⟨[], onePre v⟩ := by unfold exactT; rw [if_pos hv, if_neg hp]
      have ew : exactT w = ⟨[], onePre w⟩ := by unfold exactT; rw [if_pos hw, if_neg hq]
      rw [ev, ew]
      refine St.eq rfl ?_
      show andL (onePre v) (onePre w) = []
      refine (apart_iff (onePre_ok hv).1 (onePre_ok hw).1).2 fun x hx he ⟨p, q⟩ => h ?_
      have p' : (inSp ⟨⟨0, coreV v, false⟩, ⟨0, coreV v, true⟩⟩ x || false) = true := p
      have q' : (inSp ⟨⟨0, coreV w, false⟩, ⟨0, coreV w, true⟩⟩ x || false) = true := q
      rw [Bool.or_false, one_at hv hx, decide_eq_true_eq] at p'
      rw [Bool.or_false, one_at hw hx, decide_eq_true_eq] at q'
      exact (order_eq hv hw).2 (congrArg Cu.v (p'.symm.trans q'))
/-! ### Equal at the edges -/
/-- The releases at which a Rel may turn, as numbers. -/
def edgeN (l : List Sp) : List Int := l.flatMap fun s => [s.lo, s.hi].filterMap fun c => if c.e = 0 then some c.v.code else none
theorem edge_mem {l : List Sp} {s : Sp} {c : Cu} (hs : s ∈ l) (hc : c = s.lo ∨ c = s.hi) (he : c.e = 0) : c.v.code ∈ edgeN l := by
  unfold edgeN
  rw [List.mem_flatMap]
  refine ⟨s, hs, ?_⟩
  rw [List.mem_filterMap]
  exact ⟨c, by simpa using hc, by rw [if_pos he]⟩
/-- The greatest number of a list that is not above n, 0 at the least. -/
theorem floor_of (E : List Int) {n : Int} (h0 : 0 ≤ n) : ∃ x, (x = 0 ∨ x ∈ E) ∧ x ≤ n ∧ ∀ y ∈ E, 0 ≤ y → y ≤ n → y ≤ x := by
  induction E with
  | nil => exact ⟨0, .inl rfl, h0, fun y hy => by simp at hy⟩
  | cons e r ih =>
    obtain ⟨x, hx, hn, hy⟩ := ih
    by_cases h : x < e ∧ e ≤ n
    · refine ⟨e, .inr (by simp), h.2, fun y hyy h1 h2 => ?_⟩
      rcases List.mem_cons.1 hyy with rfl | h3
      · exact Int.le_refl _
      · have := hy y h3 h1 h2; omega
    · refine ⟨x, hx.imp id (by simp +contextual), hn, fun y hyy h1 h2 => ?_⟩
      rcases List.mem_cons.1 hyy with rfl | h3
      · omega
      · exact hy y h3 h1 h2
theorem denN_floor {l : List Sp} {n x : Int} (hm : ∀ s ∈ l, s.lo.may = true ∧ s.hi.may = true) (hn : n < 1000000000000) (h0 : 0 ≤ x) (hx : x ≤ n) (h : ∀ y ∈ edgeN l, 0 ≤ y → y ≤ n → y ≤ x) : denN l n = denN l x := by
  have key : ∀ s ∈ l, ∀ c, c = s.lo ∨ c = s.hi → (valC c ≤ n ↔ valC c ≤ x) := fun s hs c hc => by
    have hcm : c.may = true := hc.elim (fun e => e ▸ (hm s hs).1) (fun e => e ▸ (hm s hs).2)
    refine ⟨fun h1 => ?_, fun h1 => by omega⟩
    rcases may_e hcm with ⟨h2, _⟩ | ⟨h2, _⟩
    · have hv : valC c = c.v.code := by unfold valC; rw [if_neg (by omega), if_neg (by omega)]
      rw [hv] at h1 ⊢
      exact h _ (edge_mem hs hc h2) (code_max (may_v hcm)).1 h1
    · rcases h2 with h2 | h2
      · have hv : valC c = 0 := by unfold valC; rw [if_pos h2]
        rw [hv]; exact h0
      · have hv : valC c = 1000000000000 := by unfold valC; rw [if_neg (by omega), if_pos h2]
        rw [hv] at h1; omega
  unfold denN
  rw [Bool.eq_iff_iff, List.any_eq_true, List.any_eq_true]
  have k2 : ∀ s ∈ l, (decide (valC s.lo ≤ n) && decide (n < valC s.hi)) = (decide (valC s.lo ≤ x) && decide (x < valC s.hi)) := fun s hs => by
    have h1 := key s hs s.lo (.inl rfl)
    have h2 := key s hs s.hi (.inr rfl)
    rw [decide_eq_decide.2 h1, decide_eq_decide.2 (show n < valC s.hi ↔ x < valC s.hi by omega)]
  constructor
  · rintro ⟨s, hs, h⟩; exact ⟨s, hs, by rw [← k2 s hs]; exact h⟩
  · rintro ⟨s, hs, h⟩; exact ⟨s, hs, by rw [k2 s hs]; exact h⟩
/-- Two Rels that have the same at 0.0.0 and at all their cuts are the same. -/
theorem edge_ext {l m : List Sp} (hl : rowMay l = true) (hm : rowMay m = true) (rl : AllRight l) (rm : AllRight m) (h0 : denN l 0 = denN m 0) (h : ∀ x ∈ edgeN l ++ edgeN m, denN l x = denN m x) : l = m :=
  rel_ext hl hm rl rm fun v hv hp => by
    rw [has_code hl rl hv hp, has_code hm rm hv hp]
    have hc := code_max hv
    obtain ⟨x, hx, hn, hy⟩ := floor_of (edgeN l ++ edgeN m) hc.1
    have pos : ∀ {k : List Sp}, rowMay k = true → ∀ y ∈ edgeN k, 0 ≤ y := fun {k} hk y hyy => by
      unfold edgeN at hyy
      rw [List.mem_flatMap] at hyy
      obtain ⟨s, hs, h2⟩ := hyy
      rw [List.mem_filterMap] at h2
      obtain ⟨c, hc2, h3⟩ := h2
      have hsm := span_mays (row_mem hk s hs)
      have hcm : c.may = true := by
        have : c = s.lo ∨ c = s.hi := by simpa using hc2
        exact this.elim (fun e => e ▸ hsm.1) (fun e => e ▸ hsm.2)
      split at h3
      · obtain rfl := Option.some.inj h3
        exact (code_max (may_v hcm)).1
      · cases h3
    have hx0 : 0 ≤ x := by
      rcases hx with rfl | hx
      · exact Int.le_refl _
      · exact (List.mem_append.1 hx).elim (pos hl x) (pos hm x)
    rw [denN_floor (fun s hs => span_mays (row_mem hl s hs)) (by omega) hx0 hn (fun y hyy => hy y (List.mem_append.2 (.inl hyy))), denN_floor (fun s hs => span_mays (row_mem hm s hs)) (by omega) hx0 hn (fun y hyy => hy y (List.mem_append.2 (.inr hyy)))]
    rcases hx with rfl | hx
    · exact h0
    · exact h x hx
/-! ### Laws of rows, once more -/
theorem less_or {a b : List Sp} (ha : rowMay a = true) (hb : rowMay b = true) : orL (andL a (notL b)) (andL a b) = a := by
  have h1 := and_ok ha (not_ok hb).1
  have h2 := and_ok ha hb
  refine row_ext _ _ (or_ok h1.1 h2.1).1 ha fun x hx he => ?_
  rw [(or_ok h1.1 h2.1).2 x hx he, h1.2 x hx he, h2.2 x hx he, (not_ok hb).2 x hx he]
  cases den a x <;> cases den b x <;> rfl
theorem less_apart {a b : List Sp} (ha : rowMay a = true) (hb : rowMay b = true) : andL (andL a (notL b)) b = [] :=
  (apart_iff (and_ok ha (not_ok hb).1).1 hb).2 fun x hx he ⟨p, q⟩ => by
    rw [(and_ok ha (not_ok hb).1).2 x hx he, (not_ok hb).2 x hx he, q] at p
    cases h : den a x <;> rw [h] at p <;> cases p
theorem apart_within {a b : List Sp} (ha : rowMay a = true) (hb : rowMay b = true) : andL a b = [] ↔ andL a (notL b) = a := by
  rw [within_iff4 ha (not_ok hb).1, not_not4 hb]
theorem morgan_and {a b : List Sp} (ha : rowMay a = true) (hb : rowMay b = true) : notL (andL a b) = orL (notL a) (notL b) := by
  have h := de_morgan4 (not_ok ha).1 (not_ok hb).1
  rw [not_not4 ha, not_not4 hb] at h
  rw [← h, not_not4 (or_ok (not_ok ha).1 (not_ok hb).1).1]
theorem and_whole {a : List Sp} (ha : rowMay a = true) : andL a wholeL = a :=
  row_ext _ _ (and_ok ha whole_rf.may).1 ha fun x hx he => by rw [(and_ok ha whole_rf.may).2 x hx he, whole_den hx he, Bool.and_true]
theorem or_nil {a : List Sp} (ha : rowMay a = true) : orL a [] = a :=
  row_ext _ _ (or_ok ha rfl).1 ha fun x hx he => by
    rw [(or_ok ha rfl).2 x hx he]
    show (den a x || false) = _
    rw [Bool.or_false]
theorem and_nil {a : List Sp} (ha : rowMay a = true) : andL a [] = [] := (apart_iff ha rfl).2 fun x _ _ h => by cases h.2
theorem nil_and {a : List Sp} (ha : rowMay a = true) : andL [] a = [] := (apart_iff rfl ha).2 fun x _ _ h => by cases h.1
theorem not_whole : notL wholeL = [] := row_ext _ _ (not_ok whole_rf.may).1 rfl fun x hx he => by
  rw [(not_ok whole_rf.may).2 x hx he, whole_den hx he]; rfl
theorem not_nil : notL [] = wholeL := by rw [← not_whole, not_not4 whole_rf.may]
end Go.Proofs.YtgeccfdofmnphaaGreat
end

section
/-
  The document's own answer for chapter 2 (linchpinref2): Bump and Next: the same values as package version's. Conditions: strings of at most a million bytes.
-/
namespace Go.Proofs.YtgeccfdofmnphaaGreat
open Go.RowKit

theorem rel_may (a b c : Int) : (Ver.rel a b c).may = (numOkI a && numOkI b && numOkI c) := by
  unfold Ver.may Ver.rel
  have h1 : preOk [] = true := by decide
  have h2 : listOk [] = true := by decide
  dsimp only
  rw [h1, h2, Bool.and_true, Bool.and_true]
theorem may_nat3 {v : Ver} (h : v.may = true) : (0 ≤ v.maj ∧ v.maj ≤ 9999) ∧ (0 ≤ v.min ∧ v.min ≤ 9999) ∧ (0 ≤ v.pat ∧ v.pat ≤ 9999) := by
  obtain ⟨h1, h2, h3⟩ := may_nums h
  unfold numOkI at h1 h2 h3; simp at h1 h2 h3
  exact ⟨h1, h2, h3⟩
theorem up_ok {a : Int} (h : 0 ≤ a ∧ a ≤ 9999) : numOkI (a + 1) = !(a == 9999) := by
  unfold numOkI
  by_cases e : a = 9999
  · subst e; decide
  · have : (a == 9999) = false := by simpa using e
    rw [this]; simp; omega
theorem in_ok {a : Int} (h : 0 ≤ a ∧ a ≤ 9999) : numOkI a = true := by unfold numOkI; simp; omega
theorem bump_may {v : Ver} (h : v.may = true) (k : Nat) (hk : k < 3) : (bumpN v k).may = bumpOk v k := by
  obtain ⟨h1, h2, h3⟩ := may_nat3 h
  have hz : numOkI 0 = true := by decide
  match k, hk with
  | 0, _ =>
    show (Ver.rel (v.maj + 1) 0 0).may = _
    rw [rel_may, up_ok h1, hz]
    unfold bumpOk; rw [h, show nth3 v.maj v.min v.pat ((0 : Nat) : Int).toNat = v.maj from rfl]; simp
  | 1, _ =>
    show (Ver.rel v.maj (v.min + 1) 0).may = _
    rw [rel_may, up_ok h2, hz, in_ok h1]
    unfold bumpOk; rw [h, show nth3 v.maj v.min v.pat ((1 : Nat) : Int).toNat = v.min from rfl]; simp
  | 2, _ =>
    show (Ver.rel v.maj v.min (v.pat + 1)).may = _
    rw [rel_may, up_ok h3, in_ok h1, in_ok h2]
    unfold bumpOk; rw [h, show nth3 v.maj v.min v.pat ((2 : Nat) : Int).toNat = v.pat from rfl]; simp
theorem rbump_done {v u : Ver} {part : Int} {b : Bool} {w wr : World} {tmps : Array Value} {old : Array Value} (h2 : tmps.getD 4 undef = .pointer (some ⟨w.heap.size + 1, 0, none⟩)) (h3 : tmps.getD 5 undef = .bool b)
    (hg : wr.heap[w.heap.size + 1]? = some (.cells old 26)) (hbel : Below w.heap.size w wr) (hb : bumpOk v part = b) (hv : bumpV v part = u) :
    bodyPost Tryz.prog Tryz.f129 (BEnd v part w) .ret ⟨tmps, []⟩ (wr.setRow (w.heap.size + 1) #[.int .i64 u.maj, .int .i64 u.min, .int .i64 u.pat, .string (mkS u.pre), .string (mkS u.build)]) := by
  have hrow := setRow_heap wr (w.heap.size + 1) _ #[.int .i64 u.maj, .int .i64 u.min, .int .i64 u.pat, .string (mkS u.pre), .string (mkS u.build)] _ _ hg
  have hr := run_loadVar_row (P := Tryz.prog) _ (w.heap.size + 1) 26 26 _ _ _ hrow Tryz.underlying26 rfl (by kernel_rfl)
  have h2' : tmps[4]?.getD undef = .pointer (some ⟨w.heap.size + 1, 0, none⟩) := by simpa using h2
  have h3' : tmps[5]?.getD undef = .bool b := by simpa using h3
  refine bodyPost_ret (v := .tuple #[verV u, .bool b]) (by simp [results, Tryz.results129, asAddr, h2', h3', hr, verV]) rfl ⟨by rw [hv, hb], below_setRow hbel (by omega) _⟩

set_option maxHeartbeats 8000000 in
set_option maxRecDepth 100000 in
theorem rbump_go (v : Ver) (part : Int) (w : World) (hp : v.pre.length ≤ 1000000) (hq : v.build.length ≤ 1000000) :
    Calls Tryz.prog 129 #[verV v, .int .i64 part] w (BEnd v part w) := by
  have cM := fun w' => rmay_any v w' hp hq
  obtain ⟨m, hm⟩ : ∃ m, v.may = m := ⟨_, rfl⟩
  rw [hm] at cM
  obtain ⟨a, b, c, p, q⟩ := v
  unfold verV at cM ⊢
  dsimp only at cM ⊢
  cases m with
  | false =>
    have HB : Hid (bumpOk ⟨a, b, c, p, q⟩ part = false) := by show _ = _; unfold bumpOk; rw [hm]; rfl
    clear hm
    go_enter Tryz.func129, Tryz.ntmps129
    go_wp2_with fail
    refine (cM _).mono ?_
    rintro e w1 ⟨rfl, hb1⟩
    have hgR := Lib.hid ((hb1.block (w.heap.size + 1) (by simp only [size_box]; omega)).trans (heap_at _ _ _ (by simp only [size_box])))
    have hbw : Below w.heap.size w w1 := (((Below.refl _ _).alloc (Nat.le_refl _) _).alloc (by simp only [size_box]; omega) _).trans (hb1.mono (by simp only [size_box]; omega))
    go_wp2_with (refine wpList_store_row rfl 26 _ _ rfl (w.heap.size + 1) #[.int .i64 0, .int .i64 0, .int .i64 0, .string ⟨#[]⟩, .string ⟨#[]⟩] rfl rfl _ _ hgR.out (by kernel_rfl) rfl (ver_one _ _ _ _ _) ?_)
    exact rbump_done (u := Ver.zero) rfl rfl hgR.out hbw HB.out (by unfold bumpV; rw [HB.out]; rfl)
  | true =>
    have HM := Lib.hid hm
    obtain ⟨⟨a0, a9⟩, ⟨b0, b9⟩, ⟨c0, c9⟩⟩ := may_nat3 hm
    dsimp only at a0 a9 b0 b9 c0 c9
    clear hm
    go_enter Tryz.func129, Tryz.ntmps129
    go_wp2_with fail
    refine (cM _).mono ?_
    rintro e w1 ⟨rfl, hb1⟩
    have hz1 := hb1.size
    simp only [size_box] at hz1
    have hgB := (hb1.block w.heap.size (by simp only [size_box]; omega)).trans ((heap_old _ _ (by simp only [size_box]; omega)).trans (heap_new w _))
    have hgR := Lib.hid ((hb1.block (w.heap.size + 1) (by simp only [size_box]; omega)).trans (heap_at _ _ _ (by simp only [size_box])))
    have hbw : Below w.heap.size w w1 := (((Below.refl _ _).alloc (Nat.le_refl _) _).alloc (by simp only [size_box]; omega) _).trans (hb1.mono (by simp only [size_box]; omega))
    obtain ⟨k0, _⟩ := cell_row (j := 0) hgB (by simp)
    obtain ⟨k1, _⟩ := cell_row (j := 1) hgB (by simp)
    obtain ⟨k2, _⟩ := cell_row (j := 2) hgB (by simp)
    simp only [List.getElem_toArray, List.getElem_cons_succ, List.getElem_cons_zero] at k0 k1 k2
    have hsB : w.heap.size < w1.heap.size := by omega
    clear hgB hb1 cM
    by_cases p0 : part < 0
    · have HB : Hid (bumpOk ⟨a, b, c, p, q⟩ part = false) := by show _ = _; unfold bumpOk; rw [decide_eq_false (by omega)]; simp
      go_wp2_with (refine wpList_store_row rfl 26 _ _ rfl (w.heap.size + 1) #[.int .i64 0, .int .i64 0, .int .i64 0, .string ⟨#[]⟩, .string ⟨#[]⟩] rfl rfl _ _ hgR.out (by kernel_rfl) rfl (ver_one _ _ _ _ _) ?_)
      exact rbump_done (u := Ver.zero) rfl rfl hgR.out hbw HB.out (by unfold bumpV; rw [HB.out]; rfl)
    · by_cases p3 : 2 < part
      · have HB : Hid (bumpOk ⟨a, b, c, p, q⟩ part = false) := by show _ = _; unfold bumpOk; rw [decide_eq_false (by omega)]; simp
        go_wp2_with (refine wpList_store_row rfl 26 _ _ rfl (w.heap.size + 1) #[.int .i64 0, .int .i64 0, .int .i64 0, .string ⟨#[]⟩, .string ⟨#[]⟩] rfl rfl _ _ hgR.out (by kernel_rfl) rfl (ver_one _ _ _ _ _) ?_)
        exact rbump_done (u := Ver.zero) rfl rfl hgR.out hbw HB.out (by unfold bumpV; rw [HB.out]; rfl)
      · have hpart : part = ((0 : Nat) : Int) ∨ part = ((1 : Nat) : Int) ∨ part = ((2 : Nat) : Int) := by omega
        clear p0 p3
        rcases hpart with rfl | rfl | rfl
        · have hmb := bump_may (v := ⟨a, b, c, p, q⟩) HM.out 0 (by omega)
          have cO := fun w' => rmay_any (bumpN ⟨a, b, c, p, q⟩ 0) w' (by show (0 : Nat) ≤ _; omega) (by show (0 : Nat) ≤ _; omega)
          rw [hmb] at cO
          obtain ⟨o, ho⟩ : ∃ o, bumpOk ⟨a, b, c, p, q⟩ ((0 : Nat) : Int) = o := ⟨_, rfl⟩
          have hval : o = true → bumpV ⟨a, b, c, p, q⟩ ((0 : Nat) : Int) = Ver.rel (a + 1) (0) (0) := fun h => by unfold bumpV; rw [ho, h]; rfl
          have hval2 : o = false → bumpV ⟨a, b, c, p, q⟩ ((0 : Nat) : Int) = Ver.zero := fun h => by unfold bumpV; rw [ho, h]; rfl
          rw [ho] at cO
          have HO := Lib.hid ho
          have HV := Lib.hid hval
          have HV2 := Lib.hid hval2
          clear ho hval hval2 hmb
          rw [show bumpN ⟨a, b, c, p, q⟩ 0 = Ver.rel (a + 1) (0) (0) from rfl] at cO
          unfold verV Ver.rel at cO
          dsimp only at cO
          go_wp2_with fail
          refine (cO _).mono ?_
          rintro e w2 ⟨rfl, hb2⟩
          have hg2 := Lib.hid ((hb2.block (w.heap.size + 1) (by rw [size_box]; omega)).trans ((heap_old w1 _ (by omega)).trans hgR.out))
          have hgV := Lib.hid ((hb2.block w1.heap.size (by rw [size_box]; omega)).trans (heap_new w1 _))
          have hbw2 : Below w.heap.size w w2 := (hbw.alloc (by omega) _).trans (hb2.mono (by rw [size_box]; omega))
          cases o with
          | false =>
            go_wp2_with (refine wpList_store_row rfl 26 _ _ rfl (w.heap.size + 1) #[.int .i64 0, .int .i64 0, .int .i64 0, .string ⟨#[]⟩, .string ⟨#[]⟩] rfl rfl _ _ hg2.out (by kernel_rfl) rfl (ver_one _ _ _ _ _) ?_)
            exact rbump_done (u := Ver.zero) rfl rfl hg2.out hbw2 HO.out (HV2.out trivial)
          | true =>
            go_wp2_with (first
              | (refine wpList_load_row rfl 26 _ rfl w1.heap.size rfl _ _ _ _ hgV.out Tryz.underlying26 rfl (by kernel_rfl) ?_)
              | (refine wpList_store_row rfl 26 _ _ rfl (w.heap.size + 1) _ rfl rfl _ _ hg2.out (by kernel_rfl) rfl (ver_one _ _ _ _ _) ?_))
            exact rbump_done (u := Ver.rel (a + 1) (0) (0)) rfl rfl hg2.out hbw2 HO.out (HV.out trivial)
        · have hmb := bump_may (v := ⟨a, b, c, p, q⟩) HM.out 1 (by omega)
          have cO := fun w' => rmay_any (bumpN ⟨a, b, c, p, q⟩ 1) w' (by show (0 : Nat) ≤ _; omega) (by show (0 : Nat) ≤ _; omega)
          rw [hmb] at cO
          obtain ⟨o, ho⟩ : ∃ o, bumpOk ⟨a, b, c, p, q⟩ ((1 : Nat) : Int) = o := ⟨_, rfl⟩
          have hval : o = true → bumpV ⟨a, b, c, p, q⟩ ((1 : Nat) : Int) = Ver.rel (a) (b + 1) (0) := fun h => by unfold bumpV; rw [ho, h]; rfl
          have hval2 : o = false → bumpV ⟨a, b, c, p, q⟩ ((1 : Nat) : Int) = Ver.zero := fun h => by unfold bumpV; rw [ho, h]; rfl
          rw [ho] at cO
          have HO := Lib.hid ho
          have HV := Lib.hid hval
          have HV2 := Lib.hid hval2
          clear ho hval hval2 hmb
          rw [show bumpN ⟨a, b, c, p, q⟩ 1 = Ver.rel (a) (b + 1) (0) from rfl] at cO
          unfold verV Ver.rel at cO
          dsimp only at cO
          go_wp2_with fail
          refine (cO _).mono ?_
          rintro e w2 ⟨rfl, hb2⟩
          have hg2 := Lib.hid ((hb2.block (w.heap.size + 1) (by rw [size_box]; omega)).trans ((heap_old w1 _ (by omega)).trans hgR.out))
          have hgV := Lib.hid ((hb2.block w1.heap.size (by rw [size_box]; omega)).trans (heap_new w1 _))
          have hbw2 : Below w.heap.size w w2 := (hbw.alloc (by omega) _).trans (hb2.mono (by rw [size_box]; omega))
          cases o with
          | false =>
            go_wp2_with (refine wpList_store_row rfl 26 _ _ rfl (w.heap.size + 1) #[.int .i64 0, .int .i64 0, .int .i64 0, .string ⟨#[]⟩, .string ⟨#[]⟩] rfl rfl _ _ hg2.out (by kernel_rfl) rfl (ver_one _ _ _ _ _) ?_)
            exact rbump_done (u := Ver.zero) rfl rfl hg2.out hbw2 HO.out (HV2.out trivial)
          | true =>
            go_wp2_with (first
              | (refine wpList_load_row rfl 26 _ rfl w1.heap.size rfl _ _ _ _ hgV.out Tryz.underlying26 rfl (by kernel_rfl) ?_)
              | (refine wpList_store_row rfl 26 _ _ rfl (w.heap.size + 1) _ rfl rfl _ _ hg2.out (by kernel_rfl) rfl (ver_one _ _ _ _ _) ?_))
            exact rbump_done (u := Ver.rel (a) (b + 1) (0)) rfl rfl hg2.out hbw2 HO.out (HV.out trivial)
        · have hmb := bump_may (v := ⟨a, b, c, p, q⟩) HM.out 2 (by omega)
          have cO := fun w' => rmay_any (bumpN ⟨a, b, c, p, q⟩ 2) w' (by show (0 : Nat) ≤ _; omega) (by show (0 : Nat) ≤ _; omega)
          rw [hmb] at cO
          obtain ⟨o, ho⟩ : ∃ o, bumpOk ⟨a, b, c, p, q⟩ ((2 : Nat) : Int) = o := ⟨_, rfl⟩
          have hval : o = true → bumpV ⟨a, b, c, p, q⟩ ((2 : Nat) : Int) = Ver.rel (a) (b) (c + 1) := fun h => by unfold bumpV; rw [ho, h]; rfl
          have hval2 : o = false → bumpV ⟨a, b, c, p, q⟩ ((2 : Nat) : Int) = Ver.zero := fun h => by unfold bumpV; rw [ho, h]; rfl
          rw [ho] at cO
          have HO := Lib.hid ho
          have HV := Lib.hid hval
          have HV2 := Lib.hid hval2
          clear ho hval hval2 hmb
          rw [show bumpN ⟨a, b, c, p, q⟩ 2 = Ver.rel (a) (b) (c + 1) from rfl] at cO
          unfold verV Ver.rel at cO
          dsimp only at cO
          go_wp2_with fail
          refine (cO _).mono ?_
          rintro e w2 ⟨rfl, hb2⟩
          have hg2 := Lib.hid ((hb2.block (w.heap.size + 1) (by rw [size_box]; omega)).trans ((heap_old w1 _ (by omega)).trans hgR.out))
          have hgV := Lib.hid ((hb2.block w1.heap.size (by rw [size_box]; omega)).trans (heap_new w1 _))
          have hbw2 : Below w.heap.size w w2 := (hbw.alloc (by omega) _).trans (hb2.mono (by rw [size_box]; omega))
          cases o with
          | false =>
            go_wp2_with (refine wpList_store_row rfl 26 _ _ rfl (w.heap.size + 1) #[.int .i64 0, .int .i64 0, .int .i64 0, .string ⟨#[]⟩, .string ⟨#[]⟩] rfl rfl _ _ hg2.out (by kernel_rfl) rfl (ver_one _ _ _ _ _) ?_)
            exact rbump_done (u := Ver.zero) rfl rfl hg2.out hbw2 HO.out (HV2.out trivial)
          | true =>
            go_wp2_with (first
              | (refine wpList_load_row rfl 26 _ rfl w1.heap.size rfl _ _ _ _ hgV.out Tryz.underlying26 rfl (by kernel_rfl) ?_)
              | (refine wpList_store_row rfl 26 _ _ rfl (w.heap.size + 1) _ rfl rfl _ _ hg2.out (by kernel_rfl) rfl (ver_one _ _ _ _ _) ?_))
            exact rbump_done (u := Ver.rel (a) (b) (c + 1)) rfl rfl hg2.out hbw2 HO.out (HV.out trivial)

theorem rbump_any (v : Ver) (part : Int) (w : World) (hp : v.pre.length ≤ 1000000) (hq : v.build.length ≤ 1000000) :
    Calls Tryz.prog 129 #[verV v, .int .i64 part] w fun e w' => e = .returned (.tuple #[verV (bumpV v part), .bool (bumpOk v part)]) ∧ Below w.heap.size w w' := rbump_go v part w hp hq
theorem rnext_done {v u : Ver} {b : Bool} {w wr : World} {tmps : Array Value} {old : Array Value} (h2 : tmps.getD 2 undef = .pointer (some ⟨w.heap.size + 1, 0, none⟩)) (h3 : tmps.getD 3 undef = .bool b)
    (hg : wr.heap[w.heap.size + 1]? = some (.cells old 26)) (hbel : Below w.heap.size w wr) (hb : nextOk v = b) (hv : nextV v = u) :
    bodyPost Tryz.prog Tryz.f102 (NEnd v w) .ret ⟨tmps, []⟩ (wr.setRow (w.heap.size + 1) #[.int .i64 u.maj, .int .i64 u.min, .int .i64 u.pat, .string (mkS u.pre), .string (mkS u.build)]) := by
  have hrow := setRow_heap wr (w.heap.size + 1) _ #[.int .i64 u.maj, .int .i64 u.min, .int .i64 u.pat, .string (mkS u.pre), .string (mkS u.build)] _ _ hg
  have hr := run_loadVar_row (P := Tryz.prog) _ (w.heap.size + 1) 26 26 _ _ _ hrow Tryz.underlying26 rfl (by kernel_rfl)
  have h2' : tmps[2]?.getD undef = .pointer (some ⟨w.heap.size + 1, 0, none⟩) := by simpa using h2
  have h3' : tmps[3]?.getD undef = .bool b := by simpa using h3
  refine bodyPost_ret (v := .tuple #[verV u, .bool b]) (by simp [results, Tryz.results102, asAddr, h2', h3', hr, verV]) rfl ⟨by rw [hv, hb], below_setRow hbel (by omega) _⟩

set_option maxHeartbeats 8000000 in
set_option maxRecDepth 100000 in
theorem rnext_go (v : Ver) (w : World) (hp : v.pre.length ≤ 1000000) (hq : v.build.length ≤ 1000000) :
    Calls Tryz.prog 102 #[verV v] w (NEnd v w) := by
  have cM := fun w' => rmay_any v w' hp hq
  have ep := empty_mk2 v.pre
  obtain ⟨m, hm⟩ : ∃ m, v.may = m := ⟨_, rfl⟩
  rw [hm] at cM
  obtain ⟨a, b, c, p, q⟩ := v
  unfold verV at cM ⊢
  dsimp only at cM ep hp hq ⊢
  go_enter Tryz.func102, Tryz.ntmps102
  go_wp2_with fail
  refine (cM _).mono ?_
  rintro e w1 ⟨rfl, hb1⟩
  have hz1 := hb1.size
  simp only [size_box] at hz1
  have hgB := (hb1.block w.heap.size (by simp only [size_box]; omega)).trans ((heap_old _ _ (by simp only [size_box]; omega)).trans (heap_new w _))
  have hgR := (hb1.block (w.heap.size + 1) (by simp only [size_box]; omega)).trans (heap_at _ _ _ (by simp only [size_box]))
  have hbw : Below w.heap.size w w1 := (((Below.refl _ _).alloc (Nat.le_refl _) _).alloc (by simp only [size_box]; omega) _).trans (hb1.mono (by simp only [size_box]; omega))
  obtain ⟨k0, _⟩ := cell_row (j := 0) hgB (by simp)
  obtain ⟨k1, _⟩ := cell_row (j := 1) hgB (by simp)
  obtain ⟨k2, _⟩ := cell_row (j := 2) hgB (by simp)
  obtain ⟨k3, _⟩ := cell_row (j := 3) hgB (by simp)
  simp only [List.getElem_toArray, List.getElem_cons_succ, List.getElem_cons_zero] at k0 k1 k2 k3
  have HGB := Lib.hid hgB
  have HGR := Lib.hid hgR
  clear hgB hgR hb1 cM
  cases m with
  | false =>
    have HV : Hid (nextV ⟨a, b, c, p, q⟩ = Ver.zero) := by show _ = _; unfold nextV; rw [if_neg (by simp [hm])]
    have HO : Hid (nextOk ⟨a, b, c, p, q⟩ = false) := by show _ = _; unfold nextOk; rw [hm]; rfl
    clear hm
    go_wp2_with (refine wpList_store_row rfl 26 _ _ rfl (w.heap.size + 1) #[.int .i64 0, .int .i64 0, .int .i64 0, .string ⟨#[]⟩, .string ⟨#[]⟩] rfl rfl _ _ HGR.out (by kernel_rfl) rfl (ver_one _ _ _ _ _) ?_)
    exact rnext_done (u := Ver.zero) rfl rfl HGR.out hbw HO.out HV.out
  | true =>
    cases he : p.isEmpty with
    | true =>
      have HG : Hid ((!p.isEmpty && (Ver.mk a b c p q).may) = false) := by show _ = _; rw [he]; rfl
      rw [he] at ep
      clear he hm
      go_wp2
      go_loopw [4] (fun x wr => ∃ k : Nat, k ≤ 3 ∧ x = .int .i64 ((k : Int) - 1) ∧ wr.heap[w.heap.size]? = some (.cells #[.int .i64 a, .int .i64 b, .int .i64 c, .string (mkS p), .string (mkS q)] 26) ∧ wr.heap[w.heap.size + 1]? = some (.cells #[.int .i64 0, .int .i64 0, .int .i64 0, .string ⟨#[]⟩, .string ⟨#[]⟩] 26) ∧ Below w.heap.size w wr ∧ Hid (findB ⟨a, b, c, p, q⟩ k = findB ⟨a, b, c, p, q⟩ 3)) (fun x _ => ((intOf x) + 1).toNat)
      case atStart => exact ⟨3, by omega, rfl, HGB.out, HGR.out, hbw, rfl⟩
      case round =>
        obtain ⟨k, hk, rfl, hB, hR, hbel, HR⟩ := hrel
        have hlR := (Array.getElem?_eq_some_iff.1 hR).1
        have HB := Lib.hid hB
        have HR0 := Lib.hid hR
        clear hB hR
        cases k with
        | zero =>
          have HF : Hid (findB ⟨a, b, c, p, q⟩ 3 = (Ver.zero, false)) := HR.out.symm
          go_wp2_with (refine wpList_store_row rfl 26 _ _ rfl (w.heap.size + 1) #[.int .i64 0, .int .i64 0, .int .i64 0, .string ⟨#[]⟩, .string ⟨#[]⟩] rfl rfl _ _ HR0.out (by kernel_rfl) rfl (ver_one _ _ _ _ _) ?_)
          have hf := find_next ⟨a, b, c, p, q⟩ HG.out
          rw [HF.out] at hf
          exact rnext_done (u := Ver.zero) rfl rfl HR0.out hbel hf.2 hf.1
        | succ k =>
          have hk0 : (0 : Int) ≤ k := by omega
          have hke : (((k + 1 : Nat) : Int) - 1) = (k : Int) := by omega
          rw [hke]
          have cB := fun w' => rbump_any ⟨a, b, c, p, q⟩ (k : Int) w' hp hq
          unfold verV at cB
          dsimp only at cB
          cases hb : bumpOk ⟨a, b, c, p, q⟩ (k : Int) with
          | true =>
            rw [hb] at cB
            obtain ⟨u, hu⟩ : ∃ u, bumpV ⟨a, b, c, p, q⟩ (k : Int) = u := ⟨_, rfl⟩
            rw [hu] at cB
            have hfq : findB ⟨a, b, c, p, q⟩ 3 = (u, true) := by rw [← HR.out, findB, hb, hu]; rfl
            have HF := Lib.hid hfq
            clear hfq hb hu hke
            go_wp2_with (first
              | (refine wpList_load_row rfl 26 _ rfl w.heap.size rfl _ _ _ _ HB.out Tryz.underlying26 rfl (by kernel_rfl) ?_)
              | (go_at_call 129; refine (cB _).mono ?_; rintro e w3 ⟨rfl, hb3⟩; have hR3 := Lib.hid ((hb3.block (w.heap.size + 1) hlR).trans HR0.out); have hbw3 := hbel.trans (hb3.mono hbel.size); have hl3 := Nat.lt_of_lt_of_le hlR hb3.size)
              | (refine wpList_store_row rfl 26 _ _ rfl (w.heap.size + 1) #[.int .i64 u.maj, .int .i64 u.min, .int .i64 u.pat, .string (mkS u.pre), .string (mkS u.build)] rfl rfl _ _ ((heap_old _ _ hl3).trans hR3.out) (by kernel_rfl) rfl (ver_one _ _ _ _ _) ?_))
            have hf := find_next ⟨a, b, c, p, q⟩ HG.out
            rw [HF.out] at hf
            exact rnext_done (u := u) rfl rfl ((heap_old _ _ hl3).trans hR3.out) (hbw3.alloc (by omega) _) hf.2 hf.1
          | false =>
            rw [hb] at cB
            obtain ⟨u, hu⟩ : ∃ u, bumpV ⟨a, b, c, p, q⟩ (k : Int) = u := ⟨_, rfl⟩
            rw [hu] at cB
            have hfq : findB ⟨a, b, c, p, q⟩ k = findB ⟨a, b, c, p, q⟩ 3 := by rw [← HR.out, findB, hb]; rfl
            have HF := Lib.hid hfq
            clear hfq hb hu hke
            go_wp2_with (first
              | (refine wpList_load_row rfl 26 _ rfl w.heap.size rfl _ _ _ _ HB.out Tryz.underlying26 rfl (by kernel_rfl) ?_)
              | (go_at_call 129; refine (cB _).mono ?_; rintro e w3 ⟨rfl, hb3⟩; have hl3 := Nat.lt_of_lt_of_le hlR hb3.size))
            have hR3 := (hb3.block (w.heap.size + 1) hlR).trans HR0.out
            have hB3 := (hb3.block w.heap.size (by omega)).trans HB.out
            have hbw3 := hbel.trans (hb3.mono hbel.size)
            go_roundw
            case rel => exact ⟨k, by omega, rfl, (heap_old _ _ (by omega)).trans hB3, (heap_old _ _ hl3).trans hR3, hbw3.alloc (by omega) _, HF.out⟩
            case measure => simp [intOf]; try omega
    | false =>
      have HV : Hid (nextV ⟨a, b, c, p, q⟩ = Ver.rel a b c) := by show _ = _; unfold nextV; rw [if_pos hm, if_neg (by simp [he])]
      have HO : Hid (nextOk ⟨a, b, c, p, q⟩ = true) := by show _ = _; unfold nextOk; rw [hm]; simp [he]
      rw [he] at ep
      clear he hm
      go_wp2_with (refine wpList_store_row rfl 26 _ _ rfl (w.heap.size + 1) #[.int .i64 a, .int .i64 b, .int .i64 c, .string (mkS []), .string (mkS [])] rfl rfl _ _ HGR.out (by kernel_rfl) rfl (ver_one _ _ _ _ _) ?_)
      exact rnext_done (u := Ver.rel a b c) rfl rfl HGR.out hbw HO.out HV.out

theorem rnext_any (v : Ver) (w : World) (hp : v.pre.length ≤ 1000000) (hq : v.build.length ≤ 1000000) :
    Calls Tryz.prog 102 #[verV v] w fun e w' => e = .returned (.tuple #[verV (nextV v), .bool (nextOk v)]) ∧ Below w.heap.size w w' := rnext_go v w hp hq
end Go.Proofs.YtgeccfdofmnphaaGreat
end

section
/-
  linchpinref5: least, right, ahead, behind, turned, None: what they return; nothing that was there is changed.
-/
namespace Go.Proofs.YtgeccfdofmnphaaGreat
open Go.RowKit
set_option maxRecDepth 100000
set_option linter.unusedVariables false
set_option linter.unusedSimpArgs false
set_option maxHeartbeats 2000000

theorem core_short {v : Ver} (h : v.short) : (coreV v).short := ⟨h.1, by show ([] : List UInt8).length ≤ _; exact Nat.zero_le _⟩
theorem next_flat (v : Ver) : (nextV v).pre = [] ∧ (nextV v).build = [] := by
  cases h : v.may with
  | false => unfold nextV; rw [h]; exact ⟨rfl, rfl⟩
  | true =>
    rcases next_is h with ⟨h1, h2, _⟩ | ⟨_, a, b, c, e, _⟩
    · unfold nextOk at h1
      rw [h, h2] at h1
      simp at h1
      unfold nextV
      simp [h, h2, h1]
      exact ⟨rfl, rfl⟩
    · rw [e]; exact ⟨rfl, rfl⟩
theorem next_core (v : Ver) : coreV (nextV v) = nextV v := by
  have h := (next_flat v).2
  generalize nextV v = u at h ⊢
  obtain ⟨a, b, c, p, q⟩ := u
  simp only at h; subst h; rfl
theorem next_short (v : Ver) : (nextV v).short := ⟨by rw [(next_flat v).1]; exact Nat.zero_le _, by rw [(next_flat v).2]; exact Nat.zero_le _⟩
theorem relV_short (v : Ver) : (relV v).short := ⟨by show ([] : List UInt8).length ≤ _; exact Nat.zero_le _, by show ([] : List UInt8).length ≤ _; exact Nat.zero_le _⟩
theorem rleast_any (v : Ver) (W : World) : Calls Tryz.prog 91 #[verV v] W fun e w' => e = .returned (.bool (leastV v)) ∧ Below W.heap.size W w' := by
  refine calls_ok (n := 16) Tryz.func91 rfl (by kernel_rfl) (by kernel_rfl) ?_
  refine ok_seq ?_
  refine ok_region ?_
  refine s_box (verV v) (by kernel_rfl) rfl (by kernel_rfl) (fun b1 => ?_)
  refine s_val (.bool false) (by kernel_rfl) (fun _ => by kernel_rfl) ?_
  refine s_nil ?_
  refine fin_seq ?_
  refine ok_seq ?_
  refine ok_region ?_
  refine s_val (.pointer (some ⟨b1, 0, none⟩)) (by kernel_rfl) (fun _ => by kernel_rfl) ?_
  refine s_load 0 ⟨b1, (verV v).cells, 26⟩ (off := 0) (.int .i64 v.maj) (by kernel_rfl) rfl (by kernel_rfl) (by kernel_rfl) (by kernel_rfl) ?_
  by_cases h1 : (v.maj : Int) = 0
  · skip
    refine s_dec (p := (v.maj : Int) = 0) true (by kernel_rfl) (fun _ => by kernel_rfl) (decide_eq_true (h1)) ?_
    refine s_val (.bool true) (by kernel_rfl) (fun _ => by kernel_rfl) ?_
    refine s_val (.pointer (some ⟨b1, 1, none⟩)) (by kernel_rfl) (fun _ => by kernel_rfl) ?_
    refine s_load 0 ⟨b1, (verV v).cells, 26⟩ (off := 1) (.int .i64 v.min) (by kernel_rfl) rfl (by kernel_rfl) (by kernel_rfl) (by kernel_rfl) ?_
    by_cases h2 : (v.min : Int) = 0
    · skip
      refine s_dec (p := (v.min : Int) = 0) true (by kernel_rfl) (fun _ => by kernel_rfl) (decide_eq_true (h2)) ?_
      refine s_val (.bool true) (by kernel_rfl) (fun _ => by kernel_rfl) ?_
      refine s_val (.bool true) (by kernel_rfl) (fun _ => by kernel_rfl) ?_
      refine s_val (.pointer (some ⟨b1, 2, none⟩)) (by kernel_rfl) (fun _ => by kernel_rfl) ?_
      refine s_load 0 ⟨b1, (verV v).cells, 26⟩ (off := 2) (.int .i64 v.pat) (by kernel_rfl) rfl (by kernel_rfl) (by kernel_rfl) (by kernel_rfl) ?_
      by_cases h3 : (v.pat : Int) = 0
      · skip
        refine s_dec (p := (v.pat : Int) = 0) true (by kernel_rfl) (fun _ => by kernel_rfl) (decide_eq_true (h3)) ?_
        refine s_val (.bool true) (by kernel_rfl) (fun _ => by kernel_rfl) ?_
        refine s_val (.bool true) (by kernel_rfl) (fun _ => by kernel_rfl) ?_
        refine s_nil ?_
        refine fin_seq ?_
        refine ok_ret ?_
        refine fin_ret (.bool true) Tryz.results91 (by kernel_rfl) ?_
        exact fun w hO => ⟨by simp [leastV, h1, h2, h3], hO.below⟩
      · skip
        refine s_dec (p := (v.pat : Int) = 0) false (by kernel_rfl) (fun _ => by kernel_rfl) (decide_eq_false (h3)) ?_
        refine s_val (.bool false) (by kernel_rfl) (fun _ => by kernel_rfl) ?_
        refine s_val (.bool false) (by kernel_rfl) (fun _ => by kernel_rfl) ?_
        refine s_nil ?_
        refine fin_seq ?_
        refine ok_ret ?_
        refine fin_ret (.bool false) Tryz.results91 (by kernel_rfl) ?_
        exact fun w hO => ⟨by simp [leastV, h1, h2, h3], hO.below⟩
    · skip
      refine s_dec (p := (v.min : Int) = 0) false (by kernel_rfl) (fun _ => by kernel_rfl) (decide_eq_false (h2)) ?_
      refine s_val (.bool false) (by kernel_rfl) (fun _ => by kernel_rfl) ?_
      refine s_val (.bool false) (by kernel_rfl) (fun _ => by kernel_rfl) ?_
      refine s_skip (by kernel_rfl) ?_
      refine s_skip (by kernel_rfl) ?_
      refine s_skip (by kernel_rfl) ?_
      refine s_val (.bool false) (by kernel_rfl) (fun _ => by kernel_rfl) ?_
      refine s_val (.bool false) (by kernel_rfl) (fun _ => by kernel_rfl) ?_
      refine s_nil ?_
      refine fin_seq ?_
      refine ok_ret ?_
      refine fin_ret (.bool false) Tryz.results91 (by kernel_rfl) ?_
      exact fun w hO => ⟨by simp [leastV, h1, h2], hO.below⟩
  · skip
    refine s_dec (p := (v.maj : Int) = 0) false (by kernel_rfl) (fun _ => by kernel_rfl) (decide_eq_false (h1)) ?_
    refine s_val (.bool false) (by kernel_rfl) (fun _ => by kernel_rfl) ?_
    refine s_skip (by kernel_rfl) ?_
    refine s_skip (by kernel_rfl) ?_
    refine s_skip (by kernel_rfl) ?_
    refine s_val (.bool false) (by kernel_rfl) (fun _ => by kernel_rfl) ?_
    refine s_val (.bool false) (by kernel_rfl) (fun _ => by kernel_rfl) ?_
    refine s_skip (by kernel_rfl) ?_
    refine s_skip (by kernel_rfl) ?_
    refine s_skip (by kernel_rfl) ?_
    refine s_val (.bool false) (by kernel_rfl) (fun _ => by kernel_rfl) ?_
    refine s_val (.bool false) (by kernel_rfl) (fun _ => by kernel_rfl) ?_
    refine s_nil ?_
    refine fin_seq ?_
    refine ok_ret ?_
    refine fin_ret (.bool false) Tryz.results91 (by kernel_rfl) ?_
    exact fun w hO => ⟨by simp [leastV, h1], hO.below⟩
theorem rbefore_any (v : Ver) (W : World) (hv : v.short) : Calls Tryz.prog 60 #[verV v] W fun e w' => e = .returned (cutV ⟨0, coreV v, false⟩) ∧ Below W.heap.size W w' := by
  refine calls_ok (n := 6) Tryz.func60 rfl (by kernel_rfl) (by kernel_rfl) ?_
  refine ok_seq ?_
  refine ok_region ?_
  refine s_box (verV v) (by kernel_rfl) rfl (by kernel_rfl) (fun b1 => ?_)
  refine s_alloc_at (.agg #[.int .i64 0, .int .i64 0, .int .i64 0, .int .i64 0, .string ⟨#[]⟩, .string ⟨#[]⟩, .bool false]) (by kernel_rfl) rfl (by kernel_rfl) (fun b2 => ?_)
  refine s_nil ?_
  refine fin_seq ?_
  refine ok_seq ?_
  refine ok_region ?_
  refine s_load 1 ⟨b1, (verV v).cells, 26⟩ (off := 0) (verV v) (by kernel_rfl) rfl (by kernel_rfl) (by kernel_rfl) (by kernel_rfl) ?_
  refine s_call (k := 100) (args := #[verV v]) (verV (coreV v)) (by kernel_rfl) (fun _ => by kernel_rfl) (fun w _ => rcore_any v w) ?_
  refine s_val (.agg #[.int .i64 0, .int .i64 ((coreV v).maj), .int .i64 ((coreV v).min), .int .i64 ((coreV v).pat), .string (mkS (coreV v).pre), .string (mkS (coreV v).build), .bool false]) (by kernel_rfl) (fun _ => by kernel_rfl) ?_
  refine s_store_at 0 ⟨b2, #[.int .i64 0, .int .i64 0, .int .i64 0, .int .i64 0, .string ⟨#[]⟩, .string ⟨#[]⟩, .bool false], 48⟩ (off := 0) (.agg #[.int .i64 0, .int .i64 ((coreV v).maj), .int .i64 ((coreV v).min), .int .i64 ((coreV v).pat), .string (mkS (coreV v).pre), .string (mkS (coreV v).build), .bool false]) (by kernel_rfl) rfl rfl (by kernel_rfl) (by kernel_rfl) (by kernel_rfl) (by kernel_rfl) (by kernel_rfl) ?_
  refine s_nil ?_
  refine fin_seq ?_
  refine ok_ret ?_
  refine fin_cell 0 ⟨b2, #[.int .i64 0, .int .i64 ((coreV v).maj), .int .i64 ((coreV v).min), .int .i64 ((coreV v).pat), .string (mkS (coreV v).pre), .string (mkS (coreV v).build), .bool false], 48⟩ (off := 0) (.agg #[.int .i64 0, .int .i64 ((coreV v).maj), .int .i64 ((coreV v).min), .int .i64 ((coreV v).pat), .string (mkS (coreV v).pre), .string (mkS (coreV v).build), .bool false]) Tryz.results60 (by kernel_rfl) (by kernel_rfl) (by kernel_rfl) ?_
  exact fun w hO => ⟨rfl, hO.below⟩
theorem rahead_any (v : Ver) (W : World) (hv : v.short) : Calls Tryz.prog 62 #[verV v] W fun e w' => e = .returned (cutV (relA v)) ∧ Below W.heap.size W w' := by
  refine calls_ok (n := 14) Tryz.func62 rfl (by kernel_rfl) (by kernel_rfl) ?_
  refine ok_seq ?_
  refine ok_region ?_
  refine s_box (verV v) (by kernel_rfl) rfl (by kernel_rfl) (fun b1 => ?_)
  refine s_alloc_at (.agg #[.int .i64 0, .int .i64 0, .int .i64 0, .int .i64 0, .string ⟨#[]⟩, .string ⟨#[]⟩, .bool false]) (by kernel_rfl) rfl (by kernel_rfl) (fun b2 => ?_)
  refine s_nil ?_
  refine fin_seq ?_
  refine ok_seq ?_
  refine ok_seq ?_
  refine ok_region ?_
  refine s_load 1 ⟨b1, (verV v).cells, 26⟩ (off := 0) (verV v) (by kernel_rfl) rfl (by kernel_rfl) (by kernel_rfl) (by kernel_rfl) ?_
  refine s_call (k := 91) (args := #[verV v]) (.bool (leastV v)) (by kernel_rfl) (fun _ => by kernel_rfl) (fun w _ => rleast_any v w) ?_
  refine s_nil ?_
  refine fin_seq ?_
  cases h1 : leastV v with
  | true =>
    refine ok_true (by kernel_rfl) ?_
    refine ok_seq ?_
    refine ok_region ?_
    refine s_call (k := 101) (args := #[]) (cutV (endC (-1))) (by kernel_rfl) (fun _ => by kernel_rfl) (fun w _ => rfirst_any w) ?_
    refine s_store_at 0 ⟨b2, #[.int .i64 0, .int .i64 0, .int .i64 0, .int .i64 0, .string ⟨#[]⟩, .string ⟨#[]⟩, .bool false], 48⟩ (off := 0) (cutV (endC (-1))) (by kernel_rfl) rfl rfl (by kernel_rfl) (by kernel_rfl) (by kernel_rfl) (by kernel_rfl) (by kernel_rfl) ?_
    refine s_nil ?_
    refine fin_seq ?_
    refine ok_ret ?_
    refine fin_seq_ret ?_
    refine fin_cell 0 ⟨b2, (cutV (endC (-1))).cells, 48⟩ (off := 0) (cutV (endC (-1))) Tryz.results62 (by kernel_rfl) (by kernel_rfl) (by kernel_rfl) ?_
    exact fun w hO => ⟨by unfold relA; rw [h1]; rfl, hO.below⟩
  | false =>
    refine ok_false (by kernel_rfl) ?_
    refine ok_skip ?_
    refine fin_seq ?_
    refine ok_seq ?_
    refine ok_region ?_
    refine s_val (.pointer (some ⟨b1, 0, none⟩)) (by kernel_rfl) (fun _ => by kernel_rfl) ?_
    refine s_load 1 ⟨b1, (verV v).cells, 26⟩ (off := 0) (.int .i64 v.maj) (by kernel_rfl) rfl (by kernel_rfl) (by kernel_rfl) (by kernel_rfl) ?_
    refine s_val (.pointer (some ⟨b1, 1, none⟩)) (by kernel_rfl) (fun _ => by kernel_rfl) ?_
    refine s_load 1 ⟨b1, (verV v).cells, 26⟩ (off := 1) (.int .i64 v.min) (by kernel_rfl) rfl (by kernel_rfl) (by kernel_rfl) (by kernel_rfl) ?_
    refine s_val (.pointer (some ⟨b1, 2, none⟩)) (by kernel_rfl) (fun _ => by kernel_rfl) ?_
    refine s_load 1 ⟨b1, (verV v).cells, 26⟩ (off := 2) (.int .i64 v.pat) (by kernel_rfl) rfl (by kernel_rfl) (by kernel_rfl) (by kernel_rfl) ?_
    refine s_val (.agg #[.int .i64 v.maj, .int .i64 v.min, .int .i64 v.pat, .string ⟨#[]⟩, .string ⟨#[]⟩]) (by kernel_rfl) (fun _ => by kernel_rfl) ?_
    refine s_call (k := 60) (args := #[.agg #[.int .i64 v.maj, .int .i64 v.min, .int .i64 v.pat, .string ⟨#[]⟩, .string ⟨#[]⟩]]) (cutV ⟨0, coreV (relV v), false⟩) (by kernel_rfl) (fun _ => by kernel_rfl) (fun w _ => rbefore_any (relV v) w (relV_short v)) ?_
    refine s_store_at 0 ⟨b2, #[.int .i64 0, .int .i64 0, .int .i64 0, .int .i64 0, .string ⟨#[]⟩, .string ⟨#[]⟩, .bool false], 48⟩ (off := 0) (cutV ⟨0, coreV (relV v), false⟩) (by kernel_rfl) rfl rfl (by kernel_rfl) (by kernel_rfl) (by kernel_rfl) (by kernel_rfl) (by kernel_rfl) ?_
    refine s_nil ?_
    refine fin_seq ?_
    refine ok_ret ?_
    refine fin_cell 0 ⟨b2, (cutV ⟨0, coreV (relV v), false⟩).cells, 48⟩ (off := 0) (cutV ⟨0, coreV (relV v), false⟩) Tryz.results62 (by kernel_rfl) (by kernel_rfl) (by kernel_rfl) ?_
    exact fun w hO => ⟨by unfold relA; rw [h1]; rfl, hO.below⟩
theorem rbehind_any (v : Ver) (W : World) (hv : v.short) : Calls Tryz.prog 63 #[verV v] W fun e w' => e = .returned (cutV (relB v)) ∧ Below W.heap.size W w' := by
  have hnc : coreV (nextV (relV v)) = nextV (relV v) := next_core (relV v)
  have hns : (nextV (relV v)).short := next_short (relV v)
  refine calls_ok (n := 21) Tryz.func63 rfl (by kernel_rfl) (by kernel_rfl) ?_
  refine ok_seq ?_
  refine ok_region ?_
  refine s_box (verV v) (by kernel_rfl) rfl (by kernel_rfl) (fun b1 => ?_)
  refine s_alloc_at (.agg #[.int .i64 0, .int .i64 0, .int .i64 0, .int .i64 0, .string ⟨#[]⟩, .string ⟨#[]⟩, .bool false]) (by kernel_rfl) rfl (by kernel_rfl) (fun b2 => ?_)
  refine s_nil ?_
  refine fin_seq ?_
  refine ok_seq ?_
  refine ok_region ?_
  refine s_val (.pointer (some ⟨b1, 0, none⟩)) (by kernel_rfl) (fun _ => by kernel_rfl) ?_
  refine s_load 1 ⟨b1, (verV v).cells, 26⟩ (off := 0) (.int .i64 v.maj) (by kernel_rfl) rfl (by kernel_rfl) (by kernel_rfl) (by kernel_rfl) ?_
  refine s_val (.pointer (some ⟨b1, 1, none⟩)) (by kernel_rfl) (fun _ => by kernel_rfl) ?_
  refine s_load 1 ⟨b1, (verV v).cells, 26⟩ (off := 1) (.int .i64 v.min) (by kernel_rfl) rfl (by kernel_rfl) (by kernel_rfl) (by kernel_rfl) ?_
  refine s_val (.pointer (some ⟨b1, 2, none⟩)) (by kernel_rfl) (fun _ => by kernel_rfl) ?_
  refine s_load 1 ⟨b1, (verV v).cells, 26⟩ (off := 2) (.int .i64 v.pat) (by kernel_rfl) rfl (by kernel_rfl) (by kernel_rfl) (by kernel_rfl) ?_
  refine s_val (.agg #[.int .i64 v.maj, .int .i64 v.min, .int .i64 v.pat, .string ⟨#[]⟩, .string ⟨#[]⟩]) (by kernel_rfl) (fun _ => by kernel_rfl) ?_
  refine s_call (k := 102) (args := #[.agg #[.int .i64 v.maj, .int .i64 v.min, .int .i64 v.pat, .string ⟨#[]⟩, .string ⟨#[]⟩]]) (.tuple #[verV (nextV (relV v)), .bool (nextOk (relV v))]) (by kernel_rfl) (fun _ => by kernel_rfl) (fun w _ => rnext_any (relV v) w (relV_short v).1 (relV_short v).2) ?_
  refine s_val (.tuple #[verV (nextV (relV v)), .bool (nextOk (relV v))]) (by kernel_rfl) (fun _ => by kernel_rfl) ?_
  refine s_val (verV (nextV (relV v))) (by kernel_rfl) (fun _ => by kernel_rfl) ?_
  refine s_val (.bool (nextOk (relV v))) (by kernel_rfl) (fun _ => by kernel_rfl) ?_
  refine s_alloc_at (.agg #[.int .i64 0, .int .i64 0, .int .i64 0, .string ⟨#[]⟩, .string ⟨#[]⟩]) (by kernel_rfl) rfl (by kernel_rfl) (fun b3 => ?_)
  refine s_store_at 0 ⟨b3, #[.int .i64 0, .int .i64 0, .int .i64 0, .string ⟨#[]⟩, .string ⟨#[]⟩], 26⟩ (off := 0) (verV (nextV (relV v))) (by kernel_rfl) rfl rfl (by kernel_rfl) (by kernel_rfl) (by kernel_rfl) (by kernel_rfl) (by kernel_rfl) ?_
  refine s_val (.bool (nextOk (relV v))) (by kernel_rfl) (fun _ => by kernel_rfl) ?_
  refine s_nil ?_
  refine fin_seq ?_
  refine ok_seq ?_
  refine ok_seq ?_
  refine ok_region ?_
  refine s_val (.bool (nextOk (relV v))) (by kernel_rfl) (fun _ => by kernel_rfl) ?_
  cases h1 : nextOk (relV v) with
  | true =>
    refine s_val (.bool false) (by kernel_rfl) (fun _ => by kernel_rfl) ?_
    refine s_nil ?_
    refine fin_seq ?_
    refine ok_false (by kernel_rfl) ?_
    refine ok_skip ?_
    refine fin_seq ?_
    refine ok_seq ?_
    refine ok_region ?_
    refine s_load 0 ⟨b3, (verV (nextV (relV v))).cells, 26⟩ (off := 0) (verV (nextV (relV v))) (by kernel_rfl) rfl (by kernel_rfl) (by kernel_rfl) (by kernel_rfl) ?_
    refine s_call (k := 60) (args := #[verV (nextV (relV v))]) (cutV ⟨0, coreV (nextV (relV v)), false⟩) (by kernel_rfl) (fun _ => by kernel_rfl) (fun w _ => rbefore_any (nextV (relV v)) w hns) ?_
    refine s_store_at 1 ⟨b2, #[.int .i64 0, .int .i64 0, .int .i64 0, .int .i64 0, .string ⟨#[]⟩, .string ⟨#[]⟩, .bool false], 48⟩ (off := 0) (cutV ⟨0, coreV (nextV (relV v)), false⟩) (by kernel_rfl) rfl rfl (by kernel_rfl) (by kernel_rfl) (by kernel_rfl) (by kernel_rfl) (by kernel_rfl) ?_
    refine s_nil ?_
    refine fin_seq ?_
    refine ok_ret ?_
    refine fin_cell 1 ⟨b2, (cutV ⟨0, coreV (nextV (relV v)), false⟩).cells, 48⟩ (off := 0) (cutV ⟨0, coreV (nextV (relV v)), false⟩) Tryz.results63 (by kernel_rfl) (by kernel_rfl) (by kernel_rfl) ?_
    exact fun w hO => ⟨by unfold relB; rw [h1]; first | rfl | (rw [hnc]; rfl), hO.below⟩
  | false =>
    refine s_val (.bool true) (by kernel_rfl) (fun _ => by kernel_rfl) ?_
    refine s_nil ?_
    refine fin_seq ?_
    refine ok_true (by kernel_rfl) ?_
    refine ok_seq ?_
    refine ok_region ?_
    refine s_call (k := 103) (args := #[]) (cutV (endC 1)) (by kernel_rfl) (fun _ => by kernel_rfl) (fun w _ => rlast_any w) ?_
    refine s_store_at 1 ⟨b2, #[.int .i64 0, .int .i64 0, .int .i64 0, .int .i64 0, .string ⟨#[]⟩, .string ⟨#[]⟩, .bool false], 48⟩ (off := 0) (cutV (endC 1)) (by kernel_rfl) rfl rfl (by kernel_rfl) (by kernel_rfl) (by kernel_rfl) (by kernel_rfl) (by kernel_rfl) ?_
    refine s_nil ?_
    refine fin_seq ?_
    refine ok_ret ?_
    refine fin_seq_ret ?_
    refine fin_cell 1 ⟨b2, (cutV (endC 1)).cells, 48⟩ (off := 0) (cutV (endC 1)) Tryz.results63 (by kernel_rfl) (by kernel_rfl) (by kernel_rfl) ?_
    exact fun w hO => ⟨by unfold relB; rw [h1]; first | rfl | (rw [hnc]; rfl), hO.below⟩
theorem rturned_any (c : Cu) (W : World) (hc : c.v.short) : Calls Tryz.prog 48 #[cutV c] W fun e w' => e = .returned (cutV (turnC c)) ∧ Below W.heap.size W w' := by
  refine calls_ok (n := 21) Tryz.func48 rfl (by kernel_rfl) (by kernel_rfl) ?_
  refine ok_seq ?_
  refine ok_region ?_
  refine s_box (cutV c) (by kernel_rfl) rfl (by kernel_rfl) (fun b1 => ?_)
  refine s_alloc_at (.agg #[.int .i64 0, .int .i64 0, .int .i64 0, .int .i64 0, .string ⟨#[]⟩, .string ⟨#[]⟩, .bool false]) (by kernel_rfl) rfl (by kernel_rfl) (fun b2 => ?_)
  refine s_nil ?_
  refine fin_seq ?_
  refine ok_seq ?_
  refine ok_seq ?_
  refine ok_region ?_
  refine s_val (.pointer (some ⟨b1, 0, none⟩)) (by kernel_rfl) (fun _ => by kernel_rfl) ?_
  refine s_load 1 ⟨b1, (cutV c).cells, 48⟩ (off := 0) (.int .i64 c.e) (by kernel_rfl) rfl (by kernel_rfl) (by kernel_rfl) (by kernel_rfl) ?_
  by_cases h1 : (c.e : Int) = 0
  · skip
    refine s_ndec (p := (c.e : Int) = 0) true (by kernel_rfl) (fun _ => by kernel_rfl) (decide_eq_true (h1)) ?_
    refine s_nil ?_
    refine fin_seq ?_
    refine ok_false (by kernel_rfl) ?_
    refine ok_skip ?_
    refine fin_seq ?_
    refine ok_seq ?_
    refine ok_seq ?_
    refine ok_region ?_
    refine s_val (.pointer (some ⟨b1, 6, none⟩)) (by kernel_rfl) (fun _ => by kernel_rfl) ?_
    refine s_load 1 ⟨b1, (cutV c).cells, 48⟩ (off := 6) (.bool c.aft) (by kernel_rfl) rfl (by kernel_rfl) (by kernel_rfl) (by kernel_rfl) ?_
    refine s_val (.bool c.aft) (by kernel_rfl) (fun _ => by kernel_rfl) ?_
    cases h2 : c.aft with
    | true =>
      refine s_val (.pointer (some ⟨b1, 1, none⟩)) (by kernel_rfl) (fun _ => by kernel_rfl) ?_
      refine s_val (.pointer (some ⟨b1, 4, none⟩)) (by kernel_rfl) (fun _ => by kernel_rfl) ?_
      refine s_load 1 ⟨b1, (cutV c).cells, 48⟩ (off := 4) (.string (mkS c.v.pre)) (by kernel_rfl) rfl (by kernel_rfl) (by kernel_rfl) (by kernel_rfl) ?_
      by_cases h3 : (c.v.pre : List UInt8) = []
      · skip
        refine s_val (.bool true) (by kernel_rfl) (run_streql (a := c.v.pre) (b := ([])) rfl (by kernel_rfl) (by kernel_rfl) (decide_eq_true (h3))) ?_
        refine s_val (.bool true) (by kernel_rfl) (fun _ => by kernel_rfl) ?_
        refine s_nil ?_
        refine fin_seq ?_
        refine ok_true (by kernel_rfl) ?_
        refine ok_seq ?_
        refine ok_region ?_
        refine s_val (.pointer (some ⟨b1, 1, none⟩)) (by kernel_rfl) (fun _ => by kernel_rfl) ?_
        refine s_load 1 ⟨b1, (cutV c).cells, 48⟩ (off := 1) (.agg #[.int .i64 c.v.maj, .int .i64 c.v.min, .int .i64 c.v.pat, .string (mkS c.v.pre), .string (mkS c.v.build)]) (by kernel_rfl) rfl (by kernel_rfl) (by kernel_rfl) (by kernel_rfl) ?_
        refine s_call (k := 63) (args := #[.agg #[.int .i64 c.v.maj, .int .i64 c.v.min, .int .i64 c.v.pat, .string (mkS c.v.pre), .string (mkS c.v.build)]]) (cutV (relB c.v)) (by kernel_rfl) (fun _ => by kernel_rfl) (fun w _ => rbehind_any c.v w hc) ?_
        refine s_store_at 0 ⟨b2, #[.int .i64 0, .int .i64 0, .int .i64 0, .int .i64 0, .string ⟨#[]⟩, .string ⟨#[]⟩, .bool false], 48⟩ (off := 0) (cutV (relB c.v)) (by kernel_rfl) rfl rfl (by kernel_rfl) (by kernel_rfl) (by kernel_rfl) (by kernel_rfl) (by kernel_rfl) ?_
        refine s_nil ?_
        refine fin_seq ?_
        refine ok_ret ?_
        refine fin_seq_ret ?_
        refine fin_cell 0 ⟨b2, (cutV (relB c.v)).cells, 48⟩ (off := 0) (cutV (relB c.v)) Tryz.results48 (by kernel_rfl) (by kernel_rfl) (by kernel_rfl) ?_
        exact fun w hO => ⟨by unfold turnC; simp [h1, h2, h3], hO.below⟩
      · skip
        refine s_val (.bool false) (by kernel_rfl) (run_streql (a := c.v.pre) (b := ([])) rfl (by kernel_rfl) (by kernel_rfl) (decide_eq_false (h3))) ?_
        refine s_val (.bool false) (by kernel_rfl) (fun _ => by kernel_rfl) ?_
        refine s_nil ?_
        refine fin_seq ?_
        refine ok_false (by kernel_rfl) ?_
        refine ok_skip ?_
        refine fin_seq ?_
        refine ok_seq ?_
        refine ok_region ?_
        refine s_val (.pointer (some ⟨b1, 1, none⟩)) (by kernel_rfl) (fun _ => by kernel_rfl) ?_
        refine s_load 1 ⟨b1, (cutV c).cells, 48⟩ (off := 1) (.agg #[.int .i64 c.v.maj, .int .i64 c.v.min, .int .i64 c.v.pat, .string (mkS c.v.pre), .string (mkS c.v.build)]) (by kernel_rfl) rfl (by kernel_rfl) (by kernel_rfl) (by kernel_rfl) ?_
        refine s_call (k := 62) (args := #[.agg #[.int .i64 c.v.maj, .int .i64 c.v.min, .int .i64 c.v.pat, .string (mkS c.v.pre), .string (mkS c.v.build)]]) (cutV (relA c.v)) (by kernel_rfl) (fun _ => by kernel_rfl) (fun w _ => rahead_any c.v w hc) ?_
        refine s_store_at 0 ⟨b2, #[.int .i64 0, .int .i64 0, .int .i64 0, .int .i64 0, .string ⟨#[]⟩, .string ⟨#[]⟩, .bool false], 48⟩ (off := 0) (cutV (relA c.v)) (by kernel_rfl) rfl rfl (by kernel_rfl) (by kernel_rfl) (by kernel_rfl) (by kernel_rfl) (by kernel_rfl) ?_
        refine s_nil ?_
        refine fin_seq ?_
        refine ok_ret ?_
        refine fin_cell 0 ⟨b2, (cutV (relA c.v)).cells, 48⟩ (off := 0) (cutV (relA c.v)) Tryz.results48 (by kernel_rfl) (by kernel_rfl) (by kernel_rfl) ?_
        exact fun w hO => ⟨by unfold turnC; simp [h1, h2, h3], hO.below⟩
    | false =>
      refine s_skip (by kernel_rfl) ?_
      refine s_skip (by kernel_rfl) ?_
      refine s_skip (by kernel_rfl) ?_
      refine s_skip (by kernel_rfl) ?_
      refine s_val (.bool false) (by kernel_rfl) (fun _ => by kernel_rfl) ?_
      refine s_nil ?_
      refine fin_seq ?_
      refine ok_false (by kernel_rfl) ?_
      refine ok_skip ?_
      refine fin_seq ?_
      refine ok_seq ?_
      refine ok_region ?_
      refine s_val (.pointer (some ⟨b1, 1, none⟩)) (by kernel_rfl) (fun _ => by kernel_rfl) ?_
      refine s_load 1 ⟨b1, (cutV c).cells, 48⟩ (off := 1) (.agg #[.int .i64 c.v.maj, .int .i64 c.v.min, .int .i64 c.v.pat, .string (mkS c.v.pre), .string (mkS c.v.build)]) (by kernel_rfl) rfl (by kernel_rfl) (by kernel_rfl) (by kernel_rfl) ?_
      refine s_call (k := 62) (args := #[.agg #[.int .i64 c.v.maj, .int .i64 c.v.min, .int .i64 c.v.pat, .string (mkS c.v.pre), .string (mkS c.v.build)]]) (cutV (relA c.v)) (by kernel_rfl) (fun _ => by kernel_rfl) (fun w _ => rahead_any c.v w hc) ?_
      refine s_store_at 0 ⟨b2, #[.int .i64 0, .int .i64 0, .int .i64 0, .int .i64 0, .string ⟨#[]⟩, .string ⟨#[]⟩, .bool false], 48⟩ (off := 0) (cutV (relA c.v)) (by kernel_rfl) rfl rfl (by kernel_rfl) (by kernel_rfl) (by kernel_rfl) (by kernel_rfl) (by kernel_rfl) ?_
      refine s_nil ?_
      refine fin_seq ?_
      refine ok_ret ?_
      refine fin_cell 0 ⟨b2, (cutV (relA c.v)).cells, 48⟩ (off := 0) (cutV (relA c.v)) Tryz.results48 (by kernel_rfl) (by kernel_rfl) (by kernel_rfl) ?_
      exact fun w hO => ⟨by unfold turnC; simp [h1, h2], hO.below⟩
  · skip
    refine s_ndec (p := (c.e : Int) = 0) false (by kernel_rfl) (fun _ => by kernel_rfl) (decide_eq_false (h1)) ?_
    refine s_nil ?_
    refine fin_seq ?_
    refine ok_true (by kernel_rfl) ?_
    refine ok_seq ?_
    refine ok_region ?_
    refine s_load 1 ⟨b1, (cutV c).cells, 48⟩ (off := 0) (cutV c) (by kernel_rfl) rfl (by kernel_rfl) (by kernel_rfl) (by kernel_rfl) ?_
    refine s_store_at 0 ⟨b2, #[.int .i64 0, .int .i64 0, .int .i64 0, .int .i64 0, .string ⟨#[]⟩, .string ⟨#[]⟩, .bool false], 48⟩ (off := 0) (cutV c) (by kernel_rfl) rfl rfl (by kernel_rfl) (by kernel_rfl) (by kernel_rfl) (by kernel_rfl) (by kernel_rfl) ?_
    refine s_nil ?_
    refine fin_seq ?_
    refine ok_ret ?_
    refine fin_seq_ret ?_
    refine fin_cell 0 ⟨b2, (cutV c).cells, 48⟩ (off := 0) (cutV c) Tryz.results48 (by kernel_rfl) (by kernel_rfl) (by kernel_rfl) ?_
    exact fun w hO => ⟨by unfold turnC; simp [h1], hO.below⟩
theorem rnone_any (W : World) : Calls Tryz.prog 47 #[] W fun e w' => e = .returned (.agg #[.slice none 0 0, .slice none 0 0]) ∧ Below W.heap.size W w' := by
  refine calls_ok (n := 2) Tryz.func47 rfl (by kernel_rfl) (by kernel_rfl) ?_
  refine ok_seq ?_
  refine ok_region ?_
  refine s_alloc_at (.agg #[.slice none 0 0, .slice none 0 0]) (by kernel_rfl) rfl (by kernel_rfl) (fun b1 => ?_)
  refine s_nil ?_
  refine fin_seq ?_
  refine ok_seq ?_
  refine ok_region ?_
  refine s_val (.agg #[.slice none 0 0, .slice none 0 0]) (by kernel_rfl) (fun _ => by kernel_rfl) ?_
  refine s_store_at 0 ⟨b1, #[.slice none 0 0, .slice none 0 0], 24⟩ (off := 0) (.agg #[.slice none 0 0, .slice none 0 0]) (by kernel_rfl) rfl rfl (by kernel_rfl) (by kernel_rfl) (by kernel_rfl) (by kernel_rfl) (by kernel_rfl) ?_
  refine s_nil ?_
  refine fin_seq ?_
  refine ok_ret ?_
  refine fin_cell 0 ⟨b1, #[.slice none 0 0, .slice none 0 0], 24⟩ (off := 0) (.agg #[.slice none 0 0, .slice none 0 0]) Tryz.results47 (by kernel_rfl) (by kernel_rfl) (by kernel_rfl) ?_
  exact fun w hO => ⟨rfl, hO.below⟩
end Go.Proofs.YtgeccfdofmnphaaGreat
end

section
/-
  linchpinref5: May, Has, Same: what they return for sets of at most 100000 spans whose strings have at most a million bytes; nothing that was there is changed.
-/
namespace Go.Proofs.YtgeccfdofmnphaaGreat
open Go.RowKit
set_option maxRecDepth 100000
set_option linter.unusedVariables false
set_option linter.unusedSimpArgs false
set_option maxHeartbeats 2000000

/-- A set that can be read: its two slices; bounds. -/
structure SetIn (w : World) (B : Nat) (A A' : Option Addr) (a : St) : Prop where
  rel : Reads spanC w B A a.rel
  pre : Reads spanC w B A' a.pre
  lr : a.rel.length ≤ 100000
  lp : a.pre.length ≤ 100000
  sr : ShortL a.rel
  sp : ShortL a.pre
theorem SetIn.on {w w' : World} {B B' : Nat} {A A' : Option Addr} {a : St} (h : SetIn w B A A' a) (hb : Below B w w') (hB : B ≤ B') : SetIn w' B' A A' a := ⟨h.rel.on hb hB, h.pre.on hb hB, h.lr, h.lp, h.sr, h.sp⟩
end Go.Proofs.YtgeccfdofmnphaaGreat
end

section
/-
  A drawn region's list of blocks in another order. No condition of its own.
-/
namespace Go.Proofs.YtgeccfdofmnphaaGreat
open Go.RowKit
set_option linter.unusedVariables false
section
variable {M : List Nat} {P : Program} {n : Nat} {ops : Array Oper} {W : World} {L0 : List Blk} {Q : Exit → Act → World → Prop} {fuel : Nat} {listed : Array Bool} {L : List Blk} {f : Nat → Value}
theorem h_loadm (i : Nat) (E : List Blk) (oi : Oper) (x : Blk) {ty : TypeId} {p : Operand} {off : Nat} (v : Value) (hi : ops[i]? = some oi) (hs : Region.noSelect ops = true) (hf : Region.free .any ops listed i = true) (hr : (Region.ready .any ops listed).contains i = true)
    (hQ : PQ Q) (hw : want ops n f oi = true) (ho : oi.op = .load ty p) (hL : x ∈ L0) (hp : ev n f p = .pointer (some ⟨x.b, off, none⟩)) (hv : readAt P ty x.cs off = some v)
    (h : HSeg M P n ops W L0 Q fuel (listed.setIfInBounds i true) (E ++ L0) (upd f oi.dst v)) : HSeg M P n ops W L0 Q (fuel + 1) listed (E ++ L0) f :=
  h_take i E oi v hi hs hf hr hQ hw (fun _ hO => run_load_op ho hp (run_readAt hv (hO.held x hL))) h
theorem h_drop (E : List Blk) (h : HSeg M P n ops W L0 Q fuel listed L0 f) : HSeg M P n ops W L0 Q fuel listed (E ++ L0) f := ⟨fun w hO => h.go w (Own.sub E hO)⟩
theorem hs_front {i : Nat} {E E' : List Blk} (p : E.Perm E') (h : HStep M P n ops W L0 Q fuel listed i (E' ++ L0) f) : HStep M P n ops W L0 Q fuel listed i (E ++ L0) f := ⟨fun w hO => h.go w (hO.perm (p.append_right L0))⟩
end
theorem own_nil {M : List Nat} {W w : World} {L : List Blk} (h : Own M W w L) : Own M W w [] := h.sublist (List.nil_sublist _)
/-- A new block at the head, then what two calls have made. -/
theorem own_mid {M : List Nat} {W w : World} {x : Blk} {A B L0 : List Blk} (h : Own M W w ((x :: (A ++ (B ++ []))) ++ L0)) : Own M W w (A ++ B) := by
  rw [List.append_nil] at h
  exact h.sublist ((List.sublist_append_left (A ++ B) L0).cons x)
end Go.Proofs.YtgeccfdofmnphaaGreat
end

section
/-
  linchpinref5: Or, And, Not, Minus, Within, Apart, Exact: what they return for sets of at most 100000 spans (Minus: 10000) whose strings have at most a million bytes; nothing that was there is changed.
-/
namespace Go.Proofs.YtgeccfdofmnphaaGreat
open Go.RowKit
set_option maxRecDepth 100000
set_option linter.unusedVariables false
set_option linter.unusedSimpArgs false
set_option maxHeartbeats 2000000

theorem sls_cap {A : Option Addr} {n c : Nat} {l : List Sp} {ob : List Blk} (h : SlS (.slice A n c) l ob) : l.length ≤ c := by
  rcases h.2 with ⟨h1, h2, _⟩ | ⟨g, c', cur, h1, _, h3, _⟩
  · rw [h2]; exact Nat.zero_le _
  · simp only [Value.slice.injEq] at h1
    rw [h1.2.2]; exact h3
/-- A set that the call has made. -/
def SetO (v : Value) (a : St) (ob : List Blk) : Prop := ∃ v1 v2 o1 o2, v = .agg #[v1, v2] ∧ ob = o2 ++ o1 ∧ SlS v1 a.rel o1 ∧ SlS v2 a.pre o2
theorem SetO.form {v : Value} {a : St} {ob : List Blk} (h : SetO v a ob) : ∃ A B c d, v = .agg #[.slice A a.rel.length c, .slice B a.pre.length d] := by
  obtain ⟨v1, v2, o1, o2, rfl, _, h1, h2⟩ := h
  obtain ⟨A, c, rfl⟩ := h1.form
  obtain ⟨B, d, rfl⟩ := h2.form
  exact ⟨A, B, c, d, rfl⟩
theorem agg_two {a b c d : Value} (h : (Value.agg #[a, b]) = .agg #[c, d]) : a = c ∧ b = d := by
  injection h with h
  have h2 := congrArg Array.toList h
  simp only [List.cons.injEq, and_true] at h2
  exact h2
theorem SetO.inn {A B : Option Addr} {c d n : Nat} {a : St} {ob L : List Blk} {M : List Nat} {W w : World} (h : SetO (.agg #[.slice A a.rel.length c, .slice B a.pre.length d]) a ob) (hO : Own M W w L) (hob : ∀ x ∈ ob, x ∈ L) (hf : SF a n) (hn : n ≤ 100000) : SetIn w w.heap.size A B a := by
  obtain ⟨v1, v2, o1, o2, e, rfl, h1, h2⟩ := h
  obtain ⟨rfl, rfl⟩ := agg_two e
  exact ⟨Sl.reads h1 rfl hO (fun x hx => hob x (by simp [hx])), Sl.reads h2 rfl hO (fun x hx => hob x (by simp [hx])), Nat.le_trans hf.rel.len hn, Nat.le_trans hf.pre.len hn, hf.rel.short, hf.pre.short⟩
theorem SetO.caps {A B : Option Addr} {c d : Nat} {a : St} {ob : List Blk} (h : SetO (.agg #[.slice A a.rel.length c, .slice B a.pre.length d]) a ob) : a.rel.length ≤ c ∧ a.pre.length ≤ d := by
  obtain ⟨v1, v2, o1, o2, e, rfl, h1, h2⟩ := h
  obtain ⟨rfl, rfl⟩ := agg_two e
  exact ⟨sls_cap h1, sls_cap h2⟩
theorem SetO.none : SetO (.agg #[.slice none 0 0, .slice none 0 0]) noneT [] := ⟨_, _, [], [], rfl, rfl, Sl.nil _ _, Sl.nil _ _⟩
end Go.Proofs.YtgeccfdofmnphaaGreat
end

section
/-
  linchpinref5: Minus, Apart (of sets of at most 20000 spans a row), Exact: what they return for strings of at most a million bytes; nothing that was there is changed.
-/
namespace Go.Proofs.YtgeccfdofmnphaaGreat
open Go.RowKit
set_option maxRecDepth 100000
set_option linter.unusedVariables false
set_option linter.unusedSimpArgs false
set_option maxHeartbeats 2000000

theorem none_in (w : World) (n : Nat) : SetIn w n none none noneT := ⟨fun h0 => absurd h0 (Nat.lt_irrefl 0), fun h0 => absurd h0 (Nat.lt_irrefl 0), Nat.zero_le _, Nat.zero_le _, fun s hs => by simp [noneT] at hs, fun s hs => by simp [noneT] at hs⟩
theorem sls_lit (s : Sp) (b : Nat) (cur : Array Value) (h : cur.toList = spanC s) : SlS (.slice (some ⟨b, 0, none⟩) 1 1) [s] [⟨b, cur, 50⟩] := by
  have e : ([s] : List Sp).flatMap spanC = spanC s := List.append_nil _
  have hc : cur.toList.length = 14 := by rw [h]; rfl
  refine ⟨by rw [e]; rfl, .inr ⟨b, 1, cur, rfl, rfl, Nat.le_refl _, by decide, by rw [← Array.length_toList, hc], ?_⟩⟩
  rw [e, h]
  exact List.take_of_length_le (Nat.le_refl 14)
end Go.Proofs.YtgeccfdofmnphaaGreat
end

section
/-
  linchpinref5.Make: any two rows of at most 100000 spans whose strings have at most a million bytes as a set; nothing that was there is changed.
-/
namespace Go.Proofs.YtgeccfdofmnphaaGreat
open Go.RowKit
set_option maxRecDepth 100000
set_option linter.unusedVariables false
set_option linter.unusedSimpArgs false
set_option maxHeartbeats 2000000

theorem turn_short {c : Cu} (h : c.short) : (turnC c).short := by
  unfold turnC
  split
  · exact h
  · split
    · unfold relB
      split
      · exact next_short _
      · exact ⟨by simp [endC, Ver.zero], by simp [endC, Ver.zero]⟩
    · unfold relA
      split
      · exact ⟨by simp [endC, Ver.zero], by simp [endC, Ver.zero]⟩
      · exact relV_short _
def turnL (l : List Sp) (k : Nat) : List Sp := ((l.take k).map turnS).filter (·.may)
theorem turnL_step {l : List Sp} {k : Nat} (hk : k < l.length) {s : Sp} (hs : l[k] = s) : turnL l (k + 1) = turnL l k ++ (if (turnS s).may then [turnS s] else []) := by
  unfold turnL
  rw [List.take_succ_eq_append_getElem hk, List.map_append, List.filter_append, hs]
  congr 1
  show List.filter _ [turnS s] = _
  cases h : (turnS s).may <;> simp [h]
theorem turnL_len (l : List Sp) (k : Nat) : (turnL l k).length ≤ k := by
  unfold turnL
  refine Nat.le_trans (List.length_filter_le _ _) ?_
  rw [List.length_map, List.length_take]; omega
structure MkI (l : List Sp) (k : Nat) (u : Value) (acc : List Sp) (ob : List Blk) : Prop where
  le : k ≤ l.length
  sl : SlS u acc ob
  eq : acc = turnL l k
theorem MkI.keep {l : List Sp} {k : Nat} {u : Value} {acc : List Sp} {ob : List Blk} (h : MkI l k u acc ob) (hk : k < l.length) {s : Sp} {x y : Cu} (hs : l[k] = s) (hx : turnC s.lo = x) (hy : turnC s.hi = y) (hm : (Sp.mk x y).may = false) : MkI l (k + 1) u acc ob :=
  ⟨hk, h.sl, by rw [turnL_step hk hs, show turnS s = ⟨x, y⟩ from by unfold turnS; rw [hx, hy], hm, h.eq]; simp⟩
theorem MkI.grow {l : List Sp} {k : Nat} {u u2 : Value} {acc : List Sp} {ob ob2 : List Blk} (h : MkI l k u acc ob) (hk : k < l.length) {s : Sp} {x y : Cu} (hs : l[k] = s) (hx : turnC s.lo = x) (hy : turnC s.hi = y) (hm : (Sp.mk x y).may = true) (h2 : Sl 50 14 u2 (acc.length + 1) (acc.flatMap spanC ++ spanC ⟨x, y⟩) ob2) : MkI l (k + 1) u2 (acc ++ [⟨x, y⟩]) ob2 :=
  ⟨hk, h2.to (by simp) (by simp), by rw [turnL_step hk hs, show turnS s = ⟨x, y⟩ from by unfold turnS; rw [hx, hy], hm, ← h.eq, if_pos rfl]⟩
theorem turnL_may (l : List Sp) (k : Nat) : ∀ s ∈ turnL l k, s.may = true := fun s hs => by
  unfold turnL at hs
  exact (List.mem_filter.1 hs).2
theorem own_mk {M : List Nat} {W w : World} {x : Blk} {A B C : List Blk} (h : Own M W w ([] ++ A ++ (B ++ (C ++ [x])))) : Own M W w (x :: (A ++ B)) := by
  have h1 : Own M W w (A ++ (B ++ (C ++ [x]))) := h
  have h2 : Own M W w (A ++ (B ++ [x])) := h1.sublist ((List.Sublist.refl A).append ((List.Sublist.refl B).append (List.sublist_append_right C [x])))
  exact h2.perm (by rw [← List.append_assoc]; exact List.perm_append_comm)
theorem own_mid0 {M : List Nat} {W w : World} {x : Blk} {A : List Blk} (h : Own M W w (x :: A)) : Own M W w A := h.sublist (List.sublist_cons_self x A)
theorem own_drop {M : List Nat} {W w : World} {x y z : Blk} {A : List Blk} (h : Own M W w ([x, y] ++ A ++ [z])) : Own M W w (A ++ [z]) := h.sublist (by rw [List.append_assoc]; exact List.sublist_append_right [x, y] _)
set_option maxHeartbeats 4000000 in
theorem rsetMake_any (A B : Option Addr) (c d : Nat) (l q : List Sp) (W : World) (hv : Reads spanC W W.heap.size A l) (hu : Reads spanC W W.heap.size B q) (hn : l.length ≤ 100000) (hk : q.length ≤ 100000) (hl : ShortL l) (hm : ShortL q) :
    Calls Tryz.prog 13 #[.slice A l.length c, .slice B q.length d] W fun e w' => ∃ v' ob', e = .returned (.tuple #[v', .bool (rowMay l && rowMay q)]) ∧ SetO v' (if rowMay l && rowMay q then ⟨makeRel l, q⟩ else noneT) ob' ∧ Own [] W w' ob' := by
  refine calls_ok (n := 54) Tryz.func13 rfl (by kernel_rfl) (by kernel_rfl) ?_
  refine ok_seq ?_
  refine ok_region ?_
  refine s_alloc_at (.agg #[.slice none 0 0, .slice none 0 0]) (by kernel_rfl) rfl (by kernel_rfl) (fun b1 => ?_)
  refine s_val (.bool false) (by kernel_rfl) (fun _ => by kernel_rfl) ?_
  refine s_nil ?_
  refine fin_seq ?_
  refine ok_seq ?_
  refine ok_seq ?_
  refine ok_region ?_
  refine s_val (.slice A l.length c) (by kernel_rfl) (fun _ => by kernel_rfl) ?_
  refine s_call (k := 46) (args := #[.slice A l.length c]) (.bool (rowMay l)) (by kernel_rfl) (fun _ => by kernel_rfl) (fun w hO => rrowMay_any A c l w (hv.on hO.below hO.below.size) (Nat.le_trans hn (by decide)) hl) ?_
  cases h1 : rowMay l with
  | true =>
    refine s_val (.bool false) (by kernel_rfl) (fun _ => by kernel_rfl) ?_
    refine s_val (.bool false) (by kernel_rfl) (fun _ => by kernel_rfl) ?_
    refine s_val (.slice B q.length d) (by kernel_rfl) (fun _ => by kernel_rfl) ?_
    refine s_call (k := 46) (args := #[.slice B q.length d]) (.bool (rowMay q)) (by kernel_rfl) (fun _ => by kernel_rfl) (fun w hO => rrowMay_any B d q w (hu.on hO.below hO.below.size) (Nat.le_trans hk (by decide)) hm) ?_
    cases h2 : rowMay q with
    | true =>
      refine s_val (.bool false) (by kernel_rfl) (fun _ => by kernel_rfl) ?_
      refine s_val (.bool false) (by kernel_rfl) (fun _ => by kernel_rfl) ?_
      refine s_nil ?_
      refine fin_seq ?_
      refine ok_false (by kernel_rfl) ?_
      refine ok_skip ?_
      refine fin_seq ?_
      refine ok_seq ?_
      refine ok_region ?_
      refine s_val (.slice none 0 0) (by kernel_rfl) (fun _ => by kernel_rfl) ?_
      refine s_nil ?_
      refine fin_seq ?_
      refine ok_seq ?_
      refine ok_seq ?_
      refine ok_region ?_
      refine s_val (.int .i64 0) (by kernel_rfl) (fun _ => by kernel_rfl) ?_
      refine s_nil ?_
      refine fin_seq ?_
      refine ok_block ?_
      refine ok_cast (L' := [] ++ [⟨b1, #[.slice none 0 0, .slice none 0 0], 24⟩]) rfl ?_
      refine ok_loop (fun L f m => ∃ (k : Nat) (u : Value) (acc : List Sp) (ob : List Blk) (j : Nat → Value), (MkI l k u acc ob) ∧ L = ob ++ [⟨b1, #[.slice none 0 0, .slice none 0 0], 24⟩] ∧ f = upds j [(0, .slice A l.length c), (1, .slice B q.length d), (4, .pointer (some ⟨b1, 0, none⟩)), (6, u), (7, .int .i64 (k : Int))] ∧ m = l.length - k) (l.length - 0) ⟨0, _, [], [], _, ⟨Nat.zero_le _, Sl.nil _ _, rfl⟩, rfl, upds_self _ ⟨by kernel_rfl, by kernel_rfl, by kernel_rfl, by kernel_rfl, by kernel_rfl, trivial⟩, rfl⟩ ?_
      rintro L f m ⟨k, u, acc, ob, j, hrel, rfl, rfl, rfl⟩
      have hkl := hrel.le
      refine ok_seq ?_
      refine ok_seq ?_
      refine ok_region ?_
      refine s_val (.int .i64 (k : Int)) (by kernel_rfl) (fun _ => by kernel_rfl) ?_
      refine s_val (.slice A l.length c) (by kernel_rfl) (fun _ => by kernel_rfl) ?_
      refine s_val (.int .i64 (l.length : Int)) (by kernel_rfl) (fun _ => by kernel_rfl) ?_
      by_cases h3 : (k : Int) < (l.length : Int)
      · skip
        have hlk : k < l.length := by omega
        obtain ⟨b, off, hA, hlt, hcell⟩ := hv (by omega)
        obtain ⟨s, he⟩ : ∃ s, l[k] = s := ⟨_, rfl⟩
        have hsk : s.short := he ▸ hl _ (List.getElem_mem _)
        obtain ⟨x, hx⟩ : ∃ x, turnC s.lo = x := ⟨_, rfl⟩
        obtain ⟨y, hy⟩ : ∃ y, turnC s.hi = y := ⟨_, rfl⟩
        have hxS : x.short := hx ▸ turn_short hsk.1
        have hyS : y.short := hy ▸ turn_short hsk.2
        refine s_dec (p := (k : Int) < (l.length : Int)) true (by kernel_rfl) (fun _ => by kernel_rfl) (decide_eq_true (h3)) ?_
        refine s_nil ?_
        refine fin_seq ?_
        refine ok_true (by kernel_rfl) ?_
        refine ok_skip ?_
        refine fin_seq ?_
        refine ok_seq ?_
        refine ok_block ?_
        refine ok_seq ?_
        refine ok_anyh (by kernel_rfl) ?_
        refine h_take 0 [] _ (.slice A l.length c) rfl (by kernel_rfl) (by kernel_rfl) (by kernel_rfl) (pq_seq (pq_block (pq_seq (pq_round (pq_block (pq_seq pq_body)))))) (by kernel_rfl) (fun _ _ => by kernel_rfl) ?_
        refine h_take 1 [] _ (.int .i64 (k : Int)) rfl (by kernel_rfl) (by kernel_rfl) (by kernel_rfl) (pq_seq (pq_block (pq_seq (pq_round (pq_block (pq_seq pq_body)))))) (by kernel_rfl) (fun _ _ => by kernel_rfl) ?_
        refine h_take 2 [] _ (.pointer (some ⟨b, off + k * 14, none⟩)) rfl (by kernel_rfl) (by kernel_rfl) (by kernel_rfl) (pq_seq (pq_block (pq_seq (pq_round (pq_block (pq_seq pq_body)))))) (by kernel_rfl) (fun w _ => run_ixA (b := b) (off := off) (c := c) (n := l.length) (k := .i64) (j := (k : Int)) (e := 50) (sz := 14) rfl (by kernel_rfl) hA (by kernel_rfl) (by kernel_rfl) (by kernel_rfl) (by omega) (by omega) (by omega) w) ?_
        refine h_take 3 [] _ (.pointer (some ⟨b, off + k * 14 + 0, none⟩)) rfl (by kernel_rfl) (by kernel_rfl) (by kernel_rfl) (pq_seq (pq_block (pq_seq (pq_round (pq_block (pq_seq pq_body)))))) (by kernel_rfl) (fun _ _ => by kernel_rfl) ?_
        refine hl_old 4 _ (a := ⟨b, off + k * 14 + 0, none⟩) (cutV s.lo) rfl (by kernel_rfl) (by kernel_rfl) (by kernel_rfl) (pq_seq (pq_block (pq_seq (pq_round (pq_block (pq_seq pq_body)))))) (fun w hO => Own.sub [] hO) (by kernel_rfl) rfl (by kernel_rfl) (fun w hO => elem_load spanC_len (fun j u h => (hO.below.cell (p := ⟨b, off + j, none⟩) hlt).trans (hcell j u h)) k 0 hlk (by omega) _ (by rw [he]; kernel_rfl)) ?_
        refine h_take 6 [] _ (.slice A l.length c) rfl (by kernel_rfl) (by kernel_rfl) (by kernel_rfl) (pq_seq (pq_block (pq_seq (pq_round (pq_block (pq_seq pq_body)))))) (by kernel_rfl) (fun _ _ => by kernel_rfl) ?_
        refine h_take 7 [] _ (.int .i64 (k : Int)) rfl (by kernel_rfl) (by kernel_rfl) (by kernel_rfl) (pq_seq (pq_block (pq_seq (pq_round (pq_block (pq_seq pq_body)))))) (by kernel_rfl) (fun _ _ => by kernel_rfl) ?_
        refine h_take 8 [] _ (.pointer (some ⟨b, off + k * 14, none⟩)) rfl (by kernel_rfl) (by kernel_rfl) (by kernel_rfl) (pq_seq (pq_block (pq_seq (pq_round (pq_block (pq_seq pq_body)))))) (by kernel_rfl) (fun w _ => run_ixA (b := b) (off := off) (c := c) (n := l.length) (k := .i64) (j := (k : Int)) (e := 50) (sz := 14) rfl (by kernel_rfl) hA (by kernel_rfl) (by kernel_rfl) (by kernel_rfl) (by omega) (by omega) (by omega) w) ?_
        refine h_take 9 [] _ (.pointer (some ⟨b, off + k * 14 + 7, none⟩)) rfl (by kernel_rfl) (by kernel_rfl) (by kernel_rfl) (pq_seq (pq_block (pq_seq (pq_round (pq_block (pq_seq pq_body)))))) (by kernel_rfl) (fun _ _ => by kernel_rfl) ?_
        refine hl_old 10 _ (a := ⟨b, off + k * 14 + 7, none⟩) (cutV s.hi) rfl (by kernel_rfl) (by kernel_rfl) (by kernel_rfl) (pq_seq (pq_block (pq_seq (pq_round (pq_block (pq_seq pq_body)))))) (fun w hO => Own.sub [] hO) (by kernel_rfl) rfl (by kernel_rfl) (fun w hO => elem_load spanC_len (fun j u h => (hO.below.cell (p := ⟨b, off + j, none⟩) hlt).trans (hcell j u h)) k 7 hlk (by omega) _ (by rw [he]; kernel_rfl)) ?_
        refine h_two 5 13 (by kernel_rfl) ?_ ?_
        · skip
          refine hs_call [] _ (k := 48) (args := #[cutV s.lo]) (cutV x) rfl (by kernel_rfl) (fun _ => by kernel_rfl) (fun w _ => ret_v (by rw [hx]) (rturned_any s.lo w hsk.1)) ?_
          refine h_two 11 13 (by kernel_rfl) ?_ ?_
          · skip
            refine hs_call [] _ (k := 48) (args := #[cutV s.hi]) (cutV y) rfl (by kernel_rfl) (fun _ => by kernel_rfl) (fun w _ => ret_v (by rw [hy]) (rturned_any s.hi w hsk.2)) ?_
            refine h_take 12 [] _ (.agg #[.int .i64 x.e, .int .i64 x.v.maj, .int .i64 x.v.min, .int .i64 x.v.pat, .string (mkS x.v.pre), .string (mkS x.v.build), .bool x.aft, .int .i64 y.e, .int .i64 y.v.maj, .int .i64 y.v.min, .int .i64 y.v.pat, .string (mkS y.v.pre), .string (mkS y.v.build), .bool y.aft]) rfl (by kernel_rfl) (by kernel_rfl) (by kernel_rfl) (pq_seq (pq_block (pq_seq (pq_round (pq_block (pq_seq pq_body)))))) (by kernel_rfl) (fun _ _ => by kernel_rfl) ?_
            refine h_one 13 (by kernel_rfl) ?_
            refine hs_alloc [] _ (.agg #[.int .i64 0, .int .i64 0, .int .i64 0, .int .i64 0, .string ⟨#[]⟩, .string ⟨#[]⟩, .bool false, .int .i64 0, .int .i64 0, .int .i64 0, .int .i64 0, .string ⟨#[]⟩, .string ⟨#[]⟩, .bool false]) rfl (by kernel_rfl) rfl (by kernel_rfl) (fun b2 => ?_)
            refine h_one 14 (by kernel_rfl) ?_
            refine hs_store [⟨b2, #[.int .i64 0, .int .i64 0, .int .i64 0, .int .i64 0, .string ⟨#[]⟩, .string ⟨#[]⟩, .bool false, .int .i64 0, .int .i64 0, .int .i64 0, .int .i64 0, .string ⟨#[]⟩, .string ⟨#[]⟩, .bool false], 50⟩] _ 0 ⟨b2, #[.int .i64 0, .int .i64 0, .int .i64 0, .int .i64 0, .string ⟨#[]⟩, .string ⟨#[]⟩, .bool false, .int .i64 0, .int .i64 0, .int .i64 0, .int .i64 0, .string ⟨#[]⟩, .string ⟨#[]⟩, .bool false], 50⟩ (off := 0) (.agg #[.int .i64 x.e, .int .i64 x.v.maj, .int .i64 x.v.min, .int .i64 x.v.pat, .string (mkS x.v.pre), .string (mkS x.v.build), .bool x.aft, .int .i64 y.e, .int .i64 y.v.maj, .int .i64 y.v.min, .int .i64 y.v.pat, .string (mkS y.v.pre), .string (mkS y.v.build), .bool y.aft]) rfl (by kernel_rfl) rfl rfl (by kernel_rfl) (by kernel_rfl) (by kernel_rfl) (by kernel_rfl) (by kernel_rfl) ?_
            refine h_done (by kernel_rfl) ?_
            refine fin_seq ?_
            refine ok_seq ?_
            refine ok_region ?_
            refine s_load 0 ⟨b2, #[.int .i64 x.e, .int .i64 x.v.maj, .int .i64 x.v.min, .int .i64 x.v.pat, .string (mkS x.v.pre), .string (mkS x.v.build), .bool x.aft, .int .i64 y.e, .int .i64 y.v.maj, .int .i64 y.v.min, .int .i64 y.v.pat, .string (mkS y.v.pre), .string (mkS y.v.build), .bool y.aft], 50⟩ (off := 0) (.agg #[.int .i64 x.e, .int .i64 x.v.maj, .int .i64 x.v.min, .int .i64 x.v.pat, .string (mkS x.v.pre), .string (mkS x.v.build), .bool x.aft, .int .i64 y.e, .int .i64 y.v.maj, .int .i64 y.v.min, .int .i64 y.v.pat, .string (mkS y.v.pre), .string (mkS y.v.build), .bool y.aft]) (by kernel_rfl) rfl (by kernel_rfl) (by kernel_rfl) (by kernel_rfl) ?_
            refine s_call (k := 49) (args := #[.agg #[.int .i64 x.e, .int .i64 x.v.maj, .int .i64 x.v.min, .int .i64 x.v.pat, .string (mkS x.v.pre), .string (mkS x.v.build), .bool x.aft, .int .i64 y.e, .int .i64 y.v.maj, .int .i64 y.v.min, .int .i64 y.v.pat, .string (mkS y.v.pre), .string (mkS y.v.build), .bool y.aft]]) (.bool ((⟨x, y⟩ : Sp).may)) (by kernel_rfl) (fun _ => by kernel_rfl) (fun w _ => rspanMay_any ⟨x, y⟩ w ⟨hxS, hyS⟩) ?_
            refine s_nil ?_
            refine fin_seq ?_
            cases h4 : (⟨x, y⟩ : Sp).may with
            | true =>
              refine ok_true (by kernel_rfl) ?_
              refine ok_region ?_
              refine s_val (u) (by kernel_rfl) (fun _ => by kernel_rfl) ?_
              refine s_load 0 ⟨b2, #[.int .i64 x.e, .int .i64 x.v.maj, .int .i64 x.v.min, .int .i64 x.v.pat, .string (mkS x.v.pre), .string (mkS x.v.build), .bool x.aft, .int .i64 y.e, .int .i64 y.v.maj, .int .i64 y.v.min, .int .i64 y.v.pat, .string (mkS y.v.pre), .string (mkS y.v.build), .bool y.aft], 50⟩ (off := 0) (.agg #[.int .i64 x.e, .int .i64 x.v.maj, .int .i64 x.v.min, .int .i64 x.v.pat, .string (mkS x.v.pre), .string (mkS x.v.build), .bool x.aft, .int .i64 y.e, .int .i64 y.v.maj, .int .i64 y.v.min, .int .i64 y.v.pat, .string (mkS y.v.pre), .string (mkS y.v.build), .bool y.aft]) (by kernel_rfl) rfl (by kernel_rfl) (by kernel_rfl) (by kernel_rfl) ?_
              refine s_lit 50 #[.int .i64 x.e, .int .i64 x.v.maj, .int .i64 x.v.min, .int .i64 x.v.pat, .string (mkS x.v.pre), .string (mkS x.v.build), .bool x.aft, .int .i64 y.e, .int .i64 y.v.maj, .int .i64 y.v.min, .int .i64 y.v.pat, .string (mkS y.v.pre), .string (mkS y.v.build), .bool y.aft] (by kernel_rfl) rfl (fun _ => by kernel_rfl) (fun b3 => ?_)
              obtain ⟨i0, z0, e1, e2, e3, e4, e5⟩ := span_info
              have hln : acc.length ≤ k := by rw [hrel.eq]; exact turnL_len l k
              refine s_cast (L' := [⟨b3, #[.int .i64 x.e, .int .i64 x.v.maj, .int .i64 x.v.min, .int .i64 x.v.pat, .string (mkS x.v.pre), .string (mkS x.v.build), .bool x.aft, .int .i64 y.e, .int .i64 y.v.maj, .int .i64 y.v.min, .int .i64 y.v.pat, .string (mkS y.v.pre), .string (mkS y.v.build), .bool y.aft], 50⟩, ⟨b2, #[.int .i64 x.e, .int .i64 x.v.maj, .int .i64 x.v.min, .int .i64 x.v.pat, .string (mkS x.v.pre), .string (mkS x.v.build), .bool x.aft, .int .i64 y.e, .int .i64 y.v.maj, .int .i64 y.v.min, .int .i64 y.v.pat, .string (mkS y.v.pre), .string (mkS y.v.build), .bool y.aft], 50⟩] ++ ob ++ [⟨b1, #[.slice none 0 0, .slice none 0 0], 24⟩]) (by rw [List.append_assoc]; kernel_rfl) ?_
              refine s_append (sz := 14) (by kernel_rfl) rfl Tryz.underlying22 e1 e2 e3 e4 (by kernel_rfl) hrel.sl (a := ⟨b3, 0, none⟩) (m := 1) (c := 1) (news := spanC ⟨x, y⟩) (by kernel_rfl) rfl (fun w hO j u hj => ?_) (span_cells _) (by unfold maxLen; omega) (by rw [e5]; omega) (fun u2 ob2 hu2 => ?_)
              · rw [add_off, cell_of_row w b3 (0 + j) (spanC ⟨x, y⟩).toArray 50 _ (hO.held ⟨b3, (spanC ⟨x, y⟩).toArray, 50⟩ (List.mem_append_left _ (List.mem_append_left _ (List.mem_cons_self ..))))]; simpa using hj
              refine s_val (u2) (by kernel_rfl) (fun _ => by kernel_rfl) ?_
              refine s_nil ?_
              refine fin_block ?_
              refine fin_seq ?_
              refine ok_region ?_
              refine s_val (.int .i64 (k : Int)) (by kernel_rfl) (fun _ => by kernel_rfl) ?_
              refine s_sum (k := .i64) (((k + 1 : Nat) : Int)) (by kernel_rfl) (fun _ => by kernel_rfl) (IntWalk.i64_in _ (by omega)) ?_
              refine s_val (.int .i64 ((k + 1 : Nat) : Int)) (by kernel_rfl) (fun _ => by kernel_rfl) ?_
              refine s_nil ?_
              refine fin_take (L' := ob2 ++ [⟨b1, #[.slice none 0 0, .slice none 0 0], 24⟩]) (fun w hO => own_drop hO) ?_
              exact fin_round (m' := l.length - (k + 1)) (by omega) ⟨k + 1, u2, _, ob2, _, hrel.grow hlk he hx hy (by assumption) hu2, rfl, upds_self _ ⟨by kernel_rfl, by kernel_rfl, by kernel_rfl, by kernel_rfl, by kernel_rfl, trivial⟩, rfl⟩
            | false =>
              refine ok_false (by kernel_rfl) ?_
              refine ok_skip ?_
              refine fin_block ?_
              refine fin_seq ?_
              refine ok_region ?_
              refine s_val (.int .i64 (k : Int)) (by kernel_rfl) (fun _ => by kernel_rfl) ?_
              refine s_sum (k := .i64) (((k + 1 : Nat) : Int)) (by kernel_rfl) (fun _ => by kernel_rfl) (IntWalk.i64_in _ (by omega)) ?_
              refine s_val (.int .i64 ((k + 1 : Nat) : Int)) (by kernel_rfl) (fun _ => by kernel_rfl) ?_
              refine s_nil ?_
              refine fin_take (L' := ob ++ [⟨b1, #[.slice none 0 0, .slice none 0 0], 24⟩]) (fun w hO => Own.sub [_] hO) ?_
              exact fin_round (m' := l.length - (k + 1)) (by omega) ⟨k + 1, u, acc, ob, _, hrel.keep hlk he hx hy (by assumption), rfl, upds_self _ ⟨by kernel_rfl, by kernel_rfl, by kernel_rfl, by kernel_rfl, by kernel_rfl, trivial⟩, rfl⟩
          · skip
            refine hs_alloc [] _ (.agg #[.int .i64 0, .int .i64 0, .int .i64 0, .int .i64 0, .string ⟨#[]⟩, .string ⟨#[]⟩, .bool false, .int .i64 0, .int .i64 0, .int .i64 0, .int .i64 0, .string ⟨#[]⟩, .string ⟨#[]⟩, .bool false]) rfl (by kernel_rfl) rfl (by kernel_rfl) (fun b2 => ?_)
            refine h_one 11 (by kernel_rfl) ?_
            refine hs_call [⟨b2, #[.int .i64 0, .int .i64 0, .int .i64 0, .int .i64 0, .string ⟨#[]⟩, .string ⟨#[]⟩, .bool false, .int .i64 0, .int .i64 0, .int .i64 0, .int .i64 0, .string ⟨#[]⟩, .string ⟨#[]⟩, .bool false], 50⟩] _ (k := 48) (args := #[cutV s.hi]) (cutV y) rfl (by kernel_rfl) (fun _ => by kernel_rfl) (fun w _ => ret_v (by rw [hy]) (rturned_any s.hi w hsk.2)) ?_
            refine h_take 12 [⟨b2, #[.int .i64 0, .int .i64 0, .int .i64 0, .int .i64 0, .string ⟨#[]⟩, .string ⟨#[]⟩, .bool false, .int .i64 0, .int .i64 0, .int .i64 0, .int .i64 0, .string ⟨#[]⟩, .string ⟨#[]⟩, .bool false], 50⟩] _ (.agg #[.int .i64 x.e, .int .i64 x.v.maj, .int .i64 x.v.min, .int .i64 x.v.pat, .string (mkS x.v.pre), .string (mkS x.v.build), .bool x.aft, .int .i64 y.e, .int .i64 y.v.maj, .int .i64 y.v.min, .int .i64 y.v.pat, .string (mkS y.v.pre), .string (mkS y.v.build), .bool y.aft]) rfl (by kernel_rfl) (by kernel_rfl) (by kernel_rfl) (pq_seq (pq_block (pq_seq (pq_round (pq_block (pq_seq pq_body)))))) (by kernel_rfl) (fun _ _ => by kernel_rfl) ?_
            refine h_one 14 (by kernel_rfl) ?_
            refine hs_store [⟨b2, #[.int .i64 0, .int .i64 0, .int .i64 0, .int .i64 0, .string ⟨#[]⟩, .string ⟨#[]⟩, .bool false, .int .i64 0, .int .i64 0, .int .i64 0, .int .i64 0, .string ⟨#[]⟩, .string ⟨#[]⟩, .bool false], 50⟩] _ 0 ⟨b2, #[.int .i64 0, .int .i64 0, .int .i64 0, .int .i64 0, .string ⟨#[]⟩, .string ⟨#[]⟩, .bool false, .int .i64 0, .int .i64 0, .int .i64 0, .int .i64 0, .string ⟨#[]⟩, .string ⟨#[]⟩, .bool false], 50⟩ (off := 0) (.agg #[.int .i64 x.e, .int .i64 x.v.maj, .int .i64 x.v.min, .int .i64 x.v.pat, .string (mkS x.v.pre), .string (mkS x.v.build), .bool x.aft, .int .i64 y.e, .int .i64 y.v.maj, .int .i64 y.v.min, .int .i64 y.v.pat, .string (mkS y.v.pre), .string (mkS y.v.build), .bool y.aft]) rfl (by kernel_rfl) rfl rfl (by kernel_rfl) (by kernel_rfl) (by kernel_rfl) (by kernel_rfl) (by kernel_rfl) ?_
            refine h_done (by kernel_rfl) ?_
            refine fin_seq ?_
            refine ok_seq ?_
            refine ok_region ?_
            refine s_load 0 ⟨b2, #[.int .i64 x.e, .int .i64 x.v.maj, .int .i64 x.v.min, .int .i64 x.v.pat, .string (mkS x.v.pre), .string (mkS x.v.build), .bool x.aft, .int .i64 y.e, .int .i64 y.v.maj, .int .i64 y.v.min, .int .i64 y.v.pat, .string (mkS y.v.pre), .string (mkS y.v.build), .bool y.aft], 50⟩ (off := 0) (.agg #[.int .i64 x.e, .int .i64 x.v.maj, .int .i64 x.v.min, .int .i64 x.v.pat, .string (mkS x.v.pre), .string (mkS x.v.build), .bool x.aft, .int .i64 y.e, .int .i64 y.v.maj, .int .i64 y.v.min, .int .i64 y.v.pat, .string (mkS y.v.pre), .string (mkS y.v.build), .bool y.aft]) (by kernel_rfl) rfl (by kernel_rfl) (by kernel_rfl) (by kernel_rfl) ?_
            refine s_call (k := 49) (args := #[.agg #[.int .i64 x.e, .int .i64 x.v.maj, .int .i64 x.v.min, .int .i64 x.v.pat, .string (mkS x.v.pre), .string (mkS x.v.build), .bool x.aft, .int .i64 y.e, .int .i64 y.v.maj, .int .i64 y.v.min, .int .i64 y.v.pat, .string (mkS y.v.pre), .string (mkS y.v.build), .bool y.aft]]) (.bool ((⟨x, y⟩ : Sp).may)) (by kernel_rfl) (fun _ => by kernel_rfl) (fun w _ => rspanMay_any ⟨x, y⟩ w ⟨hxS, hyS⟩) ?_
            refine s_nil ?_
            refine fin_seq ?_
            cases h5 : (⟨x, y⟩ : Sp).may with
            | true =>
              refine ok_true (by kernel_rfl) ?_
              refine ok_region ?_
              refine s_val (u) (by kernel_rfl) (fun _ => by kernel_rfl) ?_
              refine s_load 0 ⟨b2, #[.int .i64 x.e, .int .i64 x.v.maj, .int .i64 x.v.min, .int .i64 x.v.pat, .string (mkS x.v.pre), .string (mkS x.v.build), .bool x.aft, .int .i64 y.e, .int .i64 y.v.maj, .int .i64 y.v.min, .int .i64 y.v.pat, .string (mkS y.v.pre), .string (mkS y.v.build), .bool y.aft], 50⟩ (off := 0) (.agg #[.int .i64 x.e, .int .i64 x.v.maj, .int .i64 x.v.min, .int .i64 x.v.pat, .string (mkS x.v.pre), .string (mkS x.v.build), .bool x.aft, .int .i64 y.e, .int .i64 y.v.maj, .int .i64 y.v.min, .int .i64 y.v.pat, .string (mkS y.v.pre), .string (mkS y.v.build), .bool y.aft]) (by kernel_rfl) rfl (by kernel_rfl) (by kernel_rfl) (by kernel_rfl) ?_
              refine s_lit 50 #[.int .i64 x.e, .int .i64 x.v.maj, .int .i64 x.v.min, .int .i64 x.v.pat, .string (mkS x.v.pre), .string (mkS x.v.build), .bool x.aft, .int .i64 y.e, .int .i64 y.v.maj, .int .i64 y.v.min, .int .i64 y.v.pat, .string (mkS y.v.pre), .string (mkS y.v.build), .bool y.aft] (by kernel_rfl) rfl (fun _ => by kernel_rfl) (fun b3 => ?_)
              obtain ⟨i0, z0, e1, e2, e3, e4, e5⟩ := span_info
              have hln : acc.length ≤ k := by rw [hrel.eq]; exact turnL_len l k
              refine s_cast (L' := [⟨b3, #[.int .i64 x.e, .int .i64 x.v.maj, .int .i64 x.v.min, .int .i64 x.v.pat, .string (mkS x.v.pre), .string (mkS x.v.build), .bool x.aft, .int .i64 y.e, .int .i64 y.v.maj, .int .i64 y.v.min, .int .i64 y.v.pat, .string (mkS y.v.pre), .string (mkS y.v.build), .bool y.aft], 50⟩, ⟨b2, #[.int .i64 x.e, .int .i64 x.v.maj, .int .i64 x.v.min, .int .i64 x.v.pat, .string (mkS x.v.pre), .string (mkS x.v.build), .bool x.aft, .int .i64 y.e, .int .i64 y.v.maj, .int .i64 y.v.min, .int .i64 y.v.pat, .string (mkS y.v.pre), .string (mkS y.v.build), .bool y.aft], 50⟩] ++ ob ++ [⟨b1, #[.slice none 0 0, .slice none 0 0], 24⟩]) (by rw [List.append_assoc]; kernel_rfl) ?_
              refine s_append (sz := 14) (by kernel_rfl) rfl Tryz.underlying22 e1 e2 e3 e4 (by kernel_rfl) hrel.sl (a := ⟨b3, 0, none⟩) (m := 1) (c := 1) (news := spanC ⟨x, y⟩) (by kernel_rfl) rfl (fun w hO j u hj => ?_) (span_cells _) (by unfold maxLen; omega) (by rw [e5]; omega) (fun u2 ob2 hu2 => ?_)
              · rw [add_off, cell_of_row w b3 (0 + j) (spanC ⟨x, y⟩).toArray 50 _ (hO.held ⟨b3, (spanC ⟨x, y⟩).toArray, 50⟩ (List.mem_append_left _ (List.mem_append_left _ (List.mem_cons_self ..))))]; simpa using hj
              refine s_val (u2) (by kernel_rfl) (fun _ => by kernel_rfl) ?_
              refine s_nil ?_
              refine fin_block ?_
              refine fin_seq ?_
              refine ok_region ?_
              refine s_val (.int .i64 (k : Int)) (by kernel_rfl) (fun _ => by kernel_rfl) ?_
              refine s_sum (k := .i64) (((k + 1 : Nat) : Int)) (by kernel_rfl) (fun _ => by kernel_rfl) (IntWalk.i64_in _ (by omega)) ?_
              refine s_val (.int .i64 ((k + 1 : Nat) : Int)) (by kernel_rfl) (fun _ => by kernel_rfl) ?_
              refine s_nil ?_
              refine fin_take (L' := ob2 ++ [⟨b1, #[.slice none 0 0, .slice none 0 0], 24⟩]) (fun w hO => own_drop hO) ?_
              exact fin_round (m' := l.length - (k + 1)) (by omega) ⟨k + 1, u2, _, ob2, _, hrel.grow hlk he hx hy (by assumption) hu2, rfl, upds_self _ ⟨by kernel_rfl, by kernel_rfl, by kernel_rfl, by kernel_rfl, by kernel_rfl, trivial⟩, rfl⟩
            | false =>
              refine ok_false (by kernel_rfl) ?_
              refine ok_skip ?_
              refine fin_block ?_
              refine fin_seq ?_
              refine ok_region ?_
              refine s_val (.int .i64 (k : Int)) (by kernel_rfl) (fun _ => by kernel_rfl) ?_
              refine s_sum (k := .i64) (((k + 1 : Nat) : Int)) (by kernel_rfl) (fun _ => by kernel_rfl) (IntWalk.i64_in _ (by omega)) ?_
              refine s_val (.int .i64 ((k + 1 : Nat) : Int)) (by kernel_rfl) (fun _ => by kernel_rfl) ?_
              refine s_nil ?_
              refine fin_take (L' := ob ++ [⟨b1, #[.slice none 0 0, .slice none 0 0], 24⟩]) (fun w hO => Own.sub [_] hO) ?_
              exact fin_round (m' := l.length - (k + 1)) (by omega) ⟨k + 1, u, acc, ob, _, hrel.keep hlk he hx hy (by assumption), rfl, upds_self _ ⟨by kernel_rfl, by kernel_rfl, by kernel_rfl, by kernel_rfl, by kernel_rfl, trivial⟩, rfl⟩
        · skip
          refine hs_alloc [] _ (.agg #[.int .i64 0, .int .i64 0, .int .i64 0, .int .i64 0, .string ⟨#[]⟩, .string ⟨#[]⟩, .bool false, .int .i64 0, .int .i64 0, .int .i64 0, .int .i64 0, .string ⟨#[]⟩, .string ⟨#[]⟩, .bool false]) rfl (by kernel_rfl) rfl (by kernel_rfl) (fun b2 => ?_)
          refine h_one 5 (by kernel_rfl) ?_
          refine hs_call [⟨b2, #[.int .i64 0, .int .i64 0, .int .i64 0, .int .i64 0, .string ⟨#[]⟩, .string ⟨#[]⟩, .bool false, .int .i64 0, .int .i64 0, .int .i64 0, .int .i64 0, .string ⟨#[]⟩, .string ⟨#[]⟩, .bool false], 50⟩] _ (k := 48) (args := #[cutV s.lo]) (cutV x) rfl (by kernel_rfl) (fun _ => by kernel_rfl) (fun w _ => ret_v (by rw [hx]) (rturned_any s.lo w hsk.1)) ?_
          refine h_one 11 (by kernel_rfl) ?_
          refine hs_call [⟨b2, #[.int .i64 0, .int .i64 0, .int .i64 0, .int .i64 0, .string ⟨#[]⟩, .string ⟨#[]⟩, .bool false, .int .i64 0, .int .i64 0, .int .i64 0, .int .i64 0, .string ⟨#[]⟩, .string ⟨#[]⟩, .bool false], 50⟩] _ (k := 48) (args := #[cutV s.hi]) (cutV y) rfl (by kernel_rfl) (fun _ => by kernel_rfl) (fun w _ => ret_v (by rw [hy]) (rturned_any s.hi w hsk.2)) ?_
          refine h_take 12 [⟨b2, #[.int .i64 0, .int .i64 0, .int .i64 0, .int .i64 0, .string ⟨#[]⟩, .string ⟨#[]⟩, .bool false, .int .i64 0, .int .i64 0, .int .i64 0, .int .i64 0, .string ⟨#[]⟩, .string ⟨#[]⟩, .bool false], 50⟩] _ (.agg #[.int .i64 x.e, .int .i64 x.v.maj, .int .i64 x.v.min, .int .i64 x.v.pat, .string (mkS x.v.pre), .string (mkS x.v.build), .bool x.aft, .int .i64 y.e, .int .i64 y.v.maj, .int .i64 y.v.min, .int .i64 y.v.pat, .string (mkS y.v.pre), .string (mkS y.v.build), .bool y.aft]) rfl (by kernel_rfl) (by kernel_rfl) (by kernel_rfl) (pq_seq (pq_block (pq_seq (pq_round (pq_block (pq_seq pq_body)))))) (by kernel_rfl) (fun _ _ => by kernel_rfl) ?_
          refine h_one 14 (by kernel_rfl) ?_
          refine hs_store [⟨b2, #[.int .i64 0, .int .i64 0, .int .i64 0, .int .i64 0, .string ⟨#[]⟩, .string ⟨#[]⟩, .bool false, .int .i64 0, .int .i64 0, .int .i64 0, .int .i64 0, .string ⟨#[]⟩, .string ⟨#[]⟩, .bool false], 50⟩] _ 0 ⟨b2, #[.int .i64 0, .int .i64 0, .int .i64 0, .int .i64 0, .string ⟨#[]⟩, .string ⟨#[]⟩, .bool false, .int .i64 0, .int .i64 0, .int .i64 0, .int .i64 0, .string ⟨#[]⟩, .string ⟨#[]⟩, .bool false], 50⟩ (off := 0) (.agg #[.int .i64 x.e, .int .i64 x.v.maj, .int .i64 x.v.min, .int .i64 x.v.pat, .string (mkS x.v.pre), .string (mkS x.v.build), .bool x.aft, .int .i64 y.e, .int .i64 y.v.maj, .int .i64 y.v.min, .int .i64 y.v.pat, .string (mkS y.v.pre), .string (mkS y.v.build), .bool y.aft]) rfl (by kernel_rfl) rfl rfl (by kernel_rfl) (by kernel_rfl) (by kernel_rfl) (by kernel_rfl) (by kernel_rfl) ?_
          refine h_done (by kernel_rfl) ?_
          refine fin_seq ?_
          refine ok_seq ?_
          refine ok_region ?_
          refine s_load 0 ⟨b2, #[.int .i64 x.e, .int .i64 x.v.maj, .int .i64 x.v.min, .int .i64 x.v.pat, .string (mkS x.v.pre), .string (mkS x.v.build), .bool x.aft, .int .i64 y.e, .int .i64 y.v.maj, .int .i64 y.v.min, .int .i64 y.v.pat, .string (mkS y.v.pre), .string (mkS y.v.build), .bool y.aft], 50⟩ (off := 0) (.agg #[.int .i64 x.e, .int .i64 x.v.maj, .int .i64 x.v.min, .int .i64 x.v.pat, .string (mkS x.v.pre), .string (mkS x.v.build), .bool x.aft, .int .i64 y.e, .int .i64 y.v.maj, .int .i64 y.v.min, .int .i64 y.v.pat, .string (mkS y.v.pre), .string (mkS y.v.build), .bool y.aft]) (by kernel_rfl) rfl (by kernel_rfl) (by kernel_rfl) (by kernel_rfl) ?_
          refine s_call (k := 49) (args := #[.agg #[.int .i64 x.e, .int .i64 x.v.maj, .int .i64 x.v.min, .int .i64 x.v.pat, .string (mkS x.v.pre), .string (mkS x.v.build), .bool x.aft, .int .i64 y.e, .int .i64 y.v.maj, .int .i64 y.v.min, .int .i64 y.v.pat, .string (mkS y.v.pre), .string (mkS y.v.build), .bool y.aft]]) (.bool ((⟨x, y⟩ : Sp).may)) (by kernel_rfl) (fun _ => by kernel_rfl) (fun w _ => rspanMay_any ⟨x, y⟩ w ⟨hxS, hyS⟩) ?_
          refine s_nil ?_
          refine fin_seq ?_
          cases h6 : (⟨x, y⟩ : Sp).may with
          | true =>
            refine ok_true (by kernel_rfl) ?_
            refine ok_region ?_
            refine s_val (u) (by kernel_rfl) (fun _ => by kernel_rfl) ?_
            refine s_load 0 ⟨b2, #[.int .i64 x.e, .int .i64 x.v.maj, .int .i64 x.v.min, .int .i64 x.v.pat, .string (mkS x.v.pre), .string (mkS x.v.build), .bool x.aft, .int .i64 y.e, .int .i64 y.v.maj, .int .i64 y.v.min, .int .i64 y.v.pat, .string (mkS y.v.pre), .string (mkS y.v.build), .bool y.aft], 50⟩ (off := 0) (.agg #[.int .i64 x.e, .int .i64 x.v.maj, .int .i64 x.v.min, .int .i64 x.v.pat, .string (mkS x.v.pre), .string (mkS x.v.build), .bool x.aft, .int .i64 y.e, .int .i64 y.v.maj, .int .i64 y.v.min, .int .i64 y.v.pat, .string (mkS y.v.pre), .string (mkS y.v.build), .bool y.aft]) (by kernel_rfl) rfl (by kernel_rfl) (by kernel_rfl) (by kernel_rfl) ?_
            refine s_lit 50 #[.int .i64 x.e, .int .i64 x.v.maj, .int .i64 x.v.min, .int .i64 x.v.pat, .string (mkS x.v.pre), .string (mkS x.v.build), .bool x.aft, .int .i64 y.e, .int .i64 y.v.maj, .int .i64 y.v.min, .int .i64 y.v.pat, .string (mkS y.v.pre), .string (mkS y.v.build), .bool y.aft] (by kernel_rfl) rfl (fun _ => by kernel_rfl) (fun b3 => ?_)
            obtain ⟨i0, z0, e1, e2, e3, e4, e5⟩ := span_info
            have hln : acc.length ≤ k := by rw [hrel.eq]; exact turnL_len l k
            refine s_cast (L' := [⟨b3, #[.int .i64 x.e, .int .i64 x.v.maj, .int .i64 x.v.min, .int .i64 x.v.pat, .string (mkS x.v.pre), .string (mkS x.v.build), .bool x.aft, .int .i64 y.e, .int .i64 y.v.maj, .int .i64 y.v.min, .int .i64 y.v.pat, .string (mkS y.v.pre), .string (mkS y.v.build), .bool y.aft], 50⟩, ⟨b2, #[.int .i64 x.e, .int .i64 x.v.maj, .int .i64 x.v.min, .int .i64 x.v.pat, .string (mkS x.v.pre), .string (mkS x.v.build), .bool x.aft, .int .i64 y.e, .int .i64 y.v.maj, .int .i64 y.v.min, .int .i64 y.v.pat, .string (mkS y.v.pre), .string (mkS y.v.build), .bool y.aft], 50⟩] ++ ob ++ [⟨b1, #[.slice none 0 0, .slice none 0 0], 24⟩]) (by rw [List.append_assoc]; kernel_rfl) ?_
            refine s_append (sz := 14) (by kernel_rfl) rfl Tryz.underlying22 e1 e2 e3 e4 (by kernel_rfl) hrel.sl (a := ⟨b3, 0, none⟩) (m := 1) (c := 1) (news := spanC ⟨x, y⟩) (by kernel_rfl) rfl (fun w hO j u hj => ?_) (span_cells _) (by unfold maxLen; omega) (by rw [e5]; omega) (fun u2 ob2 hu2 => ?_)
            · rw [add_off, cell_of_row w b3 (0 + j) (spanC ⟨x, y⟩).toArray 50 _ (hO.held ⟨b3, (spanC ⟨x, y⟩).toArray, 50⟩ (List.mem_append_left _ (List.mem_append_left _ (List.mem_cons_self ..))))]; simpa using hj
            refine s_val (u2) (by kernel_rfl) (fun _ => by kernel_rfl) ?_
            refine s_nil ?_
            refine fin_block ?_
            refine fin_seq ?_
            refine ok_region ?_
            refine s_val (.int .i64 (k : Int)) (by kernel_rfl) (fun _ => by kernel_rfl) ?_
            refine s_sum (k := .i64) (((k + 1 : Nat) : Int)) (by kernel_rfl) (fun _ => by kernel_rfl) (IntWalk.i64_in _ (by omega)) ?_
            refine s_val (.int .i64 ((k + 1 : Nat) : Int)) (by kernel_rfl) (fun _ => by kernel_rfl) ?_
            refine s_nil ?_
            refine fin_take (L' := ob2 ++ [⟨b1, #[.slice none 0 0, .slice none 0 0], 24⟩]) (fun w hO => own_drop hO) ?_
            exact fin_round (m' := l.length - (k + 1)) (by omega) ⟨k + 1, u2, _, ob2, _, hrel.grow hlk he hx hy (by assumption) hu2, rfl, upds_self _ ⟨by kernel_rfl, by kernel_rfl, by kernel_rfl, by kernel_rfl, by kernel_rfl, trivial⟩, rfl⟩
          | false =>
            refine ok_false (by kernel_rfl) ?_
            refine ok_skip ?_
            refine fin_block ?_
            refine fin_seq ?_
            refine ok_region ?_
            refine s_val (.int .i64 (k : Int)) (by kernel_rfl) (fun _ => by kernel_rfl) ?_
            refine s_sum (k := .i64) (((k + 1 : Nat) : Int)) (by kernel_rfl) (fun _ => by kernel_rfl) (IntWalk.i64_in _ (by omega)) ?_
            refine s_val (.int .i64 ((k + 1 : Nat) : Int)) (by kernel_rfl) (fun _ => by kernel_rfl) ?_
            refine s_nil ?_
            refine fin_take (L' := ob ++ [⟨b1, #[.slice none 0 0, .slice none 0 0], 24⟩]) (fun w hO => Own.sub [_] hO) ?_
            exact fin_round (m' := l.length - (k + 1)) (by omega) ⟨k + 1, u, acc, ob, _, hrel.keep hlk he hx hy (by assumption), rfl, upds_self _ ⟨by kernel_rfl, by kernel_rfl, by kernel_rfl, by kernel_rfl, by kernel_rfl, trivial⟩, rfl⟩
      · skip
        refine s_dec (p := (k : Int) < (l.length : Int)) false (by kernel_rfl) (fun _ => by kernel_rfl) (decide_eq_false (h3)) ?_
        refine s_nil ?_
        refine fin_seq ?_
        refine ok_false (by kernel_rfl) ?_
        refine ok_exit ?_
        refine fin_seq_exit ?_
        refine fin_round_exit ?_
        refine fin_block_exit ?_
        refine fin_seq ?_
        refine ok_seq ?_
        refine ok_region ?_
        refine s_val (u) (by kernel_rfl) (fun _ => by kernel_rfl) ?_
        have hke : acc = (l.map turnS).filter (·.may) := by have h := hrel.eq; unfold turnL at h; rwa [List.take_of_length_le (by omega)] at h
        have hall : allMay acc = true := allMay_mem.2 (by rw [hrel.eq]; exact turnL_may l k)
        have hsh : ShortL acc := fun s hs => sp_short (allMay_mem.1 hall s hs)
        have hln : acc.length ≤ k := by rw [hrel.eq]; exact turnL_len l k
        have hsl := hrel.sl
        clear hrel
        obtain ⟨C, cc, rfl⟩ := hsl.form
        refine s_callo (k := 50) (args := #[.slice C acc.length cc]) (fun v' L' => ∃ mv ob', v' = .tuple #[mv, .bool true] ∧ L' = ob' ++ (ob ++ ([⟨b1, #[.slice none 0 0, .slice none 0 0], 24⟩])) ∧ SlS mv (makeRel l) ob') (by kernel_rfl) (fun _ => by kernel_rfl) (fun w hO => (rmake_any C cc acc w (Sl.reads hsl rfl hO (fun x hx => by simp [hx])) (by omega) hsh).mono fun e w' ⟨v', ob', k1, k2, k3⟩ => ⟨_, _, k1, ⟨v', ob', by rw [hall], rfl, by rw [hall, if_pos rfl, hke] at k2; exact k2⟩, Own.joinN hO k3⟩) (fun tv L2 hv2 => ?_)
        obtain ⟨v2, o2, rfl, rfl, hr2⟩ := hv2
        obtain ⟨V2, c2, rfl⟩ := hr2.form
        refine s_val (.tuple #[.slice V2 ((makeRel l).length) c2, .bool true]) (by kernel_rfl) (fun _ => by kernel_rfl) ?_
        refine s_val (.slice V2 ((makeRel l).length) c2) (by kernel_rfl) (fun _ => by kernel_rfl) ?_
        refine s_val (.bool true) (by kernel_rfl) (fun _ => by kernel_rfl) ?_
        refine s_val (.slice V2 ((makeRel l).length) c2) (by kernel_rfl) (fun _ => by kernel_rfl) ?_
        refine s_val (.bool true) (by kernel_rfl) (fun _ => by kernel_rfl) ?_
        refine s_nil ?_
        refine fin_seq ?_
        refine ok_seq ?_
        refine ok_region ?_
        refine s_val (.slice V2 ((makeRel l).length) c2) (by kernel_rfl) (fun _ => by kernel_rfl) ?_
        refine s_val (.slice B q.length d) (by kernel_rfl) (fun _ => by kernel_rfl) ?_
        obtain ⟨i, z, e1, e2, e3, e4, e5⟩ := span_info
        refine s_cast (L' := [] ++ [] ++ (o2 ++ (ob ++ ([⟨b1, #[.slice none 0 0, .slice none 0 0], 24⟩] : List Blk)))) rfl ?_
        refine s_appendR (E := []) (ob := []) (L0 := o2 ++ (ob ++ ([⟨b1, #[.slice none 0 0, .slice none 0 0], 24⟩] : List Blk))) (sz := 14) (l := q) (A := B) (c := d) spanC_len (by kernel_rfl) rfl Tryz.underlying22 e1 e2 e3 e4 (by kernel_rfl) (Sl.nil 50 14) (by kernel_rfl) (fun w hO => hu.on hO.below hO.size) span_cells (by unfold maxLen; omega) (by rw [e5]; omega) (fun v3 o3 hv3 => ?_)
        have hr3 : SlS v3 q o3 := hv3.to (by simp) (by simp)
        clear hv3
        obtain ⟨V3, c3, rfl⟩ := hr3.form
        refine s_take (L' := ⟨b1, #[.slice none 0 0, .slice none 0 0], 24⟩ :: (o3 ++ o2)) (fun w hO => own_mk hO) ?_
        refine s_val (.agg #[.slice V2 ((makeRel l).length) c2, .slice V3 q.length c3]) (by kernel_rfl) (fun _ => by kernel_rfl) ?_
        refine s_store_at 0 ⟨b1, #[.slice none 0 0, .slice none 0 0], 24⟩ (off := 0) (.agg #[.slice V2 ((makeRel l).length) c2, .slice V3 q.length c3]) (by kernel_rfl) rfl rfl (by kernel_rfl) (by kernel_rfl) (by kernel_rfl) (by kernel_rfl) (by kernel_rfl) ?_
        refine s_val (.bool true) (by kernel_rfl) (fun _ => by kernel_rfl) ?_
        refine s_nil ?_
        refine fin_seq ?_
        refine ok_ret ?_
        refine fin_cell2 0 ⟨b1, #[.slice V2 ((makeRel l).length) c2, .slice V3 q.length c3], 24⟩ (off := 0) (.agg #[.slice V2 ((makeRel l).length) c2, .slice V3 q.length c3]) (.bool true) Tryz.results13 (by kernel_rfl) (by kernel_rfl) (by kernel_rfl) (by kernel_rfl) ?_
        exact fun w hO => ⟨_, _, rfl, by rw [if_pos (by simp [h1, h2])]; exact ⟨_, _, o2, o3, rfl, rfl, hr2, hr3⟩, own_mid0 hO⟩
    | false =>
      refine s_val (.bool true) (by kernel_rfl) (fun _ => by kernel_rfl) ?_
      refine s_val (.bool true) (by kernel_rfl) (fun _ => by kernel_rfl) ?_
      refine s_nil ?_
      refine fin_seq ?_
      refine ok_true (by kernel_rfl) ?_
      refine ok_seq ?_
      refine ok_region ?_
      refine s_call (k := 47) (args := #[]) (.agg #[.slice none 0 0, .slice none 0 0]) (by kernel_rfl) (fun _ => by kernel_rfl) (fun w _ => rnone_any w) ?_
      refine s_store_at 0 ⟨b1, #[.slice none 0 0, .slice none 0 0], 24⟩ (off := 0) (.agg #[.slice none 0 0, .slice none 0 0]) (by kernel_rfl) rfl rfl (by kernel_rfl) (by kernel_rfl) (by kernel_rfl) (by kernel_rfl) (by kernel_rfl) ?_
      refine s_val (.bool false) (by kernel_rfl) (fun _ => by kernel_rfl) ?_
      refine s_nil ?_
      refine fin_seq ?_
      refine ok_ret ?_
      refine fin_seq_ret ?_
      refine fin_cell2 0 ⟨b1, #[.slice none 0 0, .slice none 0 0], 24⟩ (off := 0) (.agg #[.slice none 0 0, .slice none 0 0]) (.bool false) Tryz.results13 (by kernel_rfl) (by kernel_rfl) (by kernel_rfl) (by kernel_rfl) ?_
      exact fun w hO => ⟨_, [], by first | rfl | (simp [h1, h2]; done), by rw [if_neg (by simp [h1, h2])]; exact SetO.none, own_nil hO⟩
  | false =>
    refine s_val (.bool true) (by kernel_rfl) (fun _ => by kernel_rfl) ?_
    refine s_val (.bool true) (by kernel_rfl) (fun _ => by kernel_rfl) ?_
    refine s_skip (by kernel_rfl) ?_
    refine s_skip (by kernel_rfl) ?_
    refine s_skip (by kernel_rfl) ?_
    refine s_val (.bool true) (by kernel_rfl) (fun _ => by kernel_rfl) ?_
    refine s_nil ?_
    refine fin_seq ?_
    refine ok_true (by kernel_rfl) ?_
    refine ok_seq ?_
    refine ok_region ?_
    refine s_call (k := 47) (args := #[]) (.agg #[.slice none 0 0, .slice none 0 0]) (by kernel_rfl) (fun _ => by kernel_rfl) (fun w _ => rnone_any w) ?_
    refine s_store_at 0 ⟨b1, #[.slice none 0 0, .slice none 0 0], 24⟩ (off := 0) (.agg #[.slice none 0 0, .slice none 0 0]) (by kernel_rfl) rfl rfl (by kernel_rfl) (by kernel_rfl) (by kernel_rfl) (by kernel_rfl) (by kernel_rfl) ?_
    refine s_val (.bool false) (by kernel_rfl) (fun _ => by kernel_rfl) ?_
    refine s_nil ?_
    refine fin_seq ?_
    refine ok_ret ?_
    refine fin_seq_ret ?_
    refine fin_cell2 0 ⟨b1, #[.slice none 0 0, .slice none 0 0], 24⟩ (off := 0) (.agg #[.slice none 0 0, .slice none 0 0]) (.bool false) Tryz.results13 (by kernel_rfl) (by kernel_rfl) (by kernel_rfl) (by kernel_rfl) ?_
    exact fun w hO => ⟨_, [], by first | rfl | (simp [h1]; done), by rw [if_neg (by simp [h1])]; exact SetO.none, own_nil hO⟩
end Go.Proofs.YtgeccfdofmnphaaGreat
end

section
/-
  Package row's unshare (what it writes is what was there), add, Not.
-/
namespace Go.Proofs.YtgeccfdofmnphaaGreat
open Go.RowKit
set_option maxRecDepth 100000
set_option linter.unusedVariables false
set_option linter.unusedSimpArgs false
set_option maxHeartbeats 2000000


theorem unshare_any (A : Option Addr) (cap : Nat) (l : List Sp) (ob : List Blk) (W : World) (hv : SlS (.slice A l.length cap) l ob) (hO : Own (ob.map Blk.b) W W ob) (hn : l.length ≤ 1000000) (hl : ShortL l) :
    Calls Tryz.prog 84 #[.slice A l.length cap] W fun e w' => ∃ ob', e = .returned (.slice A l.length cap) ∧ SlS (.slice A l.length cap) l ob' ∧ Own (ob.map Blk.b) W w' ob' := by
  unfold SlS at hv ⊢
  refine calls_okL (n := 39) hO Tryz.func84 rfl (by kernel_rfl) (by kernel_rfl) ?_
  refine ok_seq ?_
  refine ok_region ?_
  refine s_val (.slice none 0 0) (by kernel_rfl) (fun _ => by kernel_rfl) ?_
  refine s_nil ?_
  refine fin_seq ?_
  refine ok_seq ?_
  refine ok_seq ?_
  refine ok_region ?_
  refine s_val (.slice A l.length cap) (by kernel_rfl) (fun _ => by kernel_rfl) ?_
  refine s_val (.int .i64 (l.length : Int)) (by kernel_rfl) (fun _ => by kernel_rfl) ?_
  refine s_val (.int .i64 0) (by kernel_rfl) (fun _ => by kernel_rfl) ?_
  refine s_nil ?_
  refine fin_seq ?_
  refine ok_block ?_
  refine ok_cast (L' := ob ++ []) (List.append_nil _).symm ?_
  refine ok_loop (fun L f m => ∃ (k : Nat) (oc : List Blk) (j : Nat → Value), (k ≤ l.length ∧ Sl 50 14 (.slice A l.length cap) l.length (l.flatMap spanC) oc) ∧ L = oc ++ [] ∧ f = upds j [(0, .slice A l.length cap), (5, .slice A l.length cap), (6, .int .i64 (l.length : Int)), (7, .int .i64 (k : Int))] ∧ m = l.length - k) (l.length - 0) ⟨0, ob, _, ⟨Nat.zero_le _, hv⟩, rfl, upds_self _ ⟨by kernel_rfl, by kernel_rfl, by kernel_rfl, by kernel_rfl, trivial⟩, rfl⟩ ?_
  rintro L f m ⟨k, oc, j, hrel, rfl, rfl, rfl⟩
  have hkl := hrel.1
  refine ok_seq ?_
  refine ok_region ?_
  by_cases h1 : (k : Int) < (l.length : Int)
  · skip
    have hk : k < l.length := by omega
    obtain ⟨g, cur, hA, rfl, hcap, hmax, hsz, hcur⟩ := hrel.2.block (by omega)
    obtain ⟨s, hs⟩ : ∃ s, l[k] = s := ⟨_, rfl⟩
    have hsk : s.short := hs ▸ hl l[k] (List.getElem_mem hk)
    have hset : l.set k s = l := by rw [← hs]; exact List.set_getElem_self _
    refine s_cast (L' := [⟨g, cur, 50⟩]) (List.append_nil _) ?_
    refine s_dec (p := (k : Int) < (l.length : Int)) true (by kernel_rfl) (fun _ => by kernel_rfl) (decide_eq_true (h1)) ?_
    refine s_nil ?_
    refine fin_seq ?_
    refine ok_seq ?_
    refine ok_true (by kernel_rfl) ?_
    refine ok_skip ?_
    refine fin_seq ?_
    refine ok_seq ?_
    refine ok_block ?_
    refine ok_seq ?_
    refine ok_region ?_
    refine s_val (.int .i64 (k : Int)) (by kernel_rfl) (fun _ => by kernel_rfl) ?_
    refine s_val (.int .i64 (k : Int)) (by kernel_rfl) (fun _ => by kernel_rfl) ?_
    refine s_nil ?_
    refine fin_seq ?_
    refine ok_seq ?_
    refine ok_region ?_
    refine s_val (.slice A l.length cap) (by kernel_rfl) (fun _ => by kernel_rfl) ?_
    refine s_val (.int .i64 (k : Int)) (by kernel_rfl) (fun _ => by kernel_rfl) ?_
    refine s_val (.pointer (some ⟨g, k * 14, none⟩)) (by kernel_rfl) (run_ixA (b := g) (off := 0) (c := cap) (n := l.length) (k := .i64) (j := (k : Int)) (e := 50) (sz := 14) rfl (by kernel_rfl) hA (by kernel_rfl) (by kernel_rfl) (by kernel_rfl) (by omega) (by omega) (by show 0 + k * 14 = k * 14; omega)) ?_
    refine s_val (.pointer (some ⟨g, k * 14, none⟩)) (by kernel_rfl) (fun _ => by kernel_rfl) ?_
    refine s_nil ?_
    refine fin_seq ?_
    refine ok_seq ?_
    refine ok_region ?_
    refine s_val (.pointer (some ⟨g, k * 14, none⟩)) (by kernel_rfl) (fun _ => by kernel_rfl) ?_
    refine s_val (.pointer (some ⟨g, k * 14, none⟩)) (by kernel_rfl) (fun _ => by kernel_rfl) ?_
    refine s_val (.pointer (some ⟨g, k * 14, none⟩)) (by kernel_rfl) (fun _ => by kernel_rfl) ?_
    refine s_val (.pointer (some ⟨g, k * 14 + 0, none⟩)) (by kernel_rfl) (fun _ => by kernel_rfl) ?_
    refine s_val (.pointer (some ⟨g, k * 14 + 1, none⟩)) (by kernel_rfl) (fun _ => by kernel_rfl) ?_
    refine s_val (.pointer (some ⟨g, k * 14 + 4, none⟩)) (by kernel_rfl) (fun _ => by kernel_rfl) ?_
    refine s_load 0 ⟨g, cur, 50⟩ (off := k * 14 + 4) (.string (mkS s.lo.v.pre)) (by kernel_rfl) rfl (by kernel_rfl) (by kernel_rfl) (read_part spanC_len hcur k 4 (by omega) (by omega) _ (by rw [hs]; kernel_rfl)) ?_
    refine s_call (k := 99) (args := #[.string (mkS s.lo.v.pre)]) (.string (mkS s.lo.v.pre)) (by kernel_rfl) (fun _ => by kernel_rfl) (fun w _ => clone_any (mkS s.lo.v.pre) w (by rw [mkS_sz]; have := hsk.1.1; omega)) ?_
    refine s_val (.pointer (some ⟨g, k * 14, none⟩)) (by kernel_rfl) (fun _ => by kernel_rfl) ?_
    refine s_val (.pointer (some ⟨g, k * 14 + 0, none⟩)) (by kernel_rfl) (fun _ => by kernel_rfl) ?_
    refine s_val (.pointer (some ⟨g, k * 14 + 1, none⟩)) (by kernel_rfl) (fun _ => by kernel_rfl) ?_
    refine s_val (.pointer (some ⟨g, k * 14 + 4, none⟩)) (by kernel_rfl) (fun _ => by kernel_rfl) ?_
    refine s_storeS 0 ⟨g, cur, 50⟩ (off := k * 14 + 4) (.string (mkS s.lo.v.pre)) 1 (by kernel_rfl) rfl rfl (by kernel_rfl) (by kernel_rfl) (by kernel_rfl) (by kernel_rfl) (by kernel_rfl) (by show k * 14 + 4 + 1 ≤ cur.size; omega) (by kernel_rfl) ?_
    have hse2 := store_elem spanC_len hcur k 4 (by omega) (Value.string (mkS s.lo.v.pre)).cells s (show 4 + 1 ≤ 14 by decide) (by rw [hs]; rfl)
    rw [hset] at hse2
    obtain ⟨cur2, hc2⟩ : ∃ x, x = storeIn cur (k * 14 + 4) (Value.string (mkS s.lo.v.pre)).cells := ⟨_, rfl⟩
    rw [← hc2] at hse2
    refine s_cast (L' := [⟨g, cur2, 50⟩]) (by rw [hc2]; rfl) ?_
    have hcur2 := hse2.1
    have hsz2 : cur2.size = cap * 14 := by rw [hse2.2]; exact hsz
    refine s_nil ?_
    refine fin_seq ?_
    refine ok_region ?_
    refine s_val (.pointer (some ⟨g, k * 14, none⟩)) (by kernel_rfl) (fun _ => by kernel_rfl) ?_
    refine s_val (.pointer (some ⟨g, k * 14, none⟩)) (by kernel_rfl) (fun _ => by kernel_rfl) ?_
    refine s_val (.pointer (some ⟨g, k * 14, none⟩)) (by kernel_rfl) (fun _ => by kernel_rfl) ?_
    refine s_val (.pointer (some ⟨g, k * 14 + 7, none⟩)) (by kernel_rfl) (fun _ => by kernel_rfl) ?_
    refine s_val (.pointer (some ⟨g, k * 14 + 8, none⟩)) (by kernel_rfl) (fun _ => by kernel_rfl) ?_
    refine s_val (.pointer (some ⟨g, k * 14 + 11, none⟩)) (by kernel_rfl) (fun _ => by kernel_rfl) ?_
    refine s_load 0 ⟨g, cur2, 50⟩ (off := k * 14 + 11) (.string (mkS s.hi.v.pre)) (by kernel_rfl) rfl (by kernel_rfl) (by kernel_rfl) (read_part spanC_len hcur2 k 11 (by omega) (by omega) _ (by rw [hs]; kernel_rfl)) ?_
    refine s_call (k := 99) (args := #[.string (mkS s.hi.v.pre)]) (.string (mkS s.hi.v.pre)) (by kernel_rfl) (fun _ => by kernel_rfl) (fun w _ => clone_any (mkS s.hi.v.pre) w (by rw [mkS_sz]; have := hsk.2.1; omega)) ?_
    refine s_val (.pointer (some ⟨g, k * 14, none⟩)) (by kernel_rfl) (fun _ => by kernel_rfl) ?_
    refine s_val (.pointer (some ⟨g, k * 14 + 7, none⟩)) (by kernel_rfl) (fun _ => by kernel_rfl) ?_
    refine s_val (.pointer (some ⟨g, k * 14 + 8, none⟩)) (by kernel_rfl) (fun _ => by kernel_rfl) ?_
    refine s_val (.pointer (some ⟨g, k * 14 + 11, none⟩)) (by kernel_rfl) (fun _ => by kernel_rfl) ?_
    refine s_storeS 0 ⟨g, cur2, 50⟩ (off := k * 14 + 11) (.string (mkS s.hi.v.pre)) 1 (by kernel_rfl) rfl rfl (by kernel_rfl) (by kernel_rfl) (by kernel_rfl) (by kernel_rfl) (by kernel_rfl) (by show k * 14 + 11 + 1 ≤ cur2.size; omega) (by kernel_rfl) ?_
    have hse3 := store_elem spanC_len hcur2 k 11 (by omega) (Value.string (mkS s.hi.v.pre)).cells s (show 11 + 1 ≤ 14 by decide) (by rw [hs]; rfl)
    rw [hset] at hse3
    obtain ⟨cur3, hc3⟩ : ∃ x, x = storeIn cur2 (k * 14 + 11) (Value.string (mkS s.hi.v.pre)).cells := ⟨_, rfl⟩
    rw [← hc3] at hse3
    refine s_cast (L' := [⟨g, cur3, 50⟩]) (by rw [hc3]; rfl) ?_
    have hcur3 := hse3.1
    have hsz3 : cur3.size = cap * 14 := by rw [hse3.2]; exact hsz2
    refine s_nil ?_
    refine fin_block ?_
    refine fin_seq ?_
    refine ok_region ?_
    refine s_sum (k := .i64) (((k + 1 : Nat) : Int)) (by kernel_rfl) (fun _ => by kernel_rfl) (IntWalk.i64_in _ (by omega)) ?_
    refine s_val (.int .i64 ((k + 1 : Nat) : Int)) (by kernel_rfl) (fun _ => by kernel_rfl) ?_
    refine s_nil ?_
    exact fin_round (m' := l.length - (k + 1)) (by omega) ⟨k + 1, [⟨g, cur3, 50⟩], _, ⟨by omega, by rw [flat_len spanC_len], .inr ⟨g, cap, _, by rw [hA], rfl, hcap, hmax, hsz3, hcur3⟩⟩, rfl, upds_self _ ⟨by kernel_rfl, by kernel_rfl, by kernel_rfl, by kernel_rfl, trivial⟩, rfl⟩
  · skip
    refine s_dec (p := (k : Int) < (l.length : Int)) false (by kernel_rfl) (fun _ => by kernel_rfl) (decide_eq_false (h1)) ?_
    refine s_nil ?_
    refine fin_seq ?_
    refine ok_seq ?_
    refine ok_false (by kernel_rfl) ?_
    refine ok_exit ?_
    refine fin_seq_exit ?_
    refine fin_round_exit ?_
    refine fin_block_exit ?_
    refine fin_seq ?_
    refine ok_seq ?_
    refine ok_region ?_
    refine s_val (.slice A l.length cap) (by kernel_rfl) (fun _ => by kernel_rfl) ?_
    refine s_val (.slice A l.length cap) (by kernel_rfl) (fun _ => by kernel_rfl) ?_
    refine s_nil ?_
    refine fin_seq ?_
    refine ok_ret ?_
    refine fin_ret (.slice A l.length cap) Tryz.results84 (by kernel_rfl) ?_
    exact fun w hO => ⟨oc, rfl, hrel.2, by simpa using hO⟩
end Go.Proofs.YtgeccfdofmnphaaGreat
end

section
/-
  Package row's add, Not.
-/
namespace Go.Proofs.YtgeccfdofmnphaaGreat
open Go.RowKit
set_option maxRecDepth 100000
set_option linter.unusedVariables false
set_option linter.unusedSimpArgs false
set_option maxHeartbeats 2000000


theorem add_short {l : List Sp} {c d : Cu} (hl : ShortL l) (hc : c.short) (hd : d.short) : ShortL (addL l c d) := by
  unfold addL
  split
  · intro x hx
    rcases List.mem_append.1 hx with h | h
    · exact hl x h
    · obtain rfl : x = _ := by simpa using h
      exact ⟨hc, hd⟩
  · exact hl
theorem add_any (A : Option Addr) (cap : Nat) (l : List Sp) (ob : List Blk) (c d : Cu) (W : World) (hv : SlS (.slice A l.length cap) l ob) (hO : Own (ob.map Blk.b) W W ob) (hn : l.length ≤ 1000000) (hl : ShortL l) (hc : c.short) (hd : d.short) :
    Calls Tryz.prog 105 #[.slice A l.length cap, cutV c, cutV d] W fun e w' => ∃ v' ob', e = .returned v' ∧ SlS v' (addL l c d) ob' ∧ Own (ob.map Blk.b) W w' ob' := by
  unfold SlS at hv ⊢
  refine calls_okL (n := 19) hO Tryz.func105 rfl (by kernel_rfl) (by kernel_rfl) ?_
  refine ok_seq ?_
  refine ok_region ?_
  refine s_box (cutV c) (by kernel_rfl) rfl (by kernel_rfl) (fun b1 => ?_)
  refine s_box (cutV d) (by kernel_rfl) rfl (by kernel_rfl) (fun b2 => ?_)
  refine s_val (.slice none 0 0) (by kernel_rfl) (fun _ => by kernel_rfl) ?_
  refine s_nil ?_
  refine fin_seq ?_
  refine ok_seq ?_
  refine ok_region ?_
  refine s_load 1 ⟨b1, (cutV c).cells, 48⟩ (off := 0) (cutV c) (by kernel_rfl) rfl (by kernel_rfl) (by kernel_rfl) (by kernel_rfl) ?_
  refine s_load 0 ⟨b2, (cutV d).cells, 48⟩ (off := 0) (cutV d) (by kernel_rfl) rfl (by kernel_rfl) (by kernel_rfl) (by kernel_rfl) ?_
  refine s_val (.agg #[.int .i64 c.e, .int .i64 c.v.maj, .int .i64 c.v.min, .int .i64 c.v.pat, .string (mkS c.v.pre), .string (mkS c.v.build), .bool c.aft, .int .i64 d.e, .int .i64 d.v.maj, .int .i64 d.v.min, .int .i64 d.v.pat, .string (mkS d.v.pre), .string (mkS d.v.build), .bool d.aft]) (by kernel_rfl) (fun _ => by kernel_rfl) ?_
  refine s_alloc_at (.agg #[.int .i64 0, .int .i64 0, .int .i64 0, .int .i64 0, .string ⟨#[]⟩, .string ⟨#[]⟩, .bool false, .int .i64 0, .int .i64 0, .int .i64 0, .int .i64 0, .string ⟨#[]⟩, .string ⟨#[]⟩, .bool false]) (by kernel_rfl) rfl (by kernel_rfl) (fun b3 => ?_)
  refine s_store_at 0 ⟨b3, #[.int .i64 0, .int .i64 0, .int .i64 0, .int .i64 0, .string ⟨#[]⟩, .string ⟨#[]⟩, .bool false, .int .i64 0, .int .i64 0, .int .i64 0, .int .i64 0, .string ⟨#[]⟩, .string ⟨#[]⟩, .bool false], 50⟩ (off := 0) (.agg #[.int .i64 c.e, .int .i64 c.v.maj, .int .i64 c.v.min, .int .i64 c.v.pat, .string (mkS c.v.pre), .string (mkS c.v.build), .bool c.aft, .int .i64 d.e, .int .i64 d.v.maj, .int .i64 d.v.min, .int .i64 d.v.pat, .string (mkS d.v.pre), .string (mkS d.v.build), .bool d.aft]) (by kernel_rfl) rfl rfl (by kernel_rfl) (by kernel_rfl) (by kernel_rfl) (by kernel_rfl) (by kernel_rfl) ?_
  refine s_nil ?_
  refine fin_seq ?_
  refine ok_seq ?_
  refine ok_seq ?_
  refine ok_region ?_
  refine s_load 0 ⟨b3, #[.int .i64 c.e, .int .i64 c.v.maj, .int .i64 c.v.min, .int .i64 c.v.pat, .string (mkS c.v.pre), .string (mkS c.v.build), .bool c.aft, .int .i64 d.e, .int .i64 d.v.maj, .int .i64 d.v.min, .int .i64 d.v.pat, .string (mkS d.v.pre), .string (mkS d.v.build), .bool d.aft], 50⟩ (off := 0) (.agg #[.int .i64 c.e, .int .i64 c.v.maj, .int .i64 c.v.min, .int .i64 c.v.pat, .string (mkS c.v.pre), .string (mkS c.v.build), .bool c.aft, .int .i64 d.e, .int .i64 d.v.maj, .int .i64 d.v.min, .int .i64 d.v.pat, .string (mkS d.v.pre), .string (mkS d.v.build), .bool d.aft]) (by kernel_rfl) rfl (by kernel_rfl) (by kernel_rfl) (by kernel_rfl) ?_
  refine s_call (k := 44) (args := #[.agg #[.int .i64 c.e, .int .i64 c.v.maj, .int .i64 c.v.min, .int .i64 c.v.pat, .string (mkS c.v.pre), .string (mkS c.v.build), .bool c.aft, .int .i64 d.e, .int .i64 d.v.maj, .int .i64 d.v.min, .int .i64 d.v.pat, .string (mkS d.v.pre), .string (mkS d.v.build), .bool d.aft]]) (.bool ((Sp.mk c d).may)) (by kernel_rfl) (fun _ => by kernel_rfl) (fun w _ => spanMay_any ⟨c, d⟩ w ⟨hc, hd⟩) ?_
  cases h1 : (Sp.mk c d).may with
  | true =>
    refine s_val (.bool false) (by kernel_rfl) (fun _ => by kernel_rfl) ?_
    refine s_nil ?_
    refine fin_seq ?_
    refine ok_false (by kernel_rfl) ?_
    refine ok_skip ?_
    refine fin_seq ?_
    refine ok_seq ?_
    refine ok_region ?_
    refine s_val (.slice A l.length cap) (by kernel_rfl) (fun _ => by kernel_rfl) ?_
    refine s_load 0 ⟨b3, #[.int .i64 c.e, .int .i64 c.v.maj, .int .i64 c.v.min, .int .i64 c.v.pat, .string (mkS c.v.pre), .string (mkS c.v.build), .bool c.aft, .int .i64 d.e, .int .i64 d.v.maj, .int .i64 d.v.min, .int .i64 d.v.pat, .string (mkS d.v.pre), .string (mkS d.v.build), .bool d.aft], 50⟩ (off := 0) (.agg #[.int .i64 c.e, .int .i64 c.v.maj, .int .i64 c.v.min, .int .i64 c.v.pat, .string (mkS c.v.pre), .string (mkS c.v.build), .bool c.aft, .int .i64 d.e, .int .i64 d.v.maj, .int .i64 d.v.min, .int .i64 d.v.pat, .string (mkS d.v.pre), .string (mkS d.v.build), .bool d.aft]) (by kernel_rfl) rfl (by kernel_rfl) (by kernel_rfl) (by kernel_rfl) ?_
    refine s_lit 50 #[.int .i64 c.e, .int .i64 c.v.maj, .int .i64 c.v.min, .int .i64 c.v.pat, .string (mkS c.v.pre), .string (mkS c.v.build), .bool c.aft, .int .i64 d.e, .int .i64 d.v.maj, .int .i64 d.v.min, .int .i64 d.v.pat, .string (mkS d.v.pre), .string (mkS d.v.build), .bool d.aft] (by kernel_rfl) rfl (fun _ => by kernel_rfl) (fun b4 => ?_)
    refine s_cast (L' := [⟨b4, #[.int .i64 c.e, .int .i64 c.v.maj, .int .i64 c.v.min, .int .i64 c.v.pat, .string (mkS c.v.pre), .string (mkS c.v.build), .bool c.aft, .int .i64 d.e, .int .i64 d.v.maj, .int .i64 d.v.min, .int .i64 d.v.pat, .string (mkS d.v.pre), .string (mkS d.v.build), .bool d.aft], 50⟩, ⟨b3, #[.int .i64 c.e, .int .i64 c.v.maj, .int .i64 c.v.min, .int .i64 c.v.pat, .string (mkS c.v.pre), .string (mkS c.v.build), .bool c.aft, .int .i64 d.e, .int .i64 d.v.maj, .int .i64 d.v.min, .int .i64 d.v.pat, .string (mkS d.v.pre), .string (mkS d.v.build), .bool d.aft], 50⟩, ⟨b2, (cutV d).cells, 48⟩, ⟨b1, (cutV c).cells, 48⟩] ++ ob ++ []) (by rw [List.append_nil]; rfl) ?_
    obtain ⟨i, z, e1, e2, e3, e4, e5⟩ := span_info
    refine s_append (sz := 14) (by kernel_rfl) rfl Tryz.underlying22 e1 e2 e3 e4 (by kernel_rfl) hv (a := ⟨b4, 0, none⟩) (m := 1) (c := 1) (news := spanC ⟨c, d⟩) (by kernel_rfl) rfl (fun w hO j u hj => ?_) (span_cells _) (by unfold maxLen; omega) (by rw [e5]; omega) (fun v' ob' hv' => ?_)
    · rw [add_off, cell_of_row w b4 (0 + j) (spanC ⟨c, d⟩).toArray 50 _ (hO.held ⟨b4, (spanC ⟨c, d⟩).toArray, 50⟩ (List.mem_append_left _ (List.mem_append_left _ (List.mem_cons_self ..))))]; simpa using hj
    refine s_val (v') (by kernel_rfl) (fun _ => by kernel_rfl) ?_
    refine s_nil ?_
    refine fin_seq ?_
    refine ok_ret ?_
    refine fin_ret (v') Tryz.results105 (by kernel_rfl) ?_
    refine fun w hO => ⟨v', ob', rfl, by unfold addL; rw [h1, if_pos rfl, List.length_append, List.flatMap_append]; simpa using hv', Own.take hO (fun x hx => List.mem_append_left _ (List.mem_append_right _ hx)) ?_⟩
    have := hO.apart; rw [List.append_nil, List.map_append, List.nodup_append] at this; exact this.2.1
  | false =>
    refine s_val (.bool true) (by kernel_rfl) (fun _ => by kernel_rfl) ?_
    refine s_nil ?_
    refine fin_seq ?_
    refine ok_true (by kernel_rfl) ?_
    refine ok_seq ?_
    refine ok_region ?_
    refine s_val (.slice A l.length cap) (by kernel_rfl) (fun _ => by kernel_rfl) ?_
    refine s_val (.slice A l.length cap) (by kernel_rfl) (fun _ => by kernel_rfl) ?_
    refine s_nil ?_
    refine fin_seq ?_
    refine ok_ret ?_
    refine fin_seq_ret ?_
    refine fin_ret (.slice A l.length cap) Tryz.results105 (by kernel_rfl) ?_
    exact fun w hO => ⟨_, ob, rfl, by unfold addL; rw [h1, if_neg (by decide)]; exact hv, Own.sub [_, _, _] hO⟩
/-- add, of a caller that holds other blocks (E) too. -/
theorem add_call {M : List Nat} {W w : World} {v : Value} {l : List Sp} {E ob : List Blk} (c d : Cu) (hO : Own M W w (E ++ ob)) (hv : SlS v l ob) (hn : l.length ≤ 1000000) (hl : ShortL l) (hc : c.short) (hd : d.short) :
    Calls Tryz.prog 105 #[v, cutV c, cutV d] w fun e w' => ∃ v' L', e = .returned v' ∧ (∃ ob', L' = E ++ ob' ∧ SlS v' (addL l c d) ob') ∧ Own M W w' L' := by
  obtain ⟨A, cap, rfl⟩ := hv.form
  refine (add_any A cap l ob c d w hv (Own.lend (hO.sub E)) hn hl hc hd).mono fun e w' ⟨v', ob', h1, h2, h3⟩ => ⟨v', E ++ ob', h1, ⟨ob', rfl, h2⟩, ?_⟩
  have hp : Own M W w (ob ++ E) := hO.perm List.perm_append_comm
  exact (Own.join hp h3).perm List.perm_append_comm
theorem unshare_call {M : List Nat} {W w : World} {v : Value} {l : List Sp} {E ob : List Blk} (hO : Own M W w (E ++ ob)) (hv : SlS v l ob) (hn : l.length ≤ 1000000) (hl : ShortL l) :
    Calls Tryz.prog 84 #[v] w fun e w' => ∃ v' L', e = .returned v' ∧ (∃ ob', L' = E ++ ob' ∧ SlS v' l ob') ∧ Own M W w' L' := by
  obtain ⟨A, cap, rfl⟩ := hv.form
  refine (unshare_any A cap l ob w hv (Own.lend (hO.sub E)) hn hl).mono fun e w' ⟨ob', h1, h2, h3⟩ => ⟨_, E ++ ob', h1, ⟨ob', rfl, h2⟩, ?_⟩
  have hp : Own M W w (ob ++ E) := hO.perm List.perm_append_comm
  exact (Own.join hp h3).perm List.perm_append_comm
theorem end_short (k : Int) : (endC k).short := ⟨Nat.zero_le 1000000, Nat.zero_le 1000000⟩
structure NotB (l : List Sp) (k : Nat) (v : Value) (out : List Sp) (f : Cu) (ob : List Blk) : Prop where
  le : k ≤ l.length
  sl : SlS v out ob
  len : out.length ≤ k
  short : ShortL out
  fs : f.short
  eq : (l.take k).foldl nstep ([], endC (-1)) = (out, f)
theorem NotB.start (l : List Sp) : NotB l 0 (.slice none 0 0) [] (endC (-1)) [] := ⟨Nat.zero_le _, Sl.nil _ _, Nat.le_refl _, fun s hs => by simp at hs, end_short _, by rw [List.take_zero]; rfl⟩
theorem NotB.step {l : List Sp} {k : Nat} {v v2 : Value} {out : List Sp} {f : Cu} {ob ob2 : List Blk} (h : NotB l k v out f ob) (hk : k < l.length) {s : Sp} (hs : l[k] = s) (hss : s.short) (h2 : SlS v2 (addL out f s.lo) ob2) : NotB l (k + 1) v2 (addL out f s.lo) s.hi ob2 :=
  ⟨by omega, h2, by have := h.len; have := add_len out f s.lo; omega, add_short h.short h.fs hss.1, hss.2, by rw [List.take_succ_eq_append_getElem hk, List.foldl_append, h.eq, hs]; rfl⟩
theorem not4_any (A : Option Addr) (cap : Nat) (l : List Sp) (W : World) (hv : Reads spanC W W.heap.size A l) (hn : l.length ≤ 300000) (hl : ShortL l) :
    Calls Tryz.prog 70 #[.slice A l.length cap] W fun e w' => ∃ v' ob', e = .returned v' ∧ SlS v' (if rowMay l then notL l else []) ob' ∧ Own [] W w' ob' := by
  refine calls_ok (n := 30) Tryz.func70 rfl (by kernel_rfl) (by kernel_rfl) ?_
  refine ok_seq ?_
  refine ok_region ?_
  refine s_val (.slice none 0 0) (by kernel_rfl) (fun _ => by kernel_rfl) ?_
  refine s_nil ?_
  refine fin_seq ?_
  refine ok_seq ?_
  refine ok_seq ?_
  refine ok_region ?_
  refine s_val (.slice A l.length cap) (by kernel_rfl) (fun _ => by kernel_rfl) ?_
  refine s_call (k := 42) (args := #[.slice A l.length cap]) (.bool (rowMay l)) (by kernel_rfl) (fun _ => by kernel_rfl) (fun w hO => may4_any A cap l w (hv.on hO.below hO.size) (by omega) hl) ?_
  cases h1 : rowMay l with
  | true =>
    refine s_val (.bool false) (by kernel_rfl) (fun _ => by kernel_rfl) ?_
    refine s_nil ?_
    refine fin_seq ?_
    refine ok_false (by kernel_rfl) ?_
    refine ok_skip ?_
    refine fin_seq ?_
    refine ok_seq ?_
    refine ok_region ?_
    refine s_val (.slice none 0 0) (by kernel_rfl) (fun _ => by kernel_rfl) ?_
    refine s_nil ?_
    refine fin_seq ?_
    refine ok_seq ?_
    refine ok_region ?_
    refine s_val (.agg #[.int .i64 (-1), .int .i64 0, .int .i64 0, .int .i64 0, .string ⟨#[]⟩, .string ⟨#[]⟩, .bool false]) (by kernel_rfl) (fun _ => by kernel_rfl) ?_
    refine s_alloc_at (.agg #[.int .i64 0, .int .i64 0, .int .i64 0, .int .i64 0, .string ⟨#[]⟩, .string ⟨#[]⟩, .bool false]) (by kernel_rfl) rfl (by kernel_rfl) (fun b1 => ?_)
    refine s_store_at 0 ⟨b1, #[.int .i64 0, .int .i64 0, .int .i64 0, .int .i64 0, .string ⟨#[]⟩, .string ⟨#[]⟩, .bool false], 48⟩ (off := 0) (.agg #[.int .i64 (-1), .int .i64 0, .int .i64 0, .int .i64 0, .string ⟨#[]⟩, .string ⟨#[]⟩, .bool false]) (by kernel_rfl) rfl rfl (by kernel_rfl) (by kernel_rfl) (by kernel_rfl) (by kernel_rfl) (by kernel_rfl) ?_
    refine s_nil ?_
    refine fin_seq ?_
    refine ok_seq ?_
    refine ok_seq ?_
    refine ok_region ?_
    refine s_val (.slice A l.length cap) (by kernel_rfl) (fun _ => by kernel_rfl) ?_
    refine s_val (.int .i64 (l.length : Int)) (by kernel_rfl) (fun _ => by kernel_rfl) ?_
    refine s_val (.int .i64 0) (by kernel_rfl) (fun _ => by kernel_rfl) ?_
    refine s_nil ?_
    refine fin_seq ?_
    refine ok_block ?_
    refine ok_loop (fun L f m => ∃ (k : Nat) (v : Value) (out : List Sp) (fc : Cu) (ob : List Blk) (j : Nat → Value), (NotB l k v out fc ob) ∧ L = ⟨b1, (cutV fc).cells, 48⟩ :: ob ∧ f = upds j [(3, v), (4, .pointer (some ⟨b1, 0, none⟩)), (11, .slice A l.length cap), (12, .int .i64 (l.length : Int)), (13, .int .i64 (k : Int))] ∧ m = l.length - k) (l.length - 0) ⟨0, _, [], endC (-1), [], _, NotB.start l, rfl, upds_self _ ⟨by kernel_rfl, by kernel_rfl, by kernel_rfl, by kernel_rfl, by kernel_rfl, trivial⟩, rfl⟩ ?_
    rintro L f m ⟨k, v, out, fc, ob, j, hrel, rfl, rfl, rfl⟩
    have hkl := hrel.le; have hlen := hrel.len
    refine ok_seq ?_
    refine ok_region ?_
    by_cases h2 : (k : Int) < (l.length : Int)
    · skip
      have hk : k < l.length := by omega
      obtain ⟨b, off, hA, hlt, hcell⟩ := hv (by omega)
      obtain ⟨s, hs⟩ : ∃ s, l[k] = s := ⟨_, rfl⟩
      have hsk : s.short := hs ▸ hl l[k] (List.getElem_mem hk)
      refine s_dec (p := (k : Int) < (l.length : Int)) true (by kernel_rfl) (fun _ => by kernel_rfl) (decide_eq_true (h2)) ?_
      refine s_nil ?_
      refine fin_seq ?_
      refine ok_seq ?_
      refine ok_true (by kernel_rfl) ?_
      refine ok_skip ?_
      refine fin_seq ?_
      refine ok_seq ?_
      refine ok_block ?_
      refine ok_seq ?_
      refine ok_region ?_
      refine s_val (.pointer (some ⟨b, off + k * 14, none⟩)) (by kernel_rfl) (run_ixA (b := b) (off := off) (c := cap) (n := l.length) (k := .i64) (j := (k : Int)) (e := 50) (sz := 14) rfl (by kernel_rfl) hA (by kernel_rfl) (by kernel_rfl) (by kernel_rfl) (by omega) (by omega) (by omega)) ?_
      refine s_old (spanV s) (a := ⟨b, off + k * 14, none⟩) (by kernel_rfl) rfl (by kernel_rfl) (fun w hO => elem_load spanC_len (fun j u h => (hO.below.cell (p := ⟨b, off + j, none⟩) hlt).trans (hcell j u h)) k 0 hk (by omega) _ (by rw [hs]; kernel_rfl)) ?_
      refine s_alloc_at (.agg #[.int .i64 0, .int .i64 0, .int .i64 0, .int .i64 0, .string ⟨#[]⟩, .string ⟨#[]⟩, .bool false, .int .i64 0, .int .i64 0, .int .i64 0, .int .i64 0, .string ⟨#[]⟩, .string ⟨#[]⟩, .bool false]) (by kernel_rfl) rfl (by kernel_rfl) (fun b2 => ?_)
      refine s_store_at 0 ⟨b2, #[.int .i64 0, .int .i64 0, .int .i64 0, .int .i64 0, .string ⟨#[]⟩, .string ⟨#[]⟩, .bool false, .int .i64 0, .int .i64 0, .int .i64 0, .int .i64 0, .string ⟨#[]⟩, .string ⟨#[]⟩, .bool false], 50⟩ (off := 0) (spanV s) (by kernel_rfl) rfl rfl (by kernel_rfl) (by kernel_rfl) (by kernel_rfl) (by kernel_rfl) (by kernel_rfl) ?_
      refine s_nil ?_
      refine fin_seq ?_
      refine ok_seq ?_
      refine ok_region ?_
      refine s_val (v) (by kernel_rfl) (fun _ => by kernel_rfl) ?_
      refine s_load 1 ⟨b1, (cutV fc).cells, 48⟩ (off := 0) (.agg #[.int .i64 fc.e, .int .i64 fc.v.maj, .int .i64 fc.v.min, .int .i64 fc.v.pat, .string (mkS fc.v.pre), .string (mkS fc.v.build), .bool fc.aft]) (by kernel_rfl) rfl (by kernel_rfl) (by kernel_rfl) (by kernel_rfl) ?_
      refine s_val (.pointer (some ⟨b2, 0, none⟩)) (by kernel_rfl) (fun _ => by kernel_rfl) ?_
      refine s_load 0 ⟨b2, (spanV s).cells, 50⟩ (off := 0) (.agg #[.int .i64 s.lo.e, .int .i64 s.lo.v.maj, .int .i64 s.lo.v.min, .int .i64 s.lo.v.pat, .string (mkS s.lo.v.pre), .string (mkS s.lo.v.build), .bool s.lo.aft]) (by kernel_rfl) rfl (by kernel_rfl) (by kernel_rfl) (by kernel_rfl) ?_
      refine s_callo (k := 105) (args := #[v, cutV fc, cutV s.lo]) (fun v' L' => ∃ ob', L' = [⟨b2, (spanV s).cells, 50⟩, ⟨b1, (cutV fc).cells, 48⟩] ++ ob' ∧ SlS v' (addL out fc s.lo) ob') (by kernel_rfl) (fun _ => by kernel_rfl) (fun w hO => add_call (E := [⟨b2, (spanV s).cells, 50⟩, ⟨b1, (cutV fc).cells, 48⟩]) fc s.lo hO hrel.sl (by omega) hrel.short hrel.fs hsk.1) (fun v2 L2 hv2 => ?_)
      obtain ⟨ob2, rfl, hs2⟩ := hv2
      refine s_val (v2) (by kernel_rfl) (fun _ => by kernel_rfl) ?_
      refine s_nil ?_
      refine fin_seq ?_
      refine ok_region ?_
      refine s_val (.pointer (some ⟨b2, 7, none⟩)) (by kernel_rfl) (fun _ => by kernel_rfl) ?_
      refine s_load 0 ⟨b2, (spanV s).cells, 50⟩ (off := 7) (.agg #[.int .i64 s.hi.e, .int .i64 s.hi.v.maj, .int .i64 s.hi.v.min, .int .i64 s.hi.v.pat, .string (mkS s.hi.v.pre), .string (mkS s.hi.v.build), .bool s.hi.aft]) (by kernel_rfl) rfl (by kernel_rfl) (by kernel_rfl) (by kernel_rfl) ?_
      refine s_store_at 1 ⟨b1, (cutV fc).cells, 48⟩ (off := 0) (.agg #[.int .i64 s.hi.e, .int .i64 s.hi.v.maj, .int .i64 s.hi.v.min, .int .i64 s.hi.v.pat, .string (mkS s.hi.v.pre), .string (mkS s.hi.v.build), .bool s.hi.aft]) (by kernel_rfl) rfl rfl (by kernel_rfl) (by kernel_rfl) (by kernel_rfl) (by kernel_rfl) (by kernel_rfl) ?_
      refine s_nil ?_
      refine fin_block ?_
      refine fin_seq ?_
      refine ok_region ?_
      refine s_sum (k := .i64) (((k + 1 : Nat) : Int)) (by kernel_rfl) (fun _ => by kernel_rfl) (IntWalk.i64_in _ (by omega)) ?_
      refine s_val (.int .i64 ((k + 1 : Nat) : Int)) (by kernel_rfl) (fun _ => by kernel_rfl) ?_
      refine s_nil ?_
      refine fin_take (fun w hO => Own.sub [_] hO) ?_
      exact fin_round (m' := l.length - (k + 1)) (by omega) ⟨k + 1, v2, addL out fc s.lo, s.hi, ob2, _, hrel.step hk hs hsk hs2, rfl, upds_self _ ⟨by kernel_rfl, by kernel_rfl, by kernel_rfl, by kernel_rfl, by kernel_rfl, trivial⟩, rfl⟩
    · skip
      refine s_dec (p := (k : Int) < (l.length : Int)) false (by kernel_rfl) (fun _ => by kernel_rfl) (decide_eq_false (h2)) ?_
      refine s_nil ?_
      refine fin_seq ?_
      refine ok_seq ?_
      refine ok_false (by kernel_rfl) ?_
      refine ok_exit ?_
      refine fin_seq_exit ?_
      refine fin_round_exit ?_
      refine fin_block_exit ?_
      refine fin_seq ?_
      refine ok_seq ?_
      refine ok_region ?_
      refine s_val (v) (by kernel_rfl) (fun _ => by kernel_rfl) ?_
      refine s_load 0 ⟨b1, (cutV fc).cells, 48⟩ (off := 0) (.agg #[.int .i64 fc.e, .int .i64 fc.v.maj, .int .i64 fc.v.min, .int .i64 fc.v.pat, .string (mkS fc.v.pre), .string (mkS fc.v.build), .bool fc.aft]) (by kernel_rfl) rfl (by kernel_rfl) (by kernel_rfl) (by kernel_rfl) ?_
      refine s_val (.agg #[.int .i64 1, .int .i64 0, .int .i64 0, .int .i64 0, .string ⟨#[]⟩, .string ⟨#[]⟩, .bool false]) (by kernel_rfl) (fun _ => by kernel_rfl) ?_
      refine s_callo (k := 105) (args := #[v, cutV fc, cutV (endC 1)]) (fun v' L' => ∃ ob', L' = [⟨b1, (cutV fc).cells, 48⟩] ++ ob' ∧ SlS v' (addL out fc (endC 1)) ob') (by kernel_rfl) (fun _ => by kernel_rfl) (fun w hO => add_call (E := [⟨b1, (cutV fc).cells, 48⟩]) fc (endC 1) hO hrel.sl (by omega) hrel.short hrel.fs (end_short 1)) (fun v3 L2 hv2 => ?_)
      obtain ⟨ob3, rfl, hs3⟩ := hv2
      refine s_callo (k := 84) (args := #[v3]) (fun v' L' => ∃ ob', L' = [⟨b1, (cutV fc).cells, 48⟩] ++ ob' ∧ SlS v' (addL out fc (endC 1)) ob') (by kernel_rfl) (fun _ => by kernel_rfl) (fun w hO => unshare_call (E := [⟨b1, (cutV fc).cells, 48⟩]) hO hs3 (by have := add_len out fc (endC 1); omega) (add_short hrel.short hrel.fs (end_short 1))) (fun v4 L2 hv2 => ?_)
      obtain ⟨ob4, rfl, hs4⟩ := hv2
      refine s_val (v4) (by kernel_rfl) (fun _ => by kernel_rfl) ?_
      refine s_nil ?_
      refine fin_seq ?_
      refine ok_ret ?_
      refine fin_ret (v4) Tryz.results70 (by kernel_rfl) ?_
      exact fun w hO => ⟨v4, ob4, rfl, by rw [if_pos rfl, show notL l = addL out fc (endC 1) from by rw [← notG_eq h1]; unfold notG; have he := hrel.eq; rw [List.take_of_length_le (by omega)] at he; rw [he]]; exact hs4, Own.sub [_] hO⟩
  | false =>
    refine s_val (.bool true) (by kernel_rfl) (fun _ => by kernel_rfl) ?_
    refine s_nil ?_
    refine fin_seq ?_
    refine ok_true (by kernel_rfl) ?_
    refine ok_seq ?_
    refine ok_region ?_
    refine s_val (.slice none 0 0) (by kernel_rfl) (fun _ => by kernel_rfl) ?_
    refine s_nil ?_
    refine fin_seq ?_
    refine ok_ret ?_
    refine fin_seq_ret ?_
    refine fin_ret (.slice none 0 0) Tryz.results70 (by kernel_rfl) ?_
    exact fun w hO => ⟨_, [], rfl, by rw [if_neg (by decide)]; exact Sl.nil _ _, by simpa using hO⟩
end Go.Proofs.YtgeccfdofmnphaaGreat
end

section
/-
  slices.SortFunc of valid spans by their beginnings: a permutation of them, sorted. (By the library's contract of slices.SortFunc at a struct.)
-/
namespace Go.Proofs.YtgeccfdofmnphaaGreat
open Go.RowKit
set_option maxRecDepth 100000
set_option linter.unusedVariables false
set_option linter.unusedSimpArgs false
set_option maxHeartbeats 2000000


abbrev VSp := {s : Sp // s.may = true ∧ s.short}
instance : Inhabited VSp := ⟨⟨⟨endC (-1), endC 1⟩, by decide, end_short _, end_short _⟩⟩
def encV (x : VSp) : List Value := spanC x.1
def cfV (x y : VSp) : Int := cmpC x.1.lo y.1.lo
theorem swoV : Go.Sort.SWO (ltOf cfV) := by
  have ml : ∀ x : VSp, x.1.lo.may = true := fun x => (span_mays x.2.1).1
  refine ⟨fun x => ?_, fun x y z h1 h2 => ?_, fun x y z h1 h2 => ?_⟩
  · unfold ltOf cfV; rw [cut_self]; rfl
  · unfold ltOf cfV at *
    rw [decide_eq_true_eq] at *
    exact clt_trans (ml x) (ml y) (ml z) h1 h2
  · unfold ltOf cfV at *
    rw [decide_eq_false_iff_not] at *
    have := cle_trans (ml z) (ml y) (ml x) (cle_flip h2) (cle_flip h1)
    have h3 := cut_anti (a := x.1.lo) (b := z.1.lo)
    omega
theorem make1_any (s t : Sp) (W : World) (hs : s.short) (ht : t.short) :
    Calls Tryz.prog 82 #[spanV s, spanV t] W fun e w' => e = .returned (.int .i64 (cmpC s.lo t.lo)) ∧ Below W.heap.size W w' := by
  refine calls_ok (n := 10) Tryz.func82 rfl (by kernel_rfl) (by kernel_rfl) ?_
  refine ok_seq ?_
  refine ok_region ?_
  refine s_box (spanV s) (by kernel_rfl) rfl (by kernel_rfl) (fun b1 => ?_)
  refine s_box (spanV t) (by kernel_rfl) rfl (by kernel_rfl) (fun b2 => ?_)
  refine s_val (.int .i64 0) (by kernel_rfl) (fun _ => by kernel_rfl) ?_
  refine s_nil ?_
  refine fin_seq ?_
  refine ok_seq ?_
  refine ok_region ?_
  refine s_val (.pointer (some ⟨b1, 0, none⟩)) (by kernel_rfl) (fun _ => by kernel_rfl) ?_
  refine s_load 1 ⟨b1, (spanV s).cells, 50⟩ (off := 0) (.agg #[.int .i64 s.lo.e, .int .i64 s.lo.v.maj, .int .i64 s.lo.v.min, .int .i64 s.lo.v.pat, .string (mkS s.lo.v.pre), .string (mkS s.lo.v.build), .bool s.lo.aft]) (by kernel_rfl) rfl (by kernel_rfl) (by kernel_rfl) (by kernel_rfl) ?_
  refine s_val (.pointer (some ⟨b2, 0, none⟩)) (by kernel_rfl) (fun _ => by kernel_rfl) ?_
  refine s_load 0 ⟨b2, (spanV t).cells, 50⟩ (off := 0) (.agg #[.int .i64 t.lo.e, .int .i64 t.lo.v.maj, .int .i64 t.lo.v.min, .int .i64 t.lo.v.pat, .string (mkS t.lo.v.pre), .string (mkS t.lo.v.build), .bool t.lo.aft]) (by kernel_rfl) rfl (by kernel_rfl) (by kernel_rfl) (by kernel_rfl) ?_
  refine s_call (k := 78) (args := #[.agg #[.int .i64 s.lo.e, .int .i64 s.lo.v.maj, .int .i64 s.lo.v.min, .int .i64 s.lo.v.pat, .string (mkS s.lo.v.pre), .string (mkS s.lo.v.build), .bool s.lo.aft], .agg #[.int .i64 t.lo.e, .int .i64 t.lo.v.maj, .int .i64 t.lo.v.min, .int .i64 t.lo.v.pat, .string (mkS t.lo.v.pre), .string (mkS t.lo.v.build), .bool t.lo.aft]]) (.int .i64 (cmpC s.lo t.lo)) (by kernel_rfl) (fun _ => by kernel_rfl) (fun w _ => cmpC_any s.lo t.lo w hs.1 ht.1) ?_
  refine s_val (.int .i64 (cmpC s.lo t.lo)) (by kernel_rfl) (fun _ => by kernel_rfl) ?_
  refine s_nil ?_
  refine fin_seq ?_
  refine ok_ret ?_
  refine fin_ret (.int .i64 (cmpC s.lo t.lo)) Tryz.results82 (by kernel_rfl) ?_
  exact fun w hO => ⟨rfl, hO.below⟩
theorem lays4 (blk off size : Nat) (w : World) : CmpLays Tryz.prog 82 #[] encV 14 cfV blk off size w := fun m os dk _ x y =>
  (make1_any x.1 y.1 _ x.2.2 y.2.2).mono fun e w' ⟨h1, h2⟩ => ⟨h1, h2.asGrow⟩
theorem flatK_list (d : Array VSp) : (Go.Sort.flatK encV 14 d).toList = d.toList.flatMap encV := by
  apply List.ext_getElem?
  intro t
  have hlen : (d.toList.flatMap encV).length = d.size * 14 := by rw [flat_len (g := encV) (sz := 14) (fun x : VSp => spanC_len x.1)]; simp
  by_cases ht : t < d.size * 14
  · have hk : t / 14 < d.toList.length := by simp; omega
    have h1 : (Go.Sort.flatK encV 14 d).toList[t]? = some (Go.Sort.flatK encV 14 d)[t]! := by
      rw [getElem!_pos _ t (by simpa using ht), Array.getElem?_toList, Array.getElem?_eq_getElem (by simpa using ht)]
    have h2 := flat_at (g := encV) (sz := 14) (fun x : VSp => spanC_len x.1) d.toList (t / 14) hk
    have h3 : (d.toList.flatMap encV)[t]? = (encV d.toList[t / 14])[t % 14]? := by
      have e : t = t / 14 * 14 + t % 14 := by omega
      have hm : t % 14 < 14 := Nat.mod_lt _ (by decide)
      rw [← h2, List.getElem?_take, if_pos hm, List.getElem?_drop, ← e]
    rw [h1, h3, Go.Sort.get_flatK encV 14 d t ht]
    have hd : d[t / 14]! = d.toList[t / 14] := by rw [getElem!_pos d (t / 14) (by simpa using hk)]; simp
    have hlt : t % 14 < (encV d.toList[t / 14]).length := by rw [show (encV d.toList[t / 14]).length = 14 from spanC_len _]; exact Nat.mod_lt _ (by decide)
    rw [hd, List.getElem?_eq_getElem hlt, getElem!_pos (encV d.toList[t / 14]) (t % 14) hlt]
  · rw [List.getElem?_eq_none (by simpa using Nat.le_of_not_lt ht), List.getElem?_eq_none (by rw [hlen]; omega)]
theorem take_put (cur F : Array Value) (h : F.size ≤ cur.size) : (Go.Sort.putCells id 0 F cur).toList.take F.size = F.toList := by
  apply List.ext_getElem?
  intro j
  by_cases hj : j < F.size
  · rw [List.getElem?_take_of_lt hj, Array.getElem?_toList]
    simp [Go.Sort.putCells, hj, show j < cur.size by omega]
  · rw [List.getElem?_take_eq_none (by omega), List.getElem?_eq_none (by simp; omega)]
theorem size_put (cur F : Array Value) : (Go.Sort.putCells id 0 F cur).size = cur.size := by simp [Go.Sort.putCells]
theorem perm_val {l m : List VSp} (h : l.Perm m) : (l.map (·.1)).Perm (m.map (·.1)) := h.map _
theorem sorted_of (l : List VSp) (h : ∀ i j (hi : i < j) (hj : j < l.length), ¬ cmpC l[j].1.lo (l[i]'(by omega)).1.lo < 0) : SortedC (l.map (·.1)) := by
  induction l with
  | nil => trivial
  | cons s r ih =>
    refine ⟨fun t ht => ?_, ih fun i j hi hj => h (i + 1) (j + 1) (by omega) (by simpa using hj)⟩
    obtain ⟨y, hy, rfl⟩ := List.mem_map.1 ht
    obtain ⟨j, hj, rfl⟩ := List.mem_iff_getElem.1 hy
    exact cle_flip (h 0 (j + 1) (by omega) (by simpa using hj))
theorem lift_list (l : List Sp) (hm : ∀ s ∈ l, s.may = true ∧ s.short) : ∃ m : List VSp, m.map (·.1) = l := by
  induction l with
  | nil => exact ⟨[], rfl⟩
  | cons s r ih =>
    obtain ⟨m, e⟩ := ih (fun t ht => hm t (List.mem_cons_of_mem _ ht))
    exact ⟨⟨s, hm s (List.mem_cons_self ..)⟩ :: m, by rw [List.map_cons, e]⟩
theorem sort_any (g cap : Nat) (cur : Array Value) (l : List Sp) (W : World) (hm : ∀ s ∈ l, s.may = true ∧ s.short) (hO : Own [g] W W [⟨g, cur, 50⟩]) (hcap : l.length ≤ cap) (hmax : cap ≤ maxLen) (hsz : cur.size = cap * 14) (hcur : cur.toList.take (l.length * 14) = l.flatMap spanC) (hn : l.length ≤ 1000000) :
    Calls Tryz.prog 81 #[.slice (some ⟨g, 0, none⟩) l.length cap, .func (.func 82) #[] #[]] W fun e w' =>
      e = .returned (.tuple #[]) ∧ ∃ l' cur', l'.Perm l ∧ SortedC l' ∧ cur'.size = cap * 14 ∧ cur'.toList.take (l.length * 14) = l'.flatMap spanC ∧ Own [g] W w' [⟨g, cur', 50⟩] := by
  obtain ⟨m, rfl⟩ := lift_list l hm
  have hlen : (m.map (·.1)).length = m.toArray.size := by simp
  have hg : W.heap[g]? = some (.cells cur 50) := hO.held _ List.mem_cons_self
  have hglt : g < W.heap.size := hO.lt (x := ⟨g, cur, 50⟩) List.mem_cons_self
  have hflat : (m.map (·.1)).flatMap spanC = m.flatMap encV := by rw [List.flatMap_map]; rfl
  have hH : Go.Sort.HoldsK encV 14 W g 0 m.toArray := by
    intro j hj
    have hj' : j < m.length * 14 := by simpa using hj
    have e : (Go.Sort.flatK encV 14 m.toArray).toList[j]? = cur.toList[j]? := by
      rw [flatK_list, show m.toArray.toList = m from by simp, ← hflat, ← hcur, List.getElem?_take, if_pos (by simpa using hj')]
    have e2 : cur[j]? = some (Go.Sort.flatK encV 14 m.toArray)[j]! := by
      rw [← Array.getElem?_toList, ← e, Array.getElem?_toList, Array.getElem?_eq_getElem hj, getElem!_pos _ j hj]
    refine ⟨?_, by simp [World.frozen?, hg]⟩
    simp only [World.cell?, hg, Nat.zero_add]
    simpa using e2
  have hcon := Tryz.slices_SortFunc 14 Tryz.isAgg50 Tryz.sizeOf50 encV (fun x => spanC_len x.1) (fun x v hv => span_cells x.1 v hv) cfV swoV 82 #[] g 0 cap m.toArray W
    (enters_of Tryz.func82 (by kernel_rfl) rfl) (lays4 g 0 m.toArray.size W) hH hglt (by simp at hlen ⊢; rw [List.length_map] at hn; omega)
  rw [hlen]
  change Calls Tryz.prog 81 _ _ _ at hcon
  refine hcon.mono fun e w' ⟨he, d', n, os, hp, hs, hw⟩ => ⟨he, d'.toList.map (·.1), Go.Sort.putCells id 0 (Go.Sort.flatK encV 14 d') cur, ?_, ?_, ?_, ?_, ?_⟩
  · have h2 := hp.2.2
    have hsz2 := hp.1
    rw [show d'.extract 0 m.toArray.size = d' from by rw [← hsz2]; simp, show m.toArray.extract 0 m.toArray.size = m.toArray from by simp] at h2
    have := perm_val h2
    simpa using this
  · refine sorted_of _ fun i j hi hj => ?_
    have hj' : j < d'.size := by simpa using hj
    have := hs i j (Nat.zero_le _) hi (by rw [← hp.1]; exact hj')
    unfold ltOf cfV at this
    rw [decide_eq_false_iff_not, getElem!_pos d' j hj', getElem!_pos d' i (by omega)] at this
    simpa using this
  · rw [size_put]; exact hsz
  · have hF : (Go.Sort.flatK encV 14 d').size = m.toArray.size * 14 := by rw [Go.Sort.size_flatK, hp.1]
    have := take_put cur (Go.Sort.flatK encV 14 d') (by rw [hF, hsz, ← hlen]; exact Nat.mul_le_mul_right _ hcap)
    rw [hF, flatK_list] at this
    rw [this, List.flatMap_map]; rfl
  · subst hw
    have hheap : ∀ k, k < W.heap.size → (sortWorldK encV 14 W g 0 n d' os).heap[k]? = (Go.Sort.putRowK encV 14 (Go.Sort.ahead W n) g 0 d').heap[k]? := fun k hk => by
      show ((Go.Sort.putRowK encV 14 (Go.Sort.ahead W n) g 0 d').heap ++ os)[k]? = _
      rw [Array.getElem?_append_left (by rw [Go.Sort.size_putRowK]; exact hk)]
    refine ⟨rfl, rfl, rfl, ?_, Nat.le_add_right _ _, fun k hk hne => ?_, fun x hx => ?_, fun x hx => .inr (by rw [List.mem_singleton] at hx; rw [hx]; exact List.mem_singleton_self _), by simp⟩
    · show W.heap.size ≤ ((Go.Sort.putRowK encV 14 (Go.Sort.ahead W n) g 0 d').heap ++ os).size
      rw [Array.size_append, Go.Sort.size_putRowK]; exact Nat.le_add_right _ _
    · rw [hheap k hk]
      have hne' : g ≠ k := fun e => hne (by simp [e])
      simp [Go.Sort.putRowK, Go.Sort.putRow, Go.Sort.mapBlock, Go.Sort.ahead, Array.getElem?_modify, hne']
    · obtain rfl : x = _ := by simpa using hx
      show (sortWorldK encV 14 W g 0 n d' os).heap[g]? = _
      rw [hheap g hglt]
      simp [Go.Sort.putRowK, Go.Sort.putRow, Go.Sort.mapBlock, Go.Sort.ahead, Array.getElem?_modify, hg, Go.Sort.onCells]
end Go.Proofs.YtgeccfdofmnphaaGreat
end

section
/-
  slices.Clone of spans; the sort, of a caller that holds other blocks; package row's Make.
-/
namespace Go.Proofs.YtgeccfdofmnphaaGreat
open Go.RowKit
set_option maxRecDepth 100000
set_option linter.unusedVariables false
set_option linter.unusedSimpArgs false
set_option maxHeartbeats 2000000


theorem clone4_any (A : Option Addr) (cap : Nat) (l : List Sp) (W : World) (hv : Reads spanC W W.heap.size A l) (hn : l.length ≤ 1000000) :
    Calls Tryz.prog 80 #[.slice A l.length cap] W fun e w' => ∃ v' ob', e = .returned v' ∧ SlS v' l ob' ∧ Own [] W w' ob' := by
  cases A with
  | none =>
    obtain rfl : l = [] := by
      cases l with
      | nil => rfl
      | cons x r => obtain ⟨b, off, e, _⟩ := hv (by simp); cases e
    refine calls_ok (n := 8) Tryz.func80 rfl (by kernel_rfl) (by kernel_rfl) ?_
    refine ok_seq ?_
    refine ok_region ?_
    refine s_val (.slice none 0 0) (by kernel_rfl) (fun _ => by kernel_rfl) ?_
    refine s_nil ?_
    refine fin_seq ?_
    refine ok_seq ?_
    refine ok_seq ?_
    refine ok_region ?_
    refine s_val (.slice none (([] : List Sp).length) cap) (by kernel_rfl) (fun _ => by kernel_rfl) ?_
    refine s_val (.bool true) (by kernel_rfl) (fun _ => by kernel_rfl) ?_
    refine s_nil ?_
    refine fin_seq ?_
    refine ok_true (by kernel_rfl) ?_
    refine ok_seq ?_
    refine ok_region ?_
    refine s_val (.slice none 0 0) (by kernel_rfl) (fun _ => by kernel_rfl) ?_
    refine s_nil ?_
    refine fin_seq ?_
    refine ok_ret ?_
    refine fin_seq_ret ?_
    refine fin_ret (.slice none 0 0) Tryz.results80 (by kernel_rfl) ?_
    exact fun w hO => ⟨_, [], rfl, Sl.nil _ _, by simpa using hO⟩
  | some a =>
    refine calls_ok (n := 8) Tryz.func80 rfl (by kernel_rfl) (by kernel_rfl) ?_
    refine ok_seq ?_
    refine ok_region ?_
    refine s_val (.slice none 0 0) (by kernel_rfl) (fun _ => by kernel_rfl) ?_
    refine s_nil ?_
    refine fin_seq ?_
    refine ok_seq ?_
    refine ok_seq ?_
    refine ok_region ?_
    refine s_val (.slice (some a) l.length cap) (by kernel_rfl) (fun _ => by kernel_rfl) ?_
    refine s_val (.bool false) (by kernel_rfl) (fun _ => by kernel_rfl) ?_
    refine s_nil ?_
    refine fin_seq ?_
    refine ok_false (by kernel_rfl) ?_
    refine ok_skip ?_
    refine fin_seq ?_
    refine ok_seq ?_
    refine ok_region ?_
    refine s_lit 50 #[] (by kernel_rfl) rfl (fun _ => by kernel_rfl) (fun b1 => ?_)
    refine s_val (.slice (some a) l.length cap) (by kernel_rfl) (fun _ => by kernel_rfl) ?_
    obtain ⟨i, z, e1, e2, e3, e4, e5⟩ := span_info
    refine s_cast (L' := [] ++ [⟨b1, #[], 50⟩] ++ []) rfl ?_
    refine s_appendR (E := []) (ob := [⟨b1, #[], 50⟩]) (L0 := []) (sz := 14) (l := l) (A := some a) (c := cap) (n := 0) (xs := []) spanC_len (by kernel_rfl) rfl Tryz.underlying22 e1 e2 e3 e4 (by kernel_rfl) ⟨rfl, .inr ⟨b1, 0, #[], rfl, rfl, Nat.le_refl _, Nat.zero_le _, rfl, rfl⟩⟩ (by kernel_rfl) (fun w hO => hv.on hO.below hO.size) span_cells (by unfold maxLen; omega) (by rw [e5]; omega) (fun va oa hva => ?_)
    refine s_val (va) (by kernel_rfl) (fun _ => by kernel_rfl) ?_
    refine s_nil ?_
    refine fin_seq ?_
    refine ok_ret ?_
    refine fin_ret (va) Tryz.results80 (by kernel_rfl) ?_
    exact fun w hO => ⟨va, oa, rfl, hva.to (by simp) (by simp), by simpa using hO⟩
theorem sort_call {M : List Nat} {W w : World} {v : Value} {l : List Sp} {E ob : List Blk} (hO : Own M W w (E ++ ob)) (hv : SlS v l ob) (hn : l.length ≤ 1000000) (hm : ∀ s ∈ l, s.may = true ∧ s.short) :
    Calls Tryz.prog 81 #[v, .func (.func 82) #[] #[]] w fun e w' => ∃ v' L', e = .returned v' ∧ (∃ l' ob', v' = .tuple #[] ∧ L' = E ++ ob' ∧ l'.Perm l ∧ SortedC l' ∧ SlS v l' ob') ∧ Own M W w' L' := by
  obtain ⟨A, cap, rfl⟩ := hv.form
  by_cases h0 : l.length = 0
  · obtain rfl : l = [] := List.eq_nil_of_length_eq_zero h0
    have h := Tryz.slices_SortFunc_none (α := Nat) A cap (.func (.func 82) #[] #[]) w
    change Calls Tryz.prog 81 _ _ _ at h
    exact h.mono fun e w' ⟨h1, h2⟩ => ⟨_, E ++ ob, h1, ⟨[], ob, rfl, rfl, List.Perm.refl _, trivial, hv⟩, h2 ▸ hO⟩
  · unfold SlS at hv
    obtain ⟨g, cur, rfl, rfl, hcap, hmax, hsz, hcur⟩ := hv.block (by omega)
    refine (sort_any g cap cur l w hm (Own.lend (hO.sub E)) hcap hmax hsz hcur hn).mono fun e w' ⟨h1, l', cur', h2, h3, h4, h5, h6⟩ => ⟨_, E ++ [⟨g, cur', 50⟩], h1, ⟨l', _, rfl, rfl, h2, h3, ?_⟩, ?_⟩
    · unfold SlS
      have hl := h2.length_eq
      rw [← hl] at h5 hcap ⊢
      exact ⟨by rw [flat_len spanC_len], .inr ⟨g, cap, cur', rfl, rfl, hcap, hmax, h4, h5⟩⟩
    · have hp : Own M W w ([⟨g, cur, 50⟩] ++ E) := hO.perm List.perm_append_comm
      exact (Own.join hp h6).perm List.perm_append_comm
structure Merged (d : List Sp) (k : Nat) (V : Option Addr) (c : Nat) (out : List Sp) (ob : List Blk) : Prop where
  le : k ≤ d.length
  sl : Sl 50 14 (.slice V out.length c) out.length (out.flatMap spanC) ob
  len : out.length ≤ k
  short : ShortL out
  eq : (d.take k).foldl mstep [] = out
theorem Merged.start (d : List Sp) : Merged d 0 none 0 [] [] := ⟨Nat.zero_le _, Sl.nil _ _, Nat.le_refl _, fun s hs => by simp at hs, by rw [List.take_zero]; rfl⟩
theorem mstep_app {out : List Sp} {s : Sp} (h : ∀ t ∈ out.getLast?, cmpC t.hi s.lo < 0) : mstep out s = out ++ [s] := by
  unfold mstep
  cases hg : out.getLast? with
  | none => have : out = [] := by simpa using hg
            subst this; rfl
  | some t => dsimp only; rw [if_pos (h t hg)]
theorem mstep_set {out : List Sp} {s t : Sp} (h0 : 0 < out.length) (ht : out[out.length - 1]'(by omega) = t) (h : ¬ cmpC t.hi s.lo < 0) : mstep out s = out.set (out.length - 1) ⟨t.lo, maxC t.hi s.hi⟩ := by
  have hg : out.getLast? = some t := by rw [List.getLast?_eq_getElem?, List.getElem?_eq_getElem (by omega), ht]
  unfold mstep
  rw [hg]
  dsimp only
  rw [if_neg h, List.dropLast_eq_take, List.set_eq_take_append_cons_drop, if_pos (by omega), List.drop_of_length_le (by omega)]
theorem mstep_short {out : List Sp} {s : Sp} (ho : ShortL out) (hs : s.short) : ShortL (mstep out s) := by
  unfold mstep
  split
  · intro x hx; obtain rfl : x = _ := by simpa using hx
    exact hs
  · rename_i t ht
    split
    · intro x hx
      rcases List.mem_append.1 hx with h | h
      · exact ho x h
      · obtain rfl : x = _ := by simpa using h
        exact hs
    · intro x hx
      rcases List.mem_append.1 hx with h | h
      · exact ho x (List.dropLast_subset _ h)
      · obtain rfl : x = _ := by simpa using h
        exact ⟨(ho t (List.mem_of_getLast? ht)).1, maxC_short (ho t (List.mem_of_getLast? ht)).2 hs.2⟩
theorem Merged.step {d : List Sp} {k : Nat} {V V2 : Option Addr} {c c2 : Nat} {out out2 : List Sp} {ob ob2 : List Blk} (h : Merged d k V c out ob) (hk : k < d.length) {s : Sp} (hs : d[k] = s) (hss : s.short) (he : mstep out s = out2) (h2 : Sl 50 14 (.slice V2 out2.length c2) out2.length (out2.flatMap spanC) ob2) : Merged d (k + 1) V2 c2 out2 ob2 :=
  ⟨by omega, h2, by have := h.len; have := mstep_len out s; rw [he] at this; omega, he ▸ mstep_short h.short hss, by rw [List.take_succ_eq_append_getElem hk, List.foldl_append, h.eq, hs]; exact he⟩
end Go.Proofs.YtgeccfdofmnphaaGreat
end

section
/-
  Package row's Make.
-/
namespace Go.Proofs.YtgeccfdofmnphaaGreat
open Go.RowKit
set_option maxRecDepth 100000
set_option linter.unusedVariables false
set_option linter.unusedSimpArgs false
set_option maxHeartbeats 2000000


set_option maxHeartbeats 4000000 in
theorem make4_any (A : Option Addr) (cap : Nat) (l : List Sp) (W : World) (hv : Reads spanC W W.heap.size A l) (hn : l.length ≤ 300000) (hl : ShortL l) :
    Calls Tryz.prog 45 #[.slice A l.length cap] W fun e w' => ∃ v' ob', e = .returned (.tuple #[v', .bool (allMay l)]) ∧ SlS v' (if allMay l then makeL l else []) ob' ∧ Own [] W w' ob' := by
  refine calls_ok (n := 69) Tryz.func45 rfl (by kernel_rfl) (by kernel_rfl) ?_
  refine ok_seq ?_
  refine ok_region ?_
  refine s_val (.slice none 0 0) (by kernel_rfl) (fun _ => by kernel_rfl) ?_
  refine s_val (.bool false) (by kernel_rfl) (fun _ => by kernel_rfl) ?_
  refine s_nil ?_
  refine fin_seq ?_
  refine ok_seq ?_
  refine ok_seq ?_
  refine ok_region ?_
  refine s_val (.slice A l.length cap) (by kernel_rfl) (fun _ => by kernel_rfl) ?_
  refine s_val (.int .i64 (l.length : Int)) (by kernel_rfl) (fun _ => by kernel_rfl) ?_
  refine s_val (.int .i64 0) (by kernel_rfl) (fun _ => by kernel_rfl) ?_
  refine s_nil ?_
  refine fin_seq ?_
  refine ok_block ?_
  refine ok_loop (fun L f m => ∃ (k : Nat) (j : Nat → Value), (k ≤ l.length ∧ allMay (l.take k) = true) ∧ L = [] ∧ f = upds j [(0, .slice A l.length cap), (11, .slice A l.length cap), (12, .int .i64 (l.length : Int)), (13, .int .i64 (k : Int))] ∧ m = l.length - k) (l.length - 0) ⟨0, _, ⟨Nat.zero_le _, by rw [List.take_zero]; rfl⟩, rfl, upds_self _ ⟨by kernel_rfl, by kernel_rfl, by kernel_rfl, by kernel_rfl, trivial⟩, rfl⟩ ?_
  rintro L f m ⟨k, j, hrel, rfl, rfl, rfl⟩
  have hkl := hrel.1
  refine ok_seq ?_
  refine ok_region ?_
  by_cases h1 : (k : Int) < (l.length : Int)
  · skip
    have hk : k < l.length := by omega
    obtain ⟨b, off, hA, hlt, hcell⟩ := hv (by omega)
    obtain ⟨s, hs⟩ : ∃ s, l[k] = s := ⟨_, rfl⟩
    have hsk : s.short := hs ▸ hl _ (List.getElem_mem _)
    refine s_dec (p := (k : Int) < (l.length : Int)) true (by kernel_rfl) (fun _ => by kernel_rfl) (decide_eq_true (h1)) ?_
    refine s_nil ?_
    refine fin_seq ?_
    refine ok_seq ?_
    refine ok_true (by kernel_rfl) ?_
    refine ok_skip ?_
    refine fin_seq ?_
    refine ok_seq ?_
    refine ok_block ?_
    refine ok_seq ?_
    refine ok_region ?_
    refine s_val (.pointer (some ⟨b, off + k * 14, none⟩)) (by kernel_rfl) (run_ixA (b := b) (off := off) (c := cap) (n := l.length) (k := .i64) (j := (k : Int)) (e := 50) (sz := 14) rfl (by kernel_rfl) hA (by kernel_rfl) (by kernel_rfl) (by kernel_rfl) (by omega) (by omega) (by omega)) ?_
    refine s_old (spanV s) (a := ⟨b, off + k * 14, none⟩) (by kernel_rfl) rfl (by kernel_rfl) (fun w hO => elem_load spanC_len (fun j u h => (hO.below.cell (p := ⟨b, off + j, none⟩) hlt).trans (hcell j u h)) k 0 hk (by omega) _ (by rw [hs]; kernel_rfl)) ?_
    refine s_alloc_at (.agg #[.int .i64 0, .int .i64 0, .int .i64 0, .int .i64 0, .string ⟨#[]⟩, .string ⟨#[]⟩, .bool false, .int .i64 0, .int .i64 0, .int .i64 0, .int .i64 0, .string ⟨#[]⟩, .string ⟨#[]⟩, .bool false]) (by kernel_rfl) rfl (by kernel_rfl) (fun b1 => ?_)
    refine s_store_at 0 ⟨b1, #[.int .i64 0, .int .i64 0, .int .i64 0, .int .i64 0, .string ⟨#[]⟩, .string ⟨#[]⟩, .bool false, .int .i64 0, .int .i64 0, .int .i64 0, .int .i64 0, .string ⟨#[]⟩, .string ⟨#[]⟩, .bool false], 50⟩ (off := 0) (spanV s) (by kernel_rfl) rfl rfl (by kernel_rfl) (by kernel_rfl) (by kernel_rfl) (by kernel_rfl) (by kernel_rfl) ?_
    refine s_nil ?_
    refine fin_seq ?_
    refine ok_seq ?_
    refine ok_region ?_
    refine s_load 0 ⟨b1, (spanV s).cells, 50⟩ (off := 0) (spanV s) (by kernel_rfl) rfl (by kernel_rfl) (by kernel_rfl) (by kernel_rfl) ?_
    refine s_call (k := 44) (args := #[spanV s]) (.bool s.may) (by kernel_rfl) (fun _ => by kernel_rfl) (fun w _ => spanMay_any s w hsk) ?_
    cases h2 : s.may with
    | true =>
      refine s_val (.bool false) (by kernel_rfl) (fun _ => by kernel_rfl) ?_
      refine s_nil ?_
      refine fin_seq ?_
      refine ok_false (by kernel_rfl) ?_
      refine ok_skip ?_
      refine fin_block ?_
      refine fin_seq ?_
      refine ok_region ?_
      refine s_sum (k := .i64) (((k + 1 : Nat) : Int)) (by kernel_rfl) (fun _ => by kernel_rfl) (IntWalk.i64_in _ (by omega)) ?_
      refine s_val (.int .i64 ((k + 1 : Nat) : Int)) (by kernel_rfl) (fun _ => by kernel_rfl) ?_
      refine s_nil ?_
      have hnext : allMay (l.take (k + 1)) = true := allMay_take l k hk hrel.2 (by rw [hs]; assumption)
      refine fin_take (fun w hO => Own.sub [_] hO) ?_
      exact fin_round (m' := l.length - (k + 1)) (by omega) ⟨k + 1, _, ⟨by omega, hnext⟩, rfl, upds_self _ ⟨by kernel_rfl, by kernel_rfl, by kernel_rfl, by kernel_rfl, trivial⟩, rfl⟩
    | false =>
      refine s_val (.bool true) (by kernel_rfl) (fun _ => by kernel_rfl) ?_
      refine s_nil ?_
      refine fin_seq ?_
      refine ok_true (by kernel_rfl) ?_
      refine ok_seq ?_
      refine ok_region ?_
      refine s_val (.slice none 0 0) (by kernel_rfl) (fun _ => by kernel_rfl) ?_
      refine s_val (.bool false) (by kernel_rfl) (fun _ => by kernel_rfl) ?_
      refine s_nil ?_
      refine fin_seq ?_
      refine ok_ret ?_
      refine fin_block_ret ?_
      refine fin_seq_ret ?_
      refine fin_round_ret ?_
      refine fin_block_ret ?_
      refine fin_seq_ret ?_
      refine fin_ret2 (.slice none 0 0) (.bool false) Tryz.results45 (by kernel_rfl) (by kernel_rfl) ?_
      exact fun w hO => ⟨_, [], by rw [allMay_not l k hk (by rw [hs]; assumption)], by rw [allMay_not l k hk (by rw [hs]; assumption), if_neg (by decide)]; exact Sl.nil _ _, Own.take hO (by simp) (by simp)⟩
  · skip
    have hall : allMay l = true := by have h := hrel.2; rwa [List.take_of_length_le (by omega)] at h
    refine s_dec (p := (k : Int) < (l.length : Int)) false (by kernel_rfl) (fun _ => by kernel_rfl) (decide_eq_false (h1)) ?_
    refine s_nil ?_
    refine fin_seq ?_
    refine ok_seq ?_
    refine ok_false (by kernel_rfl) ?_
    refine ok_exit ?_
    refine fin_seq_exit ?_
    refine fin_round_exit ?_
    refine fin_block_exit ?_
    refine fin_seq ?_
    refine ok_seq ?_
    refine ok_region ?_
    refine s_val (.slice A l.length cap) (by kernel_rfl) (fun _ => by kernel_rfl) ?_
    refine s_callo (k := 80) (args := #[.slice A l.length cap]) (fun v' L' => SlS v' l L') (by kernel_rfl) (fun _ => by kernel_rfl) (fun w hO => (clone4_any A cap l w (hv.on hO.below hO.size) (by omega)).mono fun e w' ⟨v', ob', h1, h2, h3⟩ => ⟨v', ob', h1, h2, by simpa using Own.joinN hO h3⟩) (fun cv oc hcv => ?_)
    obtain ⟨B, capb, rfl⟩ := hcv.form
    refine s_val (.slice B l.length capb) (by kernel_rfl) (fun _ => by kernel_rfl) ?_
    refine s_nil ?_
    refine fin_seq ?_
    refine ok_seq ?_
    refine ok_region ?_
    refine s_val (.slice B l.length capb) (by kernel_rfl) (fun _ => by kernel_rfl) ?_
    refine s_callo (k := 81) (args := #[.slice B l.length capb, .func (.func 82) #[] #[]]) (fun v' L' => ∃ l', v' = .tuple #[] ∧ l'.Perm l ∧ SortedC l' ∧ SlS (.slice B l.length capb) l' L') (by kernel_rfl) (fun _ => by kernel_rfl) (fun w hO => (sort_call (E := []) hO hcv (by omega) (fun s hs => ⟨allMay_mem.1 hall s hs, hl s hs⟩)).mono fun e w' ⟨v', L', k1, ⟨l', ob', k2, k3, k4, k5, k6⟩, k7⟩ => ⟨v', L', k1, ⟨l', k2, k4, k5, by subst k3; exact k6⟩, k7⟩) (fun v5 od hv5 => ?_)
    obtain ⟨d, rfl, hdp, hdso, hds⟩ := hv5
    have hdl : d.length = l.length := hdp.length_eq
    have hdm : ∀ s ∈ d, s.may = true ∧ s.short := fun s hs => ⟨allMay_mem.1 hall s (hdp.mem_iff.1 hs), hl s (hdp.mem_iff.1 hs)⟩
    unfold SlS at hds
    rw [← hdl] at hds ⊢
    refine s_cast (L' := od ++ []) (by simp) ?_
    refine s_nil ?_
    refine fin_seq ?_
    refine ok_seq ?_
    refine ok_region ?_
    refine s_val (.slice none 0 0) (by kernel_rfl) (fun _ => by kernel_rfl) ?_
    refine s_nil ?_
    refine fin_seq ?_
    refine ok_seq ?_
    refine ok_seq ?_
    refine ok_region ?_
    refine s_val (.slice B d.length capb) (by kernel_rfl) (fun _ => by kernel_rfl) ?_
    refine s_val (.int .i64 (d.length : Int)) (by kernel_rfl) (fun _ => by kernel_rfl) ?_
    refine s_val (.int .i64 0) (by kernel_rfl) (fun _ => by kernel_rfl) ?_
    refine s_nil ?_
    refine fin_seq ?_
    refine ok_block ?_
    refine ok_loop (fun L f m => ∃ (k : Nat) (V : Option Addr) (q : Nat) (cv : Nat) (out : List Sp) (ob : List Blk) (j : Nat → Value), (q = out.length ∧ Merged d k V cv out ob) ∧ L = od ++ ob ∧ f = upds j [(7, .slice V q cv), (25, .slice B d.length capb), (26, .int .i64 (d.length : Int)), (27, .int .i64 (k : Int))] ∧ m = d.length - k) (d.length - 0) ⟨0, none, 0, 0, [], [], _, ⟨rfl, Merged.start d⟩, rfl, upds_self _ ⟨by kernel_rfl, by kernel_rfl, by kernel_rfl, by kernel_rfl, trivial⟩, rfl⟩ ?_
    rintro L f m ⟨k, V, q, cv, out, ob, j, hrel, rfl, rfl, rfl⟩
    obtain ⟨hq, hrel⟩ := hrel; subst hq; have hkl := hrel.le; have hlen := hrel.len
    refine ok_seq ?_
    refine ok_region ?_
    by_cases h3 : (k : Int) < (d.length : Int)
    · skip
      have hk : k < d.length := by omega
      obtain ⟨gb, curb, hB, rfl, hcapb, hmaxb, hszb, hcurb⟩ := Sl.block hds (by omega)
      obtain ⟨s, hs⟩ : ∃ s, d[k] = s := ⟨_, rfl⟩
      have hsk : s.short := (hdm s (hs ▸ List.getElem_mem _)).2
      refine s_dec (p := (k : Int) < (d.length : Int)) true (by kernel_rfl) (fun _ => by kernel_rfl) (decide_eq_true (h3)) ?_
      refine s_nil ?_
      refine fin_seq ?_
      refine ok_seq ?_
      refine ok_true (by kernel_rfl) ?_
      refine ok_skip ?_
      refine fin_seq ?_
      refine ok_seq ?_
      refine ok_block ?_
      refine ok_seq ?_
      refine ok_region ?_
      refine s_val (.pointer (some ⟨gb, k * 14, none⟩)) (by kernel_rfl) (run_ixA (b := gb) (off := 0) (c := capb) (n := d.length) (k := .i64) (j := (k : Int)) (e := 50) (sz := 14) rfl (by kernel_rfl) hB (by kernel_rfl) (by kernel_rfl) (by kernel_rfl) (by omega) (by omega) (by show 0 + k * 14 = k * 14; omega)) ?_
      refine s_load 0 ⟨gb, curb, 50⟩ (off := k * 14) (spanV s) (by kernel_rfl) rfl (by kernel_rfl) (by kernel_rfl) (read_part spanC_len hcurb k 0 (by omega) (by omega) _ (by rw [hs]; kernel_rfl)) ?_
      refine s_alloc_at (.agg #[.int .i64 0, .int .i64 0, .int .i64 0, .int .i64 0, .string ⟨#[]⟩, .string ⟨#[]⟩, .bool false, .int .i64 0, .int .i64 0, .int .i64 0, .int .i64 0, .string ⟨#[]⟩, .string ⟨#[]⟩, .bool false]) (by kernel_rfl) rfl (by kernel_rfl) (fun b1 => ?_)
      refine s_store_at 0 ⟨b1, #[.int .i64 0, .int .i64 0, .int .i64 0, .int .i64 0, .string ⟨#[]⟩, .string ⟨#[]⟩, .bool false, .int .i64 0, .int .i64 0, .int .i64 0, .int .i64 0, .string ⟨#[]⟩, .string ⟨#[]⟩, .bool false], 50⟩ (off := 0) (spanV s) (by kernel_rfl) rfl rfl (by kernel_rfl) (by kernel_rfl) (by kernel_rfl) (by kernel_rfl) (by kernel_rfl) ?_
      refine s_nil ?_
      refine fin_seq ?_
      refine ok_seq ?_
      refine ok_region ?_
      refine s_val (.slice V out.length cv) (by kernel_rfl) (fun _ => by kernel_rfl) ?_
      refine s_val (.int .i64 (out.length : Int)) (by kernel_rfl) (fun _ => by kernel_rfl) ?_
      refine s_sum (k := .i64) (((out.length : Int) : Int) - 1) (by kernel_rfl) (fun _ => by kernel_rfl) (IntWalk.i64_in _ (by omega)) ?_
      refine s_val (.int .i64 (((out.length : Int) : Int) - 1)) (by kernel_rfl) (fun _ => by kernel_rfl) ?_
      refine s_nil ?_
      refine fin_seq ?_
      refine ok_seq ?_
      refine ok_seq ?_
      refine ok_draw (by kernel_rfl) (by kernel_rfl) ?_
      refine q_val (.int .i64 (((out.length : Int) : Int) - 1)) (by kernel_rfl) (fun _ => by kernel_rfl) ?_
      by_cases h4 : (((out.length : Int) : Int) - 1 : Int) < 0
      · skip
        refine q_dec (p := (((out.length : Int) : Int) - 1 : Int) < 0) true (by kernel_rfl) (fun _ => by kernel_rfl) (decide_eq_true (h4)) ?_
        refine q_val (.bool true) (by kernel_rfl) (fun _ => by kernel_rfl) ?_
        refine q_skip (by kernel_rfl) ?_
        refine q_skip (by kernel_rfl) ?_
        refine q_skip (by kernel_rfl) ?_
        refine q_skip (by kernel_rfl) ?_
        refine q_skip (by kernel_rfl) ?_
        refine q_skip (by kernel_rfl) ?_
        refine q_skip (by kernel_rfl) ?_
        refine q_skip (by kernel_rfl) ?_
        refine q_skip (by kernel_rfl) ?_
        refine q_val (.bool true) (by kernel_rfl) (fun _ => by kernel_rfl) ?_
        refine q_nil ?_
        refine fin_seq ?_
        refine ok_true (by kernel_rfl) ?_
        refine ok_seq ?_
        refine ok_region ?_
        refine s_val (.slice V out.length cv) (by kernel_rfl) (fun _ => by kernel_rfl) ?_
        refine s_load 0 ⟨b1, (spanV s).cells, 50⟩ (off := 0) (spanV s) (by kernel_rfl) rfl (by kernel_rfl) (by kernel_rfl) (by kernel_rfl) ?_
        refine s_lit 50 #[.int .i64 s.lo.e, .int .i64 s.lo.v.maj, .int .i64 s.lo.v.min, .int .i64 s.lo.v.pat, .string (mkS s.lo.v.pre), .string (mkS s.lo.v.build), .bool s.lo.aft, .int .i64 s.hi.e, .int .i64 s.hi.v.maj, .int .i64 s.hi.v.min, .int .i64 s.hi.v.pat, .string (mkS s.hi.v.pre), .string (mkS s.hi.v.build), .bool s.hi.aft] (by kernel_rfl) rfl (fun _ => by kernel_rfl) (fun b2 => ?_)
        refine s_cast (L' := [⟨b2, #[.int .i64 s.lo.e, .int .i64 s.lo.v.maj, .int .i64 s.lo.v.min, .int .i64 s.lo.v.pat, .string (mkS s.lo.v.pre), .string (mkS s.lo.v.build), .bool s.lo.aft, .int .i64 s.hi.e, .int .i64 s.hi.v.maj, .int .i64 s.hi.v.min, .int .i64 s.hi.v.pat, .string (mkS s.hi.v.pre), .string (mkS s.hi.v.build), .bool s.hi.aft], 50⟩, ⟨b1, (spanV s).cells, 50⟩, ⟨gb, curb, 50⟩] ++ ob ++ []) (by rw [List.append_nil]; rfl) ?_
        obtain ⟨i, z, e1, e2, e3, e4, e5⟩ := span_info
        refine s_append (sz := 14) (by kernel_rfl) rfl Tryz.underlying22 e1 e2 e3 e4 (by kernel_rfl) hrel.sl (a := ⟨b2, 0, none⟩) (m := 1) (c := 1) (news := spanC s) (by kernel_rfl) rfl (fun w hO j u hj => ?_) (span_cells _) (by unfold maxLen; omega) (by rw [e5]; omega) (fun v2 ob2 hv2 => ?_)
        · rw [add_off, cell_of_row w b2 (0 + j) (spanC s).toArray 50 _ (hO.held ⟨b2, (spanC s).toArray, 50⟩ (List.mem_append_left _ (List.mem_append_left _ (List.mem_cons_self ..))))]; simpa using hj
        have hv3 : SlS v2 (out ++ [s]) ob2 := hv2.to (by simp) (by simp)
        obtain ⟨V2, c2, rfl⟩ := hv3.form
        refine s_val (.slice V2 ((out ++ [s]).length) c2) (by kernel_rfl) (fun _ => by kernel_rfl) ?_
        refine s_nil ?_
        refine fin_seq ?_
        refine ok_exit ?_
        refine fin_seq_exit ?_
        refine fin_block_exit ?_
        refine fin_seq ?_
        refine ok_region ?_
        refine s_sum (k := .i64) (((k + 1 : Nat) : Int)) (by kernel_rfl) (fun _ => by kernel_rfl) (IntWalk.i64_in _ (by omega)) ?_
        refine s_val (.int .i64 ((k + 1 : Nat) : Int)) (by kernel_rfl) (fun _ => by kernel_rfl) ?_
        refine s_nil ?_
        refine fin_take (L' := [⟨gb, curb, 50⟩] ++ ob2) (fun w hO => ?_) ?_
        · have h2 := hO.apart; rw [List.append_nil] at hO; exact Own.sub [_, _] hO
        exact fin_round (m' := d.length - (k + 1)) (by omega) ⟨k + 1, V2, (out ++ [s]).length, c2, out ++ [s], ob2, _, ⟨rfl, hrel.step hk hs hsk (mstep_app (fun t' ht' => by have : out = [] := List.eq_nil_of_length_eq_zero (by omega); subst this; simp at ht')) hv3⟩, rfl, upds_self _ ⟨by kernel_rfl, by kernel_rfl, by kernel_rfl, by kernel_rfl, trivial⟩, rfl⟩
      · skip
        obtain ⟨g, cur, hV, rfl, hcapc, hmaxc, hszc, hcurc⟩ := Sl.block hrel.sl (by omega)
        obtain ⟨t, ht⟩ : ∃ t, out[out.length - 1]'(by omega) = t := ⟨_, rfl⟩
        have htk : t.short := ht ▸ hrel.short _ (List.getElem_mem _)
        refine q_dec (p := (((out.length : Int) : Int) - 1 : Int) < 0) false (by kernel_rfl) (fun _ => by kernel_rfl) (decide_eq_false (h4)) ?_
        refine q_val (.bool false) (by kernel_rfl) (fun _ => by kernel_rfl) ?_
        refine q_val (.slice V out.length cv) (by kernel_rfl) (fun _ => by kernel_rfl) ?_
        refine q_val (.int .i64 (((out.length : Int) : Int) - 1)) (by kernel_rfl) (fun _ => by kernel_rfl) ?_
        refine q_val (.pointer (some ⟨g, (out.length - 1) * 14, none⟩)) (by kernel_rfl) (run_ixA (b := g) (off := 0) (c := cv) (n := out.length) (k := .i64) (j := (out.length : Int) - 1) (e := 50) (sz := 14) rfl (by kernel_rfl) hV (by kernel_rfl) (by kernel_rfl) (by kernel_rfl) (by omega) (by omega) (by omega)) ?_
        refine q_val (.pointer (some ⟨g, (out.length - 1) * 14 + 7, none⟩)) (by kernel_rfl) (fun _ => by kernel_rfl) ?_
        refine q_load 2 ⟨g, cur, 50⟩ (off := (out.length - 1) * 14 + 7) (cutV t.hi) (by kernel_rfl) rfl (by kernel_rfl) (by kernel_rfl) (read_part spanC_len hcurc (out.length - 1) 7 (by omega) (by omega) _ (by rw [ht]; kernel_rfl)) ?_
        refine q_val (.pointer (some ⟨b1, 0, none⟩)) (by kernel_rfl) (fun _ => by kernel_rfl) ?_
        refine q_load 0 ⟨b1, (spanV s).cells, 50⟩ (off := 0) (.agg #[.int .i64 s.lo.e, .int .i64 s.lo.v.maj, .int .i64 s.lo.v.min, .int .i64 s.lo.v.pat, .string (mkS s.lo.v.pre), .string (mkS s.lo.v.build), .bool s.lo.aft]) (by kernel_rfl) rfl (by kernel_rfl) (by kernel_rfl) (by kernel_rfl) ?_
        refine q_call (k := 78) (args := #[cutV t.hi, .agg #[.int .i64 s.lo.e, .int .i64 s.lo.v.maj, .int .i64 s.lo.v.min, .int .i64 s.lo.v.pat, .string (mkS s.lo.v.pre), .string (mkS s.lo.v.build), .bool s.lo.aft]]) (.int .i64 (cmpC t.hi s.lo)) (by kernel_rfl) (fun _ => by kernel_rfl) (fun w _ => cmpC_any t.hi s.lo w htk.2 hsk.1) ?_
        by_cases h5 : (cmpC t.hi s.lo : Int) < 0
        · skip
          refine q_dec (p := (cmpC t.hi s.lo : Int) < 0) true (by kernel_rfl) (fun _ => by kernel_rfl) (decide_eq_true (h5)) ?_
          refine q_val (.bool true) (by kernel_rfl) (fun _ => by kernel_rfl) ?_
          refine q_nil ?_
          refine fin_seq ?_
          refine ok_true (by kernel_rfl) ?_
          refine ok_seq ?_
          refine ok_region ?_
          refine s_val (.slice V out.length cv) (by kernel_rfl) (fun _ => by kernel_rfl) ?_
          refine s_load 0 ⟨b1, (spanV s).cells, 50⟩ (off := 0) (spanV s) (by kernel_rfl) rfl (by kernel_rfl) (by kernel_rfl) (by kernel_rfl) ?_
          refine s_lit 50 #[.int .i64 s.lo.e, .int .i64 s.lo.v.maj, .int .i64 s.lo.v.min, .int .i64 s.lo.v.pat, .string (mkS s.lo.v.pre), .string (mkS s.lo.v.build), .bool s.lo.aft, .int .i64 s.hi.e, .int .i64 s.hi.v.maj, .int .i64 s.hi.v.min, .int .i64 s.hi.v.pat, .string (mkS s.hi.v.pre), .string (mkS s.hi.v.build), .bool s.hi.aft] (by kernel_rfl) rfl (fun _ => by kernel_rfl) (fun b2 => ?_)
          refine s_cast (L' := [⟨b2, #[.int .i64 s.lo.e, .int .i64 s.lo.v.maj, .int .i64 s.lo.v.min, .int .i64 s.lo.v.pat, .string (mkS s.lo.v.pre), .string (mkS s.lo.v.build), .bool s.lo.aft, .int .i64 s.hi.e, .int .i64 s.hi.v.maj, .int .i64 s.hi.v.min, .int .i64 s.hi.v.pat, .string (mkS s.hi.v.pre), .string (mkS s.hi.v.build), .bool s.hi.aft], 50⟩, ⟨b1, (spanV s).cells, 50⟩, ⟨gb, curb, 50⟩] ++ [⟨g, cur, 50⟩] ++ []) (by rw [List.append_nil]; rfl) ?_
          obtain ⟨i, z, e1, e2, e3, e4, e5⟩ := span_info
          refine s_append (sz := 14) (by kernel_rfl) rfl Tryz.underlying22 e1 e2 e3 e4 (by kernel_rfl) hrel.sl (a := ⟨b2, 0, none⟩) (m := 1) (c := 1) (news := spanC s) (by kernel_rfl) rfl (fun w hO j u hj => ?_) (span_cells _) (by unfold maxLen; omega) (by rw [e5]; omega) (fun v2 ob2 hv2 => ?_)
          · rw [add_off, cell_of_row w b2 (0 + j) (spanC s).toArray 50 _ (hO.held ⟨b2, (spanC s).toArray, 50⟩ (List.mem_append_left _ (List.mem_append_left _ (List.mem_cons_self ..))))]; simpa using hj
          have hv3 : SlS v2 (out ++ [s]) ob2 := hv2.to (by simp) (by simp)
          obtain ⟨V2, c2, rfl⟩ := hv3.form
          refine s_val (.slice V2 ((out ++ [s]).length) c2) (by kernel_rfl) (fun _ => by kernel_rfl) ?_
          refine s_nil ?_
          refine fin_seq ?_
          refine ok_exit ?_
          refine fin_seq_exit ?_
          refine fin_block_exit ?_
          refine fin_seq ?_
          refine ok_region ?_
          refine s_sum (k := .i64) (((k + 1 : Nat) : Int)) (by kernel_rfl) (fun _ => by kernel_rfl) (IntWalk.i64_in _ (by omega)) ?_
          refine s_val (.int .i64 ((k + 1 : Nat) : Int)) (by kernel_rfl) (fun _ => by kernel_rfl) ?_
          refine s_nil ?_
          refine fin_take (L' := [⟨gb, curb, 50⟩] ++ ob2) (fun w hO => ?_) ?_
          · have h2 := hO.apart; rw [List.append_nil] at hO; exact Own.sub [_, _] hO
          exact fin_round (m' := d.length - (k + 1)) (by omega) ⟨k + 1, V2, (out ++ [s]).length, c2, out ++ [s], ob2, _, ⟨rfl, hrel.step hk hs hsk (mstep_app (fun t' ht' => by rw [last_at (by omega) ht ht']; assumption)) hv3⟩, rfl, upds_self _ ⟨by kernel_rfl, by kernel_rfl, by kernel_rfl, by kernel_rfl, trivial⟩, rfl⟩
        · skip
          refine q_dec (p := (cmpC t.hi s.lo : Int) < 0) false (by kernel_rfl) (fun _ => by kernel_rfl) (decide_eq_false (h5)) ?_
          refine q_val (.bool false) (by kernel_rfl) (fun _ => by kernel_rfl) ?_
          refine q_nil ?_
          refine fin_seq ?_
          refine ok_false (by kernel_rfl) ?_
          refine ok_skip ?_
          refine fin_seq ?_
          refine ok_drawt 14 (by kernel_rfl) (by kernel_rfl) (by kernel_rfl) ?_
          simp only [List.take_succ_cons, List.take_zero, List.drop_succ_cons, List.drop_zero]
          refine q_val (.slice V out.length cv) (by kernel_rfl) (fun _ => by kernel_rfl) ?_
          refine q_val (.int .i64 (((out.length : Int) : Int) - 1)) (by kernel_rfl) (fun _ => by kernel_rfl) ?_
          refine q_val (.slice V out.length cv) (by kernel_rfl) (fun _ => by kernel_rfl) ?_
          refine q_val (.int .i64 (((out.length : Int) : Int) - 1)) (by kernel_rfl) (fun _ => by kernel_rfl) ?_
          refine q_val (.pointer (some ⟨g, (out.length - 1) * 14, none⟩)) (by kernel_rfl) (run_ixA (b := g) (off := 0) (c := cv) (n := out.length) (k := .i64) (j := (out.length : Int) - 1) (e := 50) (sz := 14) rfl (by kernel_rfl) hV (by kernel_rfl) (by kernel_rfl) (by kernel_rfl) (by omega) (by omega) (by omega)) ?_
          refine q_val (.pointer (some ⟨g, (out.length - 1) * 14 + 7, none⟩)) (by kernel_rfl) (fun _ => by kernel_rfl) ?_
          refine q_load 2 ⟨g, cur, 50⟩ (off := (out.length - 1) * 14 + 7) (cutV t.hi) (by kernel_rfl) rfl (by kernel_rfl) (by kernel_rfl) (read_part spanC_len hcurc (out.length - 1) 7 (by omega) (by omega) _ (by rw [ht]; kernel_rfl)) ?_
          refine q_val (.pointer (some ⟨b1, 7, none⟩)) (by kernel_rfl) (fun _ => by kernel_rfl) ?_
          refine q_load 0 ⟨b1, (spanV s).cells, 50⟩ (off := 7) (.agg #[.int .i64 s.hi.e, .int .i64 s.hi.v.maj, .int .i64 s.hi.v.min, .int .i64 s.hi.v.pat, .string (mkS s.hi.v.pre), .string (mkS s.hi.v.build), .bool s.hi.aft]) (by kernel_rfl) rfl (by kernel_rfl) (by kernel_rfl) (by kernel_rfl) ?_
          refine q_call (k := 83) (args := #[cutV t.hi, .agg #[.int .i64 s.hi.e, .int .i64 s.hi.v.maj, .int .i64 s.hi.v.min, .int .i64 s.hi.v.pat, .string (mkS s.hi.v.pre), .string (mkS s.hi.v.build), .bool s.hi.aft]]) (.tuple #[cutV (minC t.hi s.hi), cutV (maxC t.hi s.hi)]) (by kernel_rfl) (fun _ => by kernel_rfl) (fun w _ => order_any t.hi s.hi w htk.2 hsk.2) ?_
          refine q_val (.tuple #[cutV (minC t.hi s.hi), cutV (maxC t.hi s.hi)]) (by kernel_rfl) (fun _ => by kernel_rfl) ?_
          refine q_val (cutV (minC t.hi s.hi)) (by kernel_rfl) (fun _ => by kernel_rfl) ?_
          refine q_val (cutV (maxC t.hi s.hi)) (by kernel_rfl) (fun _ => by kernel_rfl) ?_
          refine q_val (.pointer (some ⟨g, (out.length - 1) * 14, none⟩)) (by kernel_rfl) (run_ixA (b := g) (off := 0) (c := cv) (n := out.length) (k := .i64) (j := (out.length : Int) - 1) (e := 50) (sz := 14) rfl (by kernel_rfl) hV (by kernel_rfl) (by kernel_rfl) (by kernel_rfl) (by omega) (by omega) (by omega)) ?_
          refine q_nil ?_
          refine s_val (.pointer (some ⟨g, (out.length - 1) * 14 + 7, none⟩)) (by kernel_rfl) (fun _ => by kernel_rfl) ?_
          refine s_storeS 2 ⟨g, cur, 50⟩ (off := (out.length - 1) * 14 + 7) (cutV (maxC t.hi s.hi)) 7 (by kernel_rfl) rfl rfl (by kernel_rfl) (by kernel_rfl) (by kernel_rfl) (by kernel_rfl) (by kernel_rfl) (by show (out.length - 1) * 14 + 7 + 7 ≤ cur.size; omega) (by kernel_rfl) ?_
          have hse := store_elem spanC_len hcurc (out.length - 1) 7 (by omega) (cutV (maxC t.hi s.hi)).cells ⟨t.lo, maxC t.hi s.hi⟩ (show 7 + 7 ≤ 14 by decide) (by rw [ht]; rfl)
          refine s_nil ?_
          refine fin_block ?_
          refine fin_seq ?_
          refine ok_region ?_
          refine s_sum (k := .i64) (((k + 1 : Nat) : Int)) (by kernel_rfl) (fun _ => by kernel_rfl) (IntWalk.i64_in _ (by omega)) ?_
          refine s_val (.int .i64 ((k + 1 : Nat) : Int)) (by kernel_rfl) (fun _ => by kernel_rfl) ?_
          refine s_nil ?_
          have hset : Merged d (k + 1) V cv (out.set (out.length - 1) ⟨t.lo, maxC t.hi s.hi⟩) [⟨g, storeIn cur ((out.length - 1) * 14 + 7) (cutV (maxC t.hi s.hi)).cells, 50⟩] := hrel.step hk hs hsk (mstep_set (by omega) ht (by assumption)) (by rw [List.length_set]; exact ⟨by rw [flat_len spanC_len, List.length_set], .inr ⟨g, cv, _, by rw [hV], rfl, hcapc, hmaxc, by rw [hse.2]; exact hszc, hse.1⟩⟩)
          refine fin_take (L' := [⟨gb, curb, 50⟩] ++ [⟨g, storeIn cur ((out.length - 1) * 14 + 7) (cutV (maxC t.hi s.hi)).cells, 50⟩]) (fun w hO => Own.sub [_] hO) ?_
          have hls : (out.set (out.length - 1) ⟨t.lo, maxC t.hi s.hi⟩).length = out.length := List.length_set
          exact fin_round (m' := d.length - (k + 1)) (by omega) ⟨k + 1, V, out.length, cv, out.set (out.length - 1) ⟨t.lo, maxC t.hi s.hi⟩, [⟨g, storeIn cur ((out.length - 1) * 14 + 7) (cutV (maxC t.hi s.hi)).cells, 50⟩], _, ⟨by rw [List.length_set], hset⟩, rfl, upds_self _ ⟨by kernel_rfl, by kernel_rfl, by kernel_rfl, by kernel_rfl, trivial⟩, rfl⟩
    · skip
      refine s_dec (p := (k : Int) < (d.length : Int)) false (by kernel_rfl) (fun _ => by kernel_rfl) (decide_eq_false (h3)) ?_
      refine s_nil ?_
      refine fin_seq ?_
      refine ok_seq ?_
      refine ok_false (by kernel_rfl) ?_
      refine ok_exit ?_
      refine fin_seq_exit ?_
      refine fin_round_exit ?_
      refine fin_block_exit ?_
      refine fin_seq ?_
      refine ok_seq ?_
      refine ok_region ?_
      refine s_val (.slice V out.length cv) (by kernel_rfl) (fun _ => by kernel_rfl) ?_
      refine s_callo (k := 84) (args := #[.slice V out.length cv]) (fun v' L' => ∃ ob', L' = od ++ ob' ∧ SlS v' out ob') (by kernel_rfl) (fun _ => by kernel_rfl) (fun w hO => unshare_call (E := od) hO hrel.sl (by omega) hrel.short) (fun v4 L2 hv2 => ?_)
      obtain ⟨ob4, rfl, hs4⟩ := hv2
      refine s_val (v4) (by kernel_rfl) (fun _ => by kernel_rfl) ?_
      refine s_val (.bool true) (by kernel_rfl) (fun _ => by kernel_rfl) ?_
      refine s_nil ?_
      refine fin_seq ?_
      refine ok_ret ?_
      refine fin_ret2 (v4) (.bool true) Tryz.results45 (by kernel_rfl) (by kernel_rfl) ?_
      exact fun w hO => ⟨v4, ob4, by rw [hall], by rw [hall, if_pos rfl, show makeL l = out from by rw [← merge_eq (allMay_mem.1 hall) hdp hdso]; have he := hrel.eq; rw [List.take_of_length_le (by omega)] at he; exact he]; exact hs4, hO.sub od⟩
end Go.Proofs.YtgeccfdofmnphaaGreat
end

section
/-
  slices.Equal, Grow, Concat of spans (two slices).
-/
namespace Go.Proofs.YtgeccfdofmnphaaGreat
open Go.RowKit
set_option maxRecDepth 100000
set_option linter.unusedVariables false
set_option linter.unusedSimpArgs false
set_option maxHeartbeats 2000000


theorem equal4_any (A B : Option Addr) (cap capb : Nat) (a b : List Sp) (W : World) (hv : Reads spanC W W.heap.size A a) (hu : Reads spanC W W.heap.size B b) (hn : a.length ≤ 1000000) (hm : b.length ≤ 1000000) :
    Calls Tryz.prog 74 #[.slice A a.length cap, .slice B b.length capb] W fun e w' => e = .returned (.bool (decide (a = b))) ∧ Below W.heap.size W w' := by
  refine calls_ok (n := 26) Tryz.func74 rfl (by kernel_rfl) (by kernel_rfl) ?_
  refine ok_seq ?_
  refine ok_region ?_
  refine s_val (.bool false) (by kernel_rfl) (fun _ => by kernel_rfl) ?_
  refine s_nil ?_
  refine fin_seq ?_
  refine ok_seq ?_
  refine ok_seq ?_
  refine ok_region ?_
  refine s_val (.slice A a.length cap) (by kernel_rfl) (fun _ => by kernel_rfl) ?_
  refine s_val (.int .i64 (a.length : Int)) (by kernel_rfl) (fun _ => by kernel_rfl) ?_
  refine s_val (.slice B b.length capb) (by kernel_rfl) (fun _ => by kernel_rfl) ?_
  refine s_val (.int .i64 (b.length : Int)) (by kernel_rfl) (fun _ => by kernel_rfl) ?_
  by_cases h1 : (a.length : Int) = (b.length : Int)
  · skip
    refine s_ndec (p := (a.length : Int) = (b.length : Int)) true (by kernel_rfl) (fun _ => by kernel_rfl) (decide_eq_true (h1)) ?_
    refine s_nil ?_
    refine fin_seq ?_
    refine ok_false (by kernel_rfl) ?_
    refine ok_skip ?_
    refine fin_seq ?_
    refine ok_seq ?_
    refine ok_seq ?_
    refine ok_region ?_
    refine s_val (.slice A a.length cap) (by kernel_rfl) (fun _ => by kernel_rfl) ?_
    refine s_val (.int .i64 (a.length : Int)) (by kernel_rfl) (fun _ => by kernel_rfl) ?_
    refine s_val (.int .i64 0) (by kernel_rfl) (fun _ => by kernel_rfl) ?_
    refine s_nil ?_
    refine fin_seq ?_
    refine ok_block ?_
    refine ok_loop (fun L f m => ∃ (k : Nat) (j : Nat → Value), (k ≤ a.length ∧ a.take k = b.take k) ∧ L = [] ∧ f = upds j [(0, .slice A a.length cap), (1, .slice B b.length capb), (12, .int .i64 (a.length : Int)), (13, .int .i64 (k : Int))] ∧ m = a.length - k) (a.length - 0) ⟨0, _, ⟨Nat.zero_le _, by rw [List.take_zero, List.take_zero]⟩, rfl, upds_self _ ⟨by kernel_rfl, by kernel_rfl, by kernel_rfl, by kernel_rfl, trivial⟩, rfl⟩ ?_
    rintro L f m ⟨k, j, hrel, rfl, rfl, rfl⟩
    have hkl := hrel.1
    refine ok_seq ?_
    refine ok_region ?_
    by_cases h2 : (k : Int) < (a.length : Int)
    · skip
      have hk : k < a.length := by omega
      have hkb : k < b.length := by omega
      obtain ⟨g, off, hA, hlt, hcell⟩ := hv (by omega)
      obtain ⟨gb, ofh, hB, hlu, hcelu⟩ := hu (by omega)
      obtain ⟨s, hs⟩ : ∃ s, a[k] = s := ⟨_, rfl⟩
      obtain ⟨t, ht⟩ : ∃ t, b[k] = t := ⟨_, rfl⟩
      refine s_dec (p := (k : Int) < (a.length : Int)) true (by kernel_rfl) (fun _ => by kernel_rfl) (decide_eq_true (h2)) ?_
      refine s_nil ?_
      refine fin_seq ?_
      refine ok_seq ?_
      refine ok_true (by kernel_rfl) ?_
      refine ok_skip ?_
      refine fin_seq ?_
      refine ok_seq ?_
      refine ok_block ?_
      refine ok_seq ?_
      refine ok_region ?_
      refine s_val (.int .i64 (k : Int)) (by kernel_rfl) (fun _ => by kernel_rfl) ?_
      refine s_val (.int .i64 (k : Int)) (by kernel_rfl) (fun _ => by kernel_rfl) ?_
      refine s_nil ?_
      refine fin_seq ?_
      refine ok_seq ?_
      refine ok_draw (by kernel_rfl) (by kernel_rfl) ?_
      refine q_val (.slice A a.length cap) (by kernel_rfl) (fun _ => by kernel_rfl) ?_
      refine q_val (.int .i64 (k : Int)) (by kernel_rfl) (fun _ => by kernel_rfl) ?_
      refine q_val (.pointer (some ⟨g, off + k * 14, none⟩)) (by kernel_rfl) (run_ixA (b := g) (off := off) (c := cap) (n := a.length) (k := .i64) (j := (k : Int)) (e := 50) (sz := 14) rfl (by kernel_rfl) hA (by kernel_rfl) (by kernel_rfl) (by kernel_rfl) (by omega) (by omega) (by omega)) ?_
      refine q_old (spanV s) (a := ⟨g, off + k * 14, none⟩) (by kernel_rfl) rfl (by kernel_rfl) (fun w hO => elem_load spanC_len (fun j u h => (hO.below.cell (p := ⟨g, off + j, none⟩) hlt).trans (hcell j u h)) k 0 hk (by omega) _ (by rw [hs]; kernel_rfl)) ?_
      refine q_val (.slice B b.length capb) (by kernel_rfl) (fun _ => by kernel_rfl) ?_
      refine q_val (.int .i64 (k : Int)) (by kernel_rfl) (fun _ => by kernel_rfl) ?_
      refine q_val (.pointer (some ⟨gb, ofh + k * 14, none⟩)) (by kernel_rfl) (run_ixA (b := gb) (off := ofh) (c := capb) (n := b.length) (k := .i64) (j := (k : Int)) (e := 50) (sz := 14) rfl (by kernel_rfl) hB (by kernel_rfl) (by kernel_rfl) (by kernel_rfl) (by omega) (by omega) (by omega)) ?_
      refine q_old (spanV t) (a := ⟨gb, ofh + k * 14, none⟩) (by kernel_rfl) rfl (by kernel_rfl) (fun w hO => elem_load spanC_len (fun j u h => (hO.below.cell (p := ⟨gb, ofh + j, none⟩) hlu).trans (hcelu j u h)) k 0 hkb (by omega) _ (by rw [ht]; kernel_rfl)) ?_
      by_cases h3 : s = t
      · skip
        refine q_val (.bool false) (by kernel_rfl) (op_ne_span rfl (by kernel_rfl) (by kernel_rfl) (decide_eq_true (h3))) ?_
        refine q_nil ?_
        refine fin_seq ?_
        refine ok_false (by kernel_rfl) ?_
        refine ok_skip ?_
        refine fin_block ?_
        refine fin_seq ?_
        refine ok_region ?_
        refine s_sum (k := .i64) (((k + 1 : Nat) : Int)) (by kernel_rfl) (fun _ => by kernel_rfl) (IntWalk.i64_in _ (by omega)) ?_
        refine s_val (.int .i64 ((k + 1 : Nat) : Int)) (by kernel_rfl) (fun _ => by kernel_rfl) ?_
        refine s_nil ?_
        have hnext : a.take (k + 1) = b.take (k + 1) := same_step hk hkb hrel.2 (by rw [hs, ht]; assumption)
        exact fin_round (m' := a.length - (k + 1)) (by omega) ⟨k + 1, _, ⟨by omega, hnext⟩, rfl, upds_self _ ⟨by kernel_rfl, by kernel_rfl, by kernel_rfl, by kernel_rfl, trivial⟩, rfl⟩
      · skip
        refine q_val (.bool true) (by kernel_rfl) (op_ne_span rfl (by kernel_rfl) (by kernel_rfl) (decide_eq_false (h3))) ?_
        refine q_nil ?_
        refine fin_seq ?_
        refine ok_true (by kernel_rfl) ?_
        refine ok_seq ?_
        refine ok_region ?_
        refine s_val (.bool false) (by kernel_rfl) (fun _ => by kernel_rfl) ?_
        refine s_nil ?_
        refine fin_seq ?_
        refine ok_ret ?_
        refine fin_block_ret ?_
        refine fin_seq_ret ?_
        refine fin_round_ret ?_
        refine fin_block_ret ?_
        refine fin_seq_ret ?_
        refine fin_ret (.bool false) Tryz.results74 (by kernel_rfl) ?_
        exact fun w hO => ⟨by rw [decide_eq_false (show ¬ a = b from fun e => by subst e; first | omega | exact absurd (hs.symm.trans ht) (by assumption))], hO.below⟩
    · skip
      refine s_dec (p := (k : Int) < (a.length : Int)) false (by kernel_rfl) (fun _ => by kernel_rfl) (decide_eq_false (h2)) ?_
      refine s_nil ?_
      refine fin_seq ?_
      refine ok_seq ?_
      refine ok_false (by kernel_rfl) ?_
      refine ok_exit ?_
      refine fin_seq_exit ?_
      refine fin_round_exit ?_
      refine fin_block_exit ?_
      refine fin_seq ?_
      refine ok_seq ?_
      refine ok_region ?_
      refine s_val (.bool true) (by kernel_rfl) (fun _ => by kernel_rfl) ?_
      refine s_nil ?_
      refine fin_seq ?_
      refine ok_ret ?_
      refine fin_ret (.bool true) Tryz.results74 (by kernel_rfl) ?_
      exact fun w hO => ⟨by rw [decide_eq_true (show a = b from by have h := hrel.2; rwa [List.take_of_length_le (by omega), List.take_of_length_le (by omega)] at h)], hO.below⟩
  · skip
    refine s_ndec (p := (a.length : Int) = (b.length : Int)) false (by kernel_rfl) (fun _ => by kernel_rfl) (decide_eq_false (h1)) ?_
    refine s_nil ?_
    refine fin_seq ?_
    refine ok_true (by kernel_rfl) ?_
    refine ok_seq ?_
    refine ok_region ?_
    refine s_val (.bool false) (by kernel_rfl) (fun _ => by kernel_rfl) ?_
    refine s_nil ?_
    refine fin_seq ?_
    refine ok_ret ?_
    refine fin_seq_ret ?_
    refine fin_ret (.bool false) Tryz.results74 (by kernel_rfl) ?_
    exact fun w hO => ⟨by rw [decide_eq_false (show ¬ a = b from fun e => by subst e; first | omega | exact absurd (hs.symm.trans ht) (by assumption))], hO.below⟩
theorem sub0 {P : Program} {ρ : Operand → Value} {o : Oper} (k : Nat) (hr : ∀ w, (execOp ρ o).run P w = .ok (.value (.int .i64 (IntKind.i64.wrap ((k : Int) - 0)))) w) (hk : (k : Int) ≤ 9223372036854775807) (w : World) : (execOp ρ o).run P w = .ok (.value (.int .i64 (k : Int))) w := by
  rw [hr w, Int.sub_zero, IntWalk.i64_in _ (by omega)]
theorem grow4_any (k : Nat) (W : World) (hk : k ≤ 600000) :
    Calls Tryz.prog 130 #[.slice none 0 0, .int .i64 (k : Int)] W fun e w' => ∃ v' ob', e = .returned v' ∧ SlS v' [] ob' ∧ Own [] W w' ob' := by
  refine calls_ok (n := 27) Tryz.func130 rfl (by kernel_rfl) (by kernel_rfl) ?_
  refine ok_seq ?_
  refine ok_region ?_
  refine s_val (.slice none 0 0) (by kernel_rfl) (fun _ => by kernel_rfl) ?_
  refine s_nil ?_
  refine fin_seq ?_
  refine ok_seq ?_
  refine ok_seq ?_
  refine ok_region ?_
  refine s_val (.int .i64 (k : Int)) (by kernel_rfl) (fun _ => by kernel_rfl) ?_
  refine s_dec (p := (k : Int) < 0) false (by kernel_rfl) (fun _ => by kernel_rfl) (decide_eq_false (by omega)) ?_
  refine s_nil ?_
  refine fin_seq ?_
  refine ok_false (by kernel_rfl) ?_
  refine ok_skip ?_
  refine fin_seq ?_
  refine ok_seq ?_
  refine ok_seq ?_
  refine ok_region ?_
  refine s_val (.int .i64 (k : Int)) (by kernel_rfl) (fun _ => by kernel_rfl) ?_
  refine s_val (.slice none 0 0) (by kernel_rfl) (fun _ => by kernel_rfl) ?_
  refine s_val (.int .i64 (0 : Int)) (by kernel_rfl) (fun _ => by kernel_rfl) ?_
  refine s_val (.slice none 0 0) (by kernel_rfl) (fun _ => by kernel_rfl) ?_
  refine s_val (.int .i64 (0 : Int)) (by kernel_rfl) (fun _ => by kernel_rfl) ?_
  refine s_val (.int .i64 0) (by kernel_rfl) (fun _ => by kernel_rfl) ?_
  refine s_val (.int .i64 (k : Int)) (by kernel_rfl) (fun w => sub0 k (fun _ => by kernel_rfl) (by omega) w) ?_
  refine s_val (.int .i64 (k : Int)) (by kernel_rfl) (fun _ => by kernel_rfl) ?_
  refine s_nil ?_
  refine fin_seq ?_
  refine ok_seq ?_
  refine ok_region ?_
  refine s_val (.int .i64 (k : Int)) (by kernel_rfl) (fun _ => by kernel_rfl) ?_
  by_cases h1 : (0 : Int) < (k : Int)
  · skip
    refine s_dec (p := (0 : Int) < (k : Int)) true (by kernel_rfl) (fun _ => by kernel_rfl) (decide_eq_true (h1)) ?_
    refine s_nil ?_
    refine fin_seq ?_
    refine ok_true (by kernel_rfl) ?_
    refine ok_region ?_
    refine s_val (.slice none 0 0) (by kernel_rfl) (fun _ => by kernel_rfl) ?_
    refine s_val (.slice none 0 0) (by kernel_rfl) (fun _ => by kernel_rfl) ?_
    refine s_val (.int .i64 (0 : Int)) (by kernel_rfl) (fun _ => by kernel_rfl) ?_
    refine s_val (.slice none 0 0) (by kernel_rfl) (fun _ => by kernel_rfl) ?_
    refine s_val (.int .i64 (k : Int)) (by kernel_rfl) (fun _ => by kernel_rfl) ?_
    obtain ⟨i, z, e1, e2, e3, e4, e5⟩ := span_info
    refine s_append0 (sz := 14) (k := k) (by kernel_rfl) rfl (by kernel_rfl) (by kernel_rfl) Tryz.underlying22 Tryz.underlying3 e1 e2 e3 e4 (by omega) (by decide) (by unfold maxLen; omega) (by rw [e5]; omega) (fun b cs cap hcs hkc hcm => ?_)
    refine s_val (.slice none 0 0) (by kernel_rfl) (fun _ => by kernel_rfl) ?_
    refine s_val (.int .i64 (0 : Int)) (by kernel_rfl) (fun _ => by kernel_rfl) ?_
    refine s_val (.slice (some ⟨b, 0, none⟩) 0 cap) (by kernel_rfl) (run_slhi (b := b) (off := 0) (n := k) (c := cap) (k := .i64) (j := 0) (e := 50) (sz := 14) rfl (by kernel_rfl) (by kernel_rfl) (by kernel_rfl) (by kernel_rfl) (by omega) (by omega)) ?_
    refine s_val (.slice (some ⟨b, 0, none⟩) 0 cap) (by kernel_rfl) (fun _ => by kernel_rfl) ?_
    refine s_nil ?_
    refine fin_seq ?_
    refine ok_seq ?_
    refine ok_region ?_
    refine s_val (.slice (some ⟨b, 0, none⟩) 0 cap) (by kernel_rfl) (fun _ => by kernel_rfl) ?_
    refine s_val (.slice (some ⟨b, 0, none⟩) 0 cap) (by kernel_rfl) (fun _ => by kernel_rfl) ?_
    refine s_nil ?_
    refine fin_seq ?_
    refine ok_ret ?_
    refine fin_ret (.slice (some ⟨b, 0, none⟩) 0 cap) Tryz.results130 (by kernel_rfl) ?_
    exact fun w hO => ⟨_, [⟨b, cs, 50⟩], rfl, ⟨rfl, .inr ⟨b, cap, cs, rfl, rfl, Nat.zero_le _, hcm, hcs, by simp⟩⟩, hO⟩
  · skip
    refine s_dec (p := (0 : Int) < (k : Int)) false (by kernel_rfl) (fun _ => by kernel_rfl) (decide_eq_false (h1)) ?_
    refine s_nil ?_
    refine fin_seq ?_
    refine ok_false (by kernel_rfl) ?_
    refine ok_skip ?_
    refine fin_seq ?_
    refine ok_seq ?_
    refine ok_region ?_
    refine s_val (.slice none 0 0) (by kernel_rfl) (fun _ => by kernel_rfl) ?_
    refine s_val (.slice none 0 0) (by kernel_rfl) (fun _ => by kernel_rfl) ?_
    refine s_nil ?_
    refine fin_seq ?_
    refine ok_ret ?_
    refine fin_ret (.slice none 0 0) Tryz.results130 (by kernel_rfl) ?_
    exact fun w hO => ⟨_, [], rfl, Sl.nil _ _, by simpa using hO⟩
end Go.Proofs.YtgeccfdofmnphaaGreat
end

section
/-
  slices.Concat of two slices of spans; package row's Or.
-/
namespace Go.Proofs.YtgeccfdofmnphaaGreat
open Go.RowKit
set_option maxRecDepth 100000
set_option linter.unusedVariables false
set_option linter.unusedSimpArgs false
set_option maxHeartbeats 2000000


theorem one_load {P : Program} {ty : TypeId} {w : World} {b o : Nat} {v : Value} (hc : w.cell? ⟨b, o, none⟩ = some v) (hr : readAt P ty [v].toArray 0 = some v) : (loadVar ty ⟨b, o, none⟩).run P w = .ok v w :=
  old_load [v] v (fun j u h => by
    cases j with
    | zero => simp only [List.getElem?_cons_zero, Option.some.injEq] at h; rw [← h]; exact hc
    | succ j => simp at h) hr
theorem concat4_any (A B : Option Addr) (cap capb : Nat) (a b : List Sp) (W : World) (hv : Reads spanC W W.heap.size A a) (hu : Reads spanC W W.heap.size B b) (hn : a.length ≤ 100000) (hm : b.length ≤ 100000) (g : Nat) (hg : W.heap[g]? = some (.cells #[.slice A a.length cap, .slice B b.length capb] 22)) :
    Calls Tryz.prog 104 #[.slice (some ⟨g, 0, none⟩) 2 2] W fun e w' => ∃ v' ob', e = .returned v' ∧ SlS v' (a ++ b) ob' ∧ Own [] W w' ob' := by
  have hglt : g < W.heap.size := (Array.getElem?_eq_some_iff.1 hg).1
  have hcell : ∀ j u, (#[.slice A a.length cap, .slice B b.length capb] : Array Value).toList[j]? = some u → W.cell? ⟨g, 0 + j, none⟩ = some u := fun j u h => by rw [cell_of_row W g (0 + j) _ _ _ hg]; simpa using h
  refine calls_ok (n := 36) Tryz.func104 rfl (by kernel_rfl) (by kernel_rfl) ?_
  refine ok_seq ?_
  refine ok_region ?_
  refine s_val (.slice none 0 0) (by kernel_rfl) (fun _ => by kernel_rfl) ?_
  refine s_nil ?_
  refine fin_seq ?_
  refine ok_seq ?_
  refine ok_region ?_
  refine s_val (.int .i64 0) (by kernel_rfl) (fun _ => by kernel_rfl) ?_
  refine s_nil ?_
  refine fin_seq ?_
  refine ok_seq ?_
  refine ok_seq ?_
  refine ok_region ?_
  refine s_val (.slice (some ⟨g, 0, none⟩) 2 2) (by kernel_rfl) (fun _ => by kernel_rfl) ?_
  refine s_val (.int .i64 (2 : Int)) (by kernel_rfl) (fun _ => by kernel_rfl) ?_
  refine s_val (.int .i64 0) (by kernel_rfl) (fun _ => by kernel_rfl) ?_
  refine s_nil ?_
  refine fin_seq ?_
  refine ok_block ?_
  refine ok_loop (fun L f m => (∃  (j : Nat → Value), (True) ∧ L = [] ∧ f = upds j [(0, .slice (some ⟨g, 0, none⟩) 2 2), (3, .int .i64 0), (9, .slice (some ⟨g, 0, none⟩) 2 2), (10, .int .i64 2), (11, .int .i64 0)] ∧ m = 3) ∨ (∃  (j : Nat → Value), (True) ∧ L = [] ∧ f = upds j [(0, .slice (some ⟨g, 0, none⟩) 2 2), (3, .int .i64 ((0 + a.length : Nat) : Int)), (9, .slice (some ⟨g, 0, none⟩) 2 2), (10, .int .i64 2), (11, .int .i64 1)] ∧ m = 2) ∨ (∃  (j : Nat → Value), (True) ∧ L = [] ∧ f = upds j [(0, .slice (some ⟨g, 0, none⟩) 2 2), (3, .int .i64 ((0 + a.length + b.length : Nat) : Int)), (9, .slice (some ⟨g, 0, none⟩) 2 2), (10, .int .i64 2), (11, .int .i64 2)] ∧ m = 1)) 3 (.inl ⟨_, trivial, rfl, upds_self _ ⟨by kernel_rfl, by kernel_rfl, by kernel_rfl, by kernel_rfl, by kernel_rfl, trivial⟩, rfl⟩) ?_
  rintro L f m (⟨j, hrel, rfl, rfl, rfl⟩ | ⟨j, hrel, rfl, rfl, rfl⟩ | ⟨j, hrel, rfl, rfl, rfl⟩)
  · skip
    refine ok_seq ?_
    refine ok_region ?_
    refine s_val (.bool true) (by kernel_rfl) (fun _ => by kernel_rfl) ?_
    refine s_nil ?_
    refine fin_seq ?_
    refine ok_seq ?_
    refine ok_true (by kernel_rfl) ?_
    refine ok_skip ?_
    refine fin_seq ?_
    refine ok_seq ?_
    refine ok_block ?_
    refine ok_seq ?_
    refine ok_region ?_
    refine s_val (.pointer (some ⟨g, 0, none⟩)) (by kernel_rfl) (run_ixsl (b := g) (off := 0) (n := 2) (c := 2) (k := .i64) (j := 0) (e := 22) (sz := 1) rfl (by kernel_rfl) (by kernel_rfl) (by kernel_rfl) (by kernel_rfl) (by omega) (by omega) (by omega)) ?_
    refine s_old (.slice A a.length cap) (a := ⟨g, 0, none⟩) (by kernel_rfl) rfl (by kernel_rfl) (fun w hO => one_load ((hO.below.cell (p := ⟨g, 0, none⟩) hglt).trans (by simpa using hcell 0 _ rfl)) (by kernel_rfl)) ?_
    refine s_val (.slice A a.length cap) (by kernel_rfl) (fun _ => by kernel_rfl) ?_
    refine s_nil ?_
    refine fin_seq ?_
    refine ok_seq ?_
    refine ok_region ?_
    refine s_val (.int .i64 0) (by kernel_rfl) (fun _ => by kernel_rfl) ?_
    refine s_val (.slice A a.length cap) (by kernel_rfl) (fun _ => by kernel_rfl) ?_
    refine s_val (.int .i64 (a.length : Int)) (by kernel_rfl) (fun _ => by kernel_rfl) ?_
    refine s_sum (k := .i64) (((0 + a.length : Nat) : Int)) (by kernel_rfl) (fun _ => by kernel_rfl) (IntWalk.i64_in _ (by omega)) ?_
    refine s_val (.int .i64 ((0 + a.length : Nat) : Int)) (by kernel_rfl) (fun _ => by kernel_rfl) ?_
    refine s_nil ?_
    refine fin_seq ?_
    refine ok_seq ?_
    refine ok_region ?_
    refine s_val (.int .i64 ((0 + a.length : Nat) : Int)) (by kernel_rfl) (fun _ => by kernel_rfl) ?_
    refine s_dec (p := ((0 + a.length : Nat) : Int) < 0) false (by kernel_rfl) (fun _ => by kernel_rfl) (decide_eq_false (by omega)) ?_
    refine s_nil ?_
    refine fin_seq ?_
    refine ok_false (by kernel_rfl) ?_
    refine ok_skip ?_
    refine fin_block ?_
    refine fin_seq ?_
    refine ok_region ?_
    refine s_val (.int .i64 1) (by kernel_rfl) (fun _ => by kernel_rfl) ?_
    refine s_val (.int .i64 1) (by kernel_rfl) (fun _ => by kernel_rfl) ?_
    refine s_nil ?_
    exact fin_round (m' := 2) (by decide) (.inr (.inl ⟨_, trivial, rfl, upds_self _ ⟨by kernel_rfl, by kernel_rfl, by kernel_rfl, by kernel_rfl, by kernel_rfl, trivial⟩, rfl⟩))
  · skip
    refine ok_seq ?_
    refine ok_region ?_
    refine s_val (.bool true) (by kernel_rfl) (fun _ => by kernel_rfl) ?_
    refine s_nil ?_
    refine fin_seq ?_
    refine ok_seq ?_
    refine ok_true (by kernel_rfl) ?_
    refine ok_skip ?_
    refine fin_seq ?_
    refine ok_seq ?_
    refine ok_block ?_
    refine ok_seq ?_
    refine ok_region ?_
    refine s_val (.pointer (some ⟨g, 1, none⟩)) (by kernel_rfl) (run_ixsl (b := g) (off := 0) (n := 2) (c := 2) (k := .i64) (j := 1) (e := 22) (sz := 1) rfl (by kernel_rfl) (by kernel_rfl) (by kernel_rfl) (by kernel_rfl) (by omega) (by omega) (by omega)) ?_
    refine s_old (.slice B b.length capb) (a := ⟨g, 1, none⟩) (by kernel_rfl) rfl (by kernel_rfl) (fun w hO => one_load ((hO.below.cell (p := ⟨g, 1, none⟩) hglt).trans (by simpa using hcell 1 _ rfl)) (by kernel_rfl)) ?_
    refine s_val (.slice B b.length capb) (by kernel_rfl) (fun _ => by kernel_rfl) ?_
    refine s_nil ?_
    refine fin_seq ?_
    refine ok_seq ?_
    refine ok_region ?_
    refine s_val (.int .i64 ((0 + a.length : Nat) : Int)) (by kernel_rfl) (fun _ => by kernel_rfl) ?_
    refine s_val (.slice B b.length capb) (by kernel_rfl) (fun _ => by kernel_rfl) ?_
    refine s_val (.int .i64 (b.length : Int)) (by kernel_rfl) (fun _ => by kernel_rfl) ?_
    refine s_sum (k := .i64) (((0 + a.length + b.length : Nat) : Int)) (by kernel_rfl) (fun _ => by kernel_rfl) (IntWalk.i64_in _ (by omega)) ?_
    refine s_val (.int .i64 ((0 + a.length + b.length : Nat) : Int)) (by kernel_rfl) (fun _ => by kernel_rfl) ?_
    refine s_nil ?_
    refine fin_seq ?_
    refine ok_seq ?_
    refine ok_region ?_
    refine s_val (.int .i64 ((0 + a.length + b.length : Nat) : Int)) (by kernel_rfl) (fun _ => by kernel_rfl) ?_
    refine s_dec (p := ((0 + a.length + b.length : Nat) : Int) < 0) false (by kernel_rfl) (fun _ => by kernel_rfl) (decide_eq_false (by omega)) ?_
    refine s_nil ?_
    refine fin_seq ?_
    refine ok_false (by kernel_rfl) ?_
    refine ok_skip ?_
    refine fin_block ?_
    refine fin_seq ?_
    refine ok_region ?_
    refine s_val (.int .i64 2) (by kernel_rfl) (fun _ => by kernel_rfl) ?_
    refine s_val (.int .i64 2) (by kernel_rfl) (fun _ => by kernel_rfl) ?_
    refine s_nil ?_
    exact fin_round (m' := 1) (by decide) (.inr (.inr (⟨_, trivial, rfl, upds_self _ ⟨by kernel_rfl, by kernel_rfl, by kernel_rfl, by kernel_rfl, by kernel_rfl, trivial⟩, rfl⟩)))
  · skip
    refine ok_seq ?_
    refine ok_region ?_
    refine s_val (.bool false) (by kernel_rfl) (fun _ => by kernel_rfl) ?_
    refine s_nil ?_
    refine fin_seq ?_
    refine ok_seq ?_
    refine ok_false (by kernel_rfl) ?_
    refine ok_exit ?_
    refine fin_seq_exit ?_
    refine fin_round_exit ?_
    refine fin_block_exit ?_
    refine fin_seq ?_
    refine ok_seq ?_
    refine ok_region ?_
    refine s_val (.int .i64 ((0 + a.length + b.length : Nat) : Int)) (by kernel_rfl) (fun _ => by kernel_rfl) ?_
    refine s_callo (k := 130) (args := #[.slice none 0 0, .int .i64 ((0 + a.length + b.length : Nat) : Int)]) (fun v' L' => SlS v' [] L') (by kernel_rfl) (fun _ => by kernel_rfl) (fun w hO => (grow4_any (0 + a.length + b.length) w (by omega)).mono fun e w' ⟨v', ob', h1, h2, h3⟩ => ⟨v', ob', h1, h2, by simpa using Own.joinN hO h3⟩) (fun v0 o0 hv0 => ?_)
    refine s_cast (L' := o0 ++ []) (List.append_nil _).symm ?_
    refine s_val (v0) (by kernel_rfl) (fun _ => by kernel_rfl) ?_
    refine s_nil ?_
    refine fin_seq ?_
    refine ok_seq ?_
    refine ok_seq ?_
    refine ok_region ?_
    refine s_val (.slice (some ⟨g, 0, none⟩) 2 2) (by kernel_rfl) (fun _ => by kernel_rfl) ?_
    refine s_val (.int .i64 (2 : Int)) (by kernel_rfl) (fun _ => by kernel_rfl) ?_
    refine s_val (.int .i64 0) (by kernel_rfl) (fun _ => by kernel_rfl) ?_
    refine s_nil ?_
    refine fin_seq ?_
    refine ok_block ?_
    refine ok_loop (fun L f m => (∃ (v : Value) (oq : List Blk) (j : Nat → Value), (SlS v ([]) oq) ∧ L = oq ++ [] ∧ f = upds j [(6, v), (25, .slice (some ⟨g, 0, none⟩) 2 2), (26, .int .i64 2), (27, .int .i64 0)] ∧ m = 3) ∨ (∃ (v : Value) (oq : List Blk) (j : Nat → Value), (SlS v (a) oq) ∧ L = oq ++ [] ∧ f = upds j [(6, v), (25, .slice (some ⟨g, 0, none⟩) 2 2), (26, .int .i64 2), (27, .int .i64 1)] ∧ m = 2) ∨ (∃ (v : Value) (oq : List Blk) (j : Nat → Value), (SlS v (a ++ b) oq) ∧ L = oq ++ [] ∧ f = upds j [(6, v), (25, .slice (some ⟨g, 0, none⟩) 2 2), (26, .int .i64 2), (27, .int .i64 2)] ∧ m = 1)) 3 (.inl ⟨_, _, _, hv0, rfl, upds_self _ ⟨by kernel_rfl, by kernel_rfl, by kernel_rfl, by kernel_rfl, trivial⟩, rfl⟩) ?_
    rintro L f m (⟨v, oq, j, hrel, rfl, rfl, rfl⟩ | ⟨v, oq, j, hrel, rfl, rfl, rfl⟩ | ⟨v, oq, j, hrel, rfl, rfl, rfl⟩)
    · skip
      unfold SlS at hrel
      refine ok_seq ?_
      refine ok_region ?_
      refine s_val (.bool true) (by kernel_rfl) (fun _ => by kernel_rfl) ?_
      refine s_nil ?_
      refine fin_seq ?_
      refine ok_seq ?_
      refine ok_true (by kernel_rfl) ?_
      refine ok_skip ?_
      refine fin_seq ?_
      refine ok_seq ?_
      refine ok_block ?_
      refine ok_seq ?_
      refine ok_region ?_
      refine s_val (.pointer (some ⟨g, 0, none⟩)) (by kernel_rfl) (run_ixsl (b := g) (off := 0) (n := 2) (c := 2) (k := .i64) (j := 0) (e := 22) (sz := 1) rfl (by kernel_rfl) (by kernel_rfl) (by kernel_rfl) (by kernel_rfl) (by omega) (by omega) (by omega)) ?_
      refine s_old (.slice A a.length cap) (a := ⟨g, 0, none⟩) (by kernel_rfl) rfl (by kernel_rfl) (fun w hO => one_load ((hO.below.cell (p := ⟨g, 0, none⟩) hglt).trans (by simpa using hcell 0 _ rfl)) (by kernel_rfl)) ?_
      refine s_val (.slice A a.length cap) (by kernel_rfl) (fun _ => by kernel_rfl) ?_
      refine s_nil ?_
      refine fin_seq ?_
      refine ok_region ?_
      refine s_val (v) (by kernel_rfl) (fun _ => by kernel_rfl) ?_
      refine s_val (.slice A a.length cap) (by kernel_rfl) (fun _ => by kernel_rfl) ?_
      obtain ⟨i, z, e1, e2, e3, e4, e5⟩ := span_info
      refine s_cast (L' := [] ++ oq ++ []) (by simp) ?_
      refine s_appendR (E := []) (ob := oq) (L0 := []) (sz := 14) (l := a) (A := A) (c := cap) spanC_len (by kernel_rfl) rfl Tryz.underlying22 e1 e2 e3 e4 (by kernel_rfl) hrel (by kernel_rfl) (fun w hO => hv.on hO.below hO.size) span_cells (by unfold maxLen; first | (simp; omega) | omega) (by rw [e5]; first | (simp; omega) | omega) (fun va oa hva => ?_)
      refine s_cast (L' := oa ++ []) (by simp) ?_
      have hva2 : SlS va (a) oa := hva.to (by simp) (by simp)
      refine s_val (va) (by kernel_rfl) (fun _ => by kernel_rfl) ?_
      refine s_nil ?_
      refine fin_block ?_
      refine fin_seq ?_
      refine ok_region ?_
      refine s_val (.int .i64 1) (by kernel_rfl) (fun _ => by kernel_rfl) ?_
      refine s_val (.int .i64 1) (by kernel_rfl) (fun _ => by kernel_rfl) ?_
      refine s_nil ?_
      exact fin_round (m' := 2) (by decide) (.inr (.inl ⟨va, oa, _, hva2, rfl, upds_self _ ⟨by kernel_rfl, by kernel_rfl, by kernel_rfl, by kernel_rfl, trivial⟩, rfl⟩))
    · skip
      unfold SlS at hrel
      refine ok_seq ?_
      refine ok_region ?_
      refine s_val (.bool true) (by kernel_rfl) (fun _ => by kernel_rfl) ?_
      refine s_nil ?_
      refine fin_seq ?_
      refine ok_seq ?_
      refine ok_true (by kernel_rfl) ?_
      refine ok_skip ?_
      refine fin_seq ?_
      refine ok_seq ?_
      refine ok_block ?_
      refine ok_seq ?_
      refine ok_region ?_
      refine s_val (.pointer (some ⟨g, 1, none⟩)) (by kernel_rfl) (run_ixsl (b := g) (off := 0) (n := 2) (c := 2) (k := .i64) (j := 1) (e := 22) (sz := 1) rfl (by kernel_rfl) (by kernel_rfl) (by kernel_rfl) (by kernel_rfl) (by omega) (by omega) (by omega)) ?_
      refine s_old (.slice B b.length capb) (a := ⟨g, 1, none⟩) (by kernel_rfl) rfl (by kernel_rfl) (fun w hO => one_load ((hO.below.cell (p := ⟨g, 1, none⟩) hglt).trans (by simpa using hcell 1 _ rfl)) (by kernel_rfl)) ?_
      refine s_val (.slice B b.length capb) (by kernel_rfl) (fun _ => by kernel_rfl) ?_
      refine s_nil ?_
      refine fin_seq ?_
      refine ok_region ?_
      refine s_val (v) (by kernel_rfl) (fun _ => by kernel_rfl) ?_
      refine s_val (.slice B b.length capb) (by kernel_rfl) (fun _ => by kernel_rfl) ?_
      obtain ⟨i, z, e1, e2, e3, e4, e5⟩ := span_info
      refine s_cast (L' := [] ++ oq ++ []) (by simp) ?_
      refine s_appendR (E := []) (ob := oq) (L0 := []) (sz := 14) (l := b) (A := B) (c := capb) spanC_len (by kernel_rfl) rfl Tryz.underlying22 e1 e2 e3 e4 (by kernel_rfl) hrel (by kernel_rfl) (fun w hO => hu.on hO.below hO.size) span_cells (by unfold maxLen; first | (simp; omega) | omega) (by rw [e5]; first | (simp; omega) | omega) (fun va oa hva => ?_)
      refine s_cast (L' := oa ++ []) (by simp) ?_
      have hva2 : SlS va (a ++ b) oa := hva.to (by simp) (by simp)
      refine s_val (va) (by kernel_rfl) (fun _ => by kernel_rfl) ?_
      refine s_nil ?_
      refine fin_block ?_
      refine fin_seq ?_
      refine ok_region ?_
      refine s_val (.int .i64 2) (by kernel_rfl) (fun _ => by kernel_rfl) ?_
      refine s_val (.int .i64 2) (by kernel_rfl) (fun _ => by kernel_rfl) ?_
      refine s_nil ?_
      exact fin_round (m' := 1) (by decide) (.inr (.inr (⟨va, oa, _, hva2, rfl, upds_self _ ⟨by kernel_rfl, by kernel_rfl, by kernel_rfl, by kernel_rfl, trivial⟩, rfl⟩)))
    · skip
      unfold SlS at hrel
      refine ok_seq ?_
      refine ok_region ?_
      refine s_val (.bool false) (by kernel_rfl) (fun _ => by kernel_rfl) ?_
      refine s_nil ?_
      refine fin_seq ?_
      refine ok_seq ?_
      refine ok_false (by kernel_rfl) ?_
      refine ok_exit ?_
      refine fin_seq_exit ?_
      refine fin_round_exit ?_
      refine fin_block_exit ?_
      refine fin_seq ?_
      refine ok_seq ?_
      refine ok_region ?_
      refine s_val (v) (by kernel_rfl) (fun _ => by kernel_rfl) ?_
      refine s_val (v) (by kernel_rfl) (fun _ => by kernel_rfl) ?_
      refine s_nil ?_
      refine fin_seq ?_
      refine ok_ret ?_
      refine fin_ret (v) Tryz.results104 (by kernel_rfl) ?_
      exact fun w hO => ⟨v, oq, rfl, hrel, by simpa using hO⟩
theorem or4_any (A B : Option Addr) (cap capb : Nat) (a b : List Sp) (W : World) (hv : Reads spanC W W.heap.size A a) (hu : Reads spanC W W.heap.size B b) (hn : a.length ≤ 100000) (hm : b.length ≤ 100000) (ha : ShortL a) (hb : ShortL b) :
    Calls Tryz.prog 65 #[.slice A a.length cap, .slice B b.length capb] W fun e w' => ∃ v' ob', e = .returned v' ∧ SlS v' (if rowMay a && rowMay b then orL a b else []) ob' ∧ Own [] W w' ob' := by
  refine calls_ok (n := 24) Tryz.func65 rfl (by kernel_rfl) (by kernel_rfl) ?_
  refine ok_seq ?_
  refine ok_region ?_
  refine s_val (.slice none 0 0) (by kernel_rfl) (fun _ => by kernel_rfl) ?_
  refine s_nil ?_
  refine fin_seq ?_
  refine ok_seq ?_
  refine ok_seq ?_
  refine ok_region ?_
  refine s_val (.slice A a.length cap) (by kernel_rfl) (fun _ => by kernel_rfl) ?_
  refine s_call (k := 42) (args := #[.slice A a.length cap]) (.bool (rowMay a)) (by kernel_rfl) (fun _ => by kernel_rfl) (fun w hO => may4_any A cap a w (hv.on hO.below hO.size) (by omega) ha) ?_
  cases h1 : rowMay a with
  | true =>
    refine s_val (.bool false) (by kernel_rfl) (fun _ => by kernel_rfl) ?_
    refine s_val (.bool false) (by kernel_rfl) (fun _ => by kernel_rfl) ?_
    refine s_val (.slice B b.length capb) (by kernel_rfl) (fun _ => by kernel_rfl) ?_
    refine s_call (k := 42) (args := #[.slice B b.length capb]) (.bool (rowMay b)) (by kernel_rfl) (fun _ => by kernel_rfl) (fun w hO => may4_any B capb b w (hu.on hO.below hO.size) (by omega) hb) ?_
    cases h2 : rowMay b with
    | true =>
      refine s_val (.bool false) (by kernel_rfl) (fun _ => by kernel_rfl) ?_
      refine s_val (.bool false) (by kernel_rfl) (fun _ => by kernel_rfl) ?_
      refine s_nil ?_
      refine fin_seq ?_
      refine ok_false (by kernel_rfl) ?_
      refine ok_skip ?_
      refine fin_seq ?_
      refine ok_seq ?_
      refine ok_region ?_
      refine s_val (.slice A a.length cap) (by kernel_rfl) (fun _ => by kernel_rfl) ?_
      refine s_val (.slice B b.length capb) (by kernel_rfl) (fun _ => by kernel_rfl) ?_
      refine s_lit 22 #[.slice A a.length cap, .slice B b.length capb] (by kernel_rfl) rfl (fun _ => by kernel_rfl) (fun b1 => ?_)
      refine s_callo (k := 104) (args := #[.slice (some ⟨b1, 0, none⟩) 2 2]) (fun v' L' => SlS v' (a ++ b) L') (by kernel_rfl) (fun _ => by kernel_rfl) (fun w hO => (concat4_any A B cap capb a b w (hv.on hO.below hO.size) (hu.on hO.below hO.size) hn hm b1 (hO.held _ List.mem_cons_self)).mono fun e w' ⟨v', ob', h1, h2, h3⟩ => ⟨v', ob', h1, h2, Own.take (Own.joinN hO h3) (fun x hx => List.mem_append_left _ hx) h3.apart⟩) (fun cv oc hcv => ?_)
      obtain ⟨C, capc, rfl⟩ := hcv.form
      have hlen : (a ++ b).length ≤ 200000 := by rw [List.length_append]; omega
      have hlab := both_short ha hb
      refine s_callo (k := 45) (args := #[.slice C (a ++ b).length capc]) (fun v' L' => ∃ mv, v' = .tuple #[mv, .bool (allMay (a ++ b))] ∧ SlS mv (if allMay (a ++ b) then makeL (a ++ b) else []) L') (by kernel_rfl) (fun _ => by kernel_rfl) (fun w hO => (make4_any C capc (a ++ b) w (Sl.reads hcv rfl hO (fun x hx => hx)) (by omega) hlab).mono fun e w' ⟨v', ob', h1, h2, h3⟩ => ⟨_, ob', h1, ⟨v', rfl, h2⟩, Own.take (Own.joinN hO h3) (fun x hx => List.mem_append_left _ hx) h3.apart⟩) (fun tv om htv => ?_)
      obtain ⟨mv, rfl, hmv⟩ := htv
      refine s_val (.tuple #[mv, .bool (allMay (a ++ b))]) (by kernel_rfl) (fun _ => by kernel_rfl) ?_
      refine s_val (mv) (by kernel_rfl) (fun _ => by kernel_rfl) ?_
      refine s_val (.bool (allMay (a ++ b))) (by kernel_rfl) (fun _ => by kernel_rfl) ?_
      refine s_val (mv) (by kernel_rfl) (fun _ => by kernel_rfl) ?_
      refine s_val (.bool (allMay (a ++ b))) (by kernel_rfl) (fun _ => by kernel_rfl) ?_
      refine s_nil ?_
      refine fin_seq ?_
      refine ok_seq ?_
      refine ok_region ?_
      refine s_val (mv) (by kernel_rfl) (fun _ => by kernel_rfl) ?_
      refine s_val (mv) (by kernel_rfl) (fun _ => by kernel_rfl) ?_
      refine s_nil ?_
      refine fin_seq ?_
      refine ok_ret ?_
      refine fin_ret (mv) Tryz.results65 (by kernel_rfl) ?_
      exact fun w hO => ⟨mv, om, rfl, by rw [if_pos (by simp)]; unfold orL; have hall : allMay (a ++ b) = true := allMay_mem.2 (both_may (by assumption) (by assumption)); rw [hall, if_pos rfl] at hmv; exact hmv, hO⟩
    | false =>
      refine s_val (.bool true) (by kernel_rfl) (fun _ => by kernel_rfl) ?_
      refine s_val (.bool true) (by kernel_rfl) (fun _ => by kernel_rfl) ?_
      refine s_nil ?_
      refine fin_seq ?_
      refine ok_true (by kernel_rfl) ?_
      refine ok_seq ?_
      refine ok_region ?_
      refine s_val (.slice none 0 0) (by kernel_rfl) (fun _ => by kernel_rfl) ?_
      refine s_nil ?_
      refine fin_seq ?_
      refine ok_ret ?_
      refine fin_seq_ret ?_
      refine fin_ret (.slice none 0 0) Tryz.results65 (by kernel_rfl) ?_
      exact fun w hO => ⟨_, [], rfl, by rw [if_neg (by simp)]; exact Sl.nil _ _, by simpa using hO⟩
  | false =>
    refine s_val (.bool true) (by kernel_rfl) (fun _ => by kernel_rfl) ?_
    refine s_val (.bool true) (by kernel_rfl) (fun _ => by kernel_rfl) ?_
    refine s_skip (by kernel_rfl) ?_
    refine s_skip (by kernel_rfl) ?_
    refine s_skip (by kernel_rfl) ?_
    refine s_val (.bool true) (by kernel_rfl) (fun _ => by kernel_rfl) ?_
    refine s_nil ?_
    refine fin_seq ?_
    refine ok_true (by kernel_rfl) ?_
    refine ok_seq ?_
    refine ok_region ?_
    refine s_val (.slice none 0 0) (by kernel_rfl) (fun _ => by kernel_rfl) ?_
    refine s_nil ?_
    refine fin_seq ?_
    refine ok_ret ?_
    refine fin_seq_ret ?_
    refine fin_ret (.slice none 0 0) Tryz.results65 (by kernel_rfl) ?_
    exact fun w hO => ⟨_, [], rfl, by rw [if_neg (by simp)]; exact Sl.nil _ _, by simpa using hO⟩
end Go.Proofs.YtgeccfdofmnphaaGreat
end
