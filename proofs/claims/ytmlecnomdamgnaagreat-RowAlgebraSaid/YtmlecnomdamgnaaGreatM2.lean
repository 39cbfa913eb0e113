/-
  What the statements' proofs lean on, part 2: each part begins with a remark that says what it proves and on what conditions.
-/
import Derived.Deep.RegionHeld3
import Derived.Laws.AppendOwn
import Derived.Laws.Slices
import Derived.Laws.MakeOwn
import Derived.Lib.BufferWrite
import Derived.Lib.UnsafeStr
import Derived.IntWalk
import Derived.Outline
import Derived.StillTailTactics
import Derived.Laws.StructEq
import Derived.WalkLawsBesides
import Derived.Test.YtmlecnomdamgnaaGreatM1

section
/-
  A region that draws its order, whose operations but the last ones write nothing: the first ones in the order of the text, then the last ones, one behind the other. No condition.
-/
namespace Go.Proofs.YtmlecnomdamgnaaGreat
open Go.RowKit
set_option linter.unusedVariables false
set_option linter.unusedSimpArgs false

def backB (md : Region.Mode) (l : List Oper) (i : Nat) : Bool :=
  match l[i]? with
  | some o => o.after.all fun e => !(Region.binds md e) || decide (e.on < i)
  | none => false
def waitB (md : Region.Mode) (l : List Oper) (t i : Nat) : Bool :=
  match l[t]? with
  | some o => o.after.any fun e => Region.binds md e && e.on == i
  | none => false
def inB (l : List Oper) (m i : Nat) : Bool :=
  match l[i]? with
  | some o => match o.guard with | some (g, _) => decide (g < m) | none => true
  | none => false
def preB (md : Region.Mode) (l : List Oper) (m : Nat) : Bool :=
  decide (m ≤ l.length) && (List.range l.length).all (fun i => backB md l i) && (List.range m).all (fun i => inB l m i && (decide (l.length ≤ m) || waitB md l m i)) && (List.range l.length).all fun t => decide (t ≤ m) || waitB md l t (t - 1)
section
variable {P : Program} {md : Region.Mode} {l : List Oper} {m : Nat}
structure PreOk (md : Region.Mode) (l : List Oper) (m : Nat) : Prop where
  le : m ≤ l.length
  back : ∀ i o, l[i]? = some o → ∀ e ∈ o.after, Region.binds md e = true → e.on < i
  inn : ∀ i o g b, i < m → l[i]? = some o → o.guard = some (g, b) → g < m
  first : ∀ i o, i < m → l[m]? = some o → ∃ e ∈ o.after, Region.binds md e = true ∧ e.on = i
  chain : ∀ t o, m < t → l[t]? = some o → ∃ e ∈ o.after, Region.binds md e = true ∧ e.on = t - 1
theorem waitB_spec {t i : Nat} {o : Oper} (ho : l[t]? = some o) (h : waitB md l t i = true) : ∃ e ∈ o.after, Region.binds md e = true ∧ e.on = i := by
  unfold waitB at h
  rw [ho] at h
  obtain ⟨e, he, hb⟩ := Array.any_eq_true'.1 h
  simp only [Bool.and_eq_true, beq_iff_eq] at hb
  exact ⟨e, he, hb.1, hb.2⟩
theorem preB_ok (h : preB md l m = true) : PreOk md l m := by
  unfold preB at h
  simp only [Bool.and_eq_true, decide_eq_true_eq, List.all_eq_true, List.mem_range, Bool.or_eq_true] at h
  obtain ⟨⟨⟨h1, h2⟩, h3⟩, h4⟩ := h
  refine ⟨h1, fun i o ho e he hb => ?_, fun i o g b hi ho hg => ?_, fun i o hi ho => ?_, fun t o ht ho => ?_⟩
  · have hi := (List.getElem?_eq_some_iff.1 ho).1
    have := h2 i hi
    unfold backB at this
    rw [ho] at this
    have := Array.all_eq_true_iff_forall_mem.1 this e he
    rw [hb] at this
    simpa using this
  · have := (h3 i hi).1
    unfold inB at this
    rw [ho] at this
    dsimp only at this
    rw [hg] at this
    simpa using this
  · have hm := (List.getElem?_eq_some_iff.1 ho).1
    rcases (h3 i hi).2 with h | h
    · omega
    · exact waitB_spec ho h
  · have hl := (List.getElem?_eq_some_iff.1 ho).1
    rcases h4 t hl with h | h
    · omega
    · exact waitB_spec ho h

/-- What has come up is the first k. -/
def Upto (n k : Nat) (listed : Array Bool) : Prop := listed.size = n ∧ ∀ i, i < n → listed[i]? = some (decide (i < k))
theorem Upto.set {n k : Nat} {listed : Array Bool} (h : Upto n k listed) : Upto n (k + 1) (listed.setIfInBounds k true) := by
  refine ⟨by rw [Array.size_setIfInBounds]; exact h.1, fun i hi => ?_⟩
  rw [Array.getElem?_setIfInBounds]
  by_cases e : k = i
  · subst e
    rw [if_pos rfl, if_pos (by rw [h.1]; exact hi)]
    simp
  · rw [if_neg e, h.2 i hi]
    congr 1
    exact decide_eq_decide.2 (by omega)
theorem at_getD {a : Array Bool} {i : Nat} {b d : Bool} (h : a[i]? = some b) : a.getD i d = b := by rw [Array.getD_eq_getD_getElem?, h]; rfl
theorem ready_upto (hp : PreOk md l m) {k : Nat} {listed : Array Bool} (hk : m ≤ k) (h : Upto l.length k listed) : ∀ i, i ∈ Region.ready md l.toArray listed ↔ (i = k ∧ k < l.length) := by
  intro i
  rw [mem_ready]
  constructor
  · rintro ⟨h1, o, ho, h2⟩
    have ho' : l[i]? = some o := by simpa using ho
    have hi := (List.getElem?_eq_some_iff.1 ho').1
    have hki : ¬ i < k := fun hlt => by
      rw [at_getD (h.2 i hi)] at h1
      simp [hlt] at h1
    refine ⟨?_, by omega⟩
    rcases Nat.lt_or_ge k i with hlt | hge
    · obtain ⟨e, he, hb, hon⟩ := hp.chain i o (by omega) ho'
      have := h2 e he hb
      rw [hon, at_getD (h.2 (i - 1) (by omega))] at this
      simp at this
      omega
    · omega
  · rintro ⟨rfl, hlt⟩
    refine ⟨by rw [at_getD (h.2 i hlt)]; simp, l[i], by simp, fun e he hb => ?_⟩
    have := hp.back i l[i] (List.getElem?_eq_getElem hlt) e he hb
    rw [at_getD (h.2 e.on (by omega))]
    simpa using this
theorem any_tail (hp : PreOk md l m) {Q : Exit → Act → World → Prop} : ∀ (d k fuel : Nat) (listed : Array Bool) (a : Act) (w : World), d = l.length - k → m ≤ k → k ≤ l.length → d ≤ fuel → Upto l.length k listed → wpList P l.toArray Q (l.drop k) a w → wpAny P md l.toArray Q fuel listed a w := by
  intro d
  induction d with
  | zero =>
    intro k fuel listed a w hd hk hkl _ hu h
    have hkn : k = l.length := by omega
    have hr : Region.ready md l.toArray listed = [] := by
      apply List.eq_nil_iff_forall_not_mem.2
      intro i hi
      have := (ready_upto hp hk hu i).1 hi
      omega
    have hq : Q .normal a w := by
      rw [hkn, List.drop_length] at h; exact h
    cases fuel with
    | zero => exact ⟨hr, hq⟩
    | succ f => exact ⟨fun _ => hq, fun i hi => by rw [hr] at hi; cases hi⟩
  | succ d ih =>
    intro k fuel listed a w hd hk hkl hf hu h
    have hlt : k < l.length := by omega
    obtain ⟨f, rfl⟩ : ∃ f, fuel = f + 1 := ⟨fuel - 1, by omega⟩
    refine ⟨fun hr => ?_, fun i hi => ?_⟩
    · have := (ready_upto hp hk hu k).2 ⟨rfl, hlt⟩
      rw [hr] at this; cases this
    · obtain ⟨rfl, _⟩ := (ready_upto hp hk hu i).1 hi
      have ho : l.toArray[i]? = some l[i] := by simp
      rw [List.drop_eq_getElem_cons hlt] at h
      have hw : wpOp P l.toArray Q i (wpList P l.toArray Q (l.drop (i + 1))) a w := by unfold wpOp; simp only [ho]; exact h
      exact wpOp_mono (fun a' w' h' => ih (i + 1) f _ a' w' (by omega) (by omega) (by omega) (by omega) hu.set h') hw

/-- The part that has come up of the first m; of the others nothing has. -/
structure Part (n m : Nat) (listed' listed : Array Bool) : Prop where
  size' : listed'.size = m
  size : listed.size = n
  same : ∀ i, i < m → listed[i]? = listed'[i]?
  rest : ∀ t, m ≤ t → t < n → listed[t]? = some false
theorem Part.get {n m : Nat} {listed' listed : Array Bool} (h : Part n m listed' listed) {i : Nat} (hi : i < m) : ∃ b, listed'[i]? = some b := ⟨_, Array.getElem?_eq_getElem (by rw [h.size']; exact hi)⟩
theorem Part.set {n m i : Nat} {listed' listed : Array Bool} (h : Part n m listed' listed) (hi : i < m) : Part n m (listed'.setIfInBounds i true) (listed.setIfInBounds i true) := by
  refine ⟨by rw [Array.size_setIfInBounds]; exact h.size', by rw [Array.size_setIfInBounds]; exact h.size, fun j hj => ?_, fun t ht htn => ?_⟩
  · rw [Array.getElem?_setIfInBounds, Array.getElem?_setIfInBounds]
    by_cases e : i = j
    · subst e
      rw [if_pos rfl, if_pos rfl, h.size']
      by_cases hin : i < listed.size
      · rw [if_pos hin, if_pos hi]
      · have h1 := h.same i hi
        rw [Array.getElem?_eq_none (by omega)] at h1
        obtain ⟨b, hb⟩ := h.get hi
        rw [← h1] at hb; cases hb
    · rw [if_neg e, if_neg e]; exact h.same j hj
  · rw [Array.getElem?_setIfInBounds, if_neg (by omega)]; exact h.rest t ht htn
theorem least_false (b : Nat → Bool) : ∀ m, (∃ i, i < m ∧ b i = false) → ∃ k, k < m ∧ b k = false ∧ ∀ j, j < k → b j = true := by
  intro m
  induction m with
  | zero => rintro ⟨i, hi, _⟩; omega
  | succ m ih =>
    rintro ⟨i, hi, hb⟩
    by_cases h : ∃ i, i < m ∧ b i = false
    · obtain ⟨k, h1, h2, h3⟩ := ih h
      exact ⟨k, by omega, h2, h3⟩
    · have : i = m := by
        rcases Nat.lt_or_ge i m with h4 | h4
        · exact absurd ⟨i, h4, hb⟩ h
        · omega
      subst this
      refine ⟨i, by omega, hb, fun j hj => ?_⟩
      cases hj2 : b j with
      | true => rfl
      | false => exact absurd ⟨j, hj, hj2⟩ h
theorem take_at {i : Nat} (hi : i < m) : (l.take m).toArray[i]? = l.toArray[i]? := by simp [List.getElem?_take, hi]
theorem part_in (hp : PreOk md l m) {listed' listed : Array Bool} (h : Part l.length m listed' listed) (hun : ∃ i, i < m ∧ listed'.getD i true = false) : ∀ i ∈ Region.ready md l.toArray listed, i < m := by
  intro i hi
  rw [mem_ready] at hi
  obtain ⟨h1, o, ho, h2⟩ := hi
  have ho' : l[i]? = some o := by simpa using ho
  have hil := (List.getElem?_eq_some_iff.1 ho').1
  rcases Nat.lt_trichotomy i m with hlt | rfl | hgt
  · exact hlt
  · obtain ⟨j, hj, hjf⟩ := hun
    obtain ⟨e, he, hb, hon⟩ := hp.first j o hj ho'
    have h3 := h2 e he hb
    obtain ⟨b, hj'⟩ := h.get hj
    rw [hon, Array.getD_eq_getD_getElem?, h.same j hj, hj'] at h3
    rw [Array.getD_eq_getD_getElem?, hj'] at hjf
    simp at h3 hjf
    rw [h3] at hjf; cases hjf
  · obtain ⟨e, he, hb, hon⟩ := hp.chain i o hgt ho'
    have h3 := h2 e he hb
    rw [hon, at_getD (h.rest (i - 1) (by omega) (by omega))] at h3
    cases h3
theorem part_ready (hp : PreOk md l m) {listed' listed : Array Bool} (h : Part l.length m listed' listed) {i : Nat} (hi : i < m) : i ∈ Region.ready md l.toArray listed ↔ i ∈ Region.ready md (l.take m).toArray listed' := by
  rw [mem_ready, mem_ready, take_at hi]
  have e1 : ∀ j d, j < m → listed.getD j d = listed'.getD j d := fun j d hj => by rw [Array.getD_eq_getD_getElem?, Array.getD_eq_getD_getElem?, h.same j hj]
  rw [e1 i true hi]
  constructor
  · rintro ⟨h1, o, ho, h2⟩
    have ho' : l[i]? = some o := by simpa using ho
    exact ⟨h1, o, ho, fun e he hb => by have := hp.back i o ho' e he hb; rw [← e1 _ _ (by omega)]; exact h2 e he hb⟩
  · rintro ⟨h1, o, ho, h2⟩
    have ho' : l[i]? = some o := by simpa using ho
    exact ⟨h1, o, ho, fun e he hb => by have := hp.back i o ho' e he hb; rw [e1 _ _ (by omega)]; exact h2 e he hb⟩
theorem want_take (hp : PreOk md l m) {i : Nat} (hi : i < m) {o : Oper} (ho : l[i]? = some o) (tmps : Array Value) : Region.wanted o (yielded (l.take m).toArray tmps) = Region.wanted o (yielded l.toArray tmps) := by
  unfold Region.wanted
  cases hg : o.guard with
  | none => rfl
  | some x =>
    obtain ⟨g, b⟩ := x
    have := hp.inn i o g b hi ho hg
    dsimp only
    unfold yielded
    rw [take_at this]
theorem qOp_take (hp : PreOk md l m) {C : World → Prop} {i : Nat} (hi : i < m) {K : Act → Prop} {a : Act} (h : qOp P (l.take m).toArray C i K a) : qOp P l.toArray C i K a := by
  unfold qOp at h ⊢
  rw [take_at hi] at h
  cases ho : l.toArray[i]? with
  | none => rw [ho] at h; exact h
  | some o =>
    rw [ho] at h
    have ho' : l[i]? = some o := by simpa using ho
    dsimp only at h ⊢
    rw [want_take hp hi ho'] at h
    exact h
theorem any_pre (hp : PreOk md l m) {C : World → Prop} {Q : Exit → Act → World → Prop} {Qq : Act → Prop} {g : Nat} (H : ∀ (fuel : Nat) (listed : Array Bool) (a : Act) (w : World), g ≤ fuel → Upto l.length m listed → C w → Qq a → wpAny P md l.toArray Q fuel listed a w) :
    ∀ (fuel : Nat) (listed' listed : Array Bool) (a : Act) (w : World), Part l.length m listed' listed → C w → wpAnyQ P md (l.take m).toArray C Qq fuel listed' a → wpAny P md l.toArray Q (fuel + g) listed a w := by
  have full : ∀ (listed' listed : Array Bool), Part l.length m listed' listed → (¬ ∃ i, i < m ∧ listed'.getD i true = false) → Upto l.length m listed := by
    intro listed' listed h hno
    refine ⟨h.size, fun i hi => ?_⟩
    by_cases him : i < m
    · rw [h.same i him, decide_eq_true him]
      obtain ⟨b, e⟩ := h.get him
      rw [e]
      cases b with
      | true => rfl
      | false => exact absurd ⟨i, him, by rw [Array.getD_eq_getD_getElem?, e]; rfl⟩ hno
    · rw [decide_eq_false him]; exact h.rest i (by omega) hi
  have some_ready : ∀ (listed' listed : Array Bool), Part l.length m listed' listed → (∃ i, i < m ∧ listed'.getD i true = false) → ∃ k, k < m ∧ k ∈ Region.ready md l.toArray listed := by
    intro listed' listed h hun
    obtain ⟨k, hk, hf, hall⟩ := least_false (fun i => listed'.getD i true) m hun
    refine ⟨k, hk, (part_ready hp h hk).2 (mem_ready.2 ⟨hf, l[k]'(by have := hp.le; omega), ?_, fun e he hb => ?_⟩)⟩
    · rw [take_at hk]; simp
    · have := hp.back k _ (List.getElem?_eq_getElem (by have := hp.le; omega)) e he hb
      have h2 := hall e.on this
      obtain ⟨b, e2⟩ := h.get (i := e.on) (by omega)
      rw [Array.getD_eq_getD_getElem?, e2] at h2 ⊢
      simpa using h2
  intro fuel
  induction fuel with
  | zero =>
    intro listed' listed a w h hw hq
    have hno : ¬ ∃ i, i < m ∧ listed'.getD i true = false := fun hun => by
      obtain ⟨k, hk, hr⟩ := some_ready _ _ h hun
      have := (part_ready hp h hk).1 hr
      rw [hq.1] at this; cases this
    exact H _ listed a w (by omega) (full _ _ h hno) hw hq.2
  | succ f ih =>
    intro listed' listed a w h hw hq
    by_cases hun : ∃ i, i < m ∧ listed'.getD i true = false
    · rw [show f + 1 + g = (f + g) + 1 from by omega]
      refine ⟨fun hr => ?_, fun i hi => ?_⟩
      · obtain ⟨k, hk, hr2⟩ := some_ready _ _ h hun
        rw [hr] at hr2; cases hr2
      · have him := part_in hp h hun i hi
        have h1 := hq.2 i ((part_ready hp h him).1 hi)
        exact wpOp_of_qOp hw (fun a' w' hw' hk => ih _ _ a' w' (h.set him) hw' hk) (qOp_take hp him h1)
    · have hr : Region.ready md (l.take m).toArray listed' = [] := by
        apply List.eq_nil_iff_forall_not_mem.2
        intro i hi
        have h1 := (mem_ready.1 hi).1
        obtain ⟨_, o, ho, _⟩ := mem_ready.1 hi
        have : i < m := by
          have := (Array.getElem?_eq_some_iff.1 ho).1
          simp at this; omega
        exact hun ⟨i, this, h1⟩
      exact H _ listed a w (by omega) (full _ _ h hun) hw (hq.1 hr)
end

section
variable {M : List Nat} {P : Program} {n : Nat} {W : World} {Q : Exit → Act → World → Prop} {L : List Blk} {f : Nat → Value}
/-- The first m operations write nothing; the others come behind them, one by one. -/
theorem ok_drawt {id : Nat} {l : List Oper} (m : Nat) (hm : P.follows .mixedOrders = true) (hB : Region.lexB .any (l.take m).toArray = true) (hP : preB .any l m = true)
    (h : QSeg M P n (l.take m).toArray W (fun L f => Seg M P n l.toArray W Q (l.drop m) L f) (l.take m) L f) : Ok M P n W Q (.region id l.toArray true) L f := ⟨fun w hO => by
  have hp := preB_ok hP
  simp only [Region.lexB, Bool.and_eq_true] at hB
  have hle : (l.take m).length = m := by rw [List.length_take]; have := hp.le; omega
  have hq := wpAnyQ_lex (md := .any) (C := fun w => Own M W w L) hB.1 (l.take m) 0 (Array.replicate (l.take m).toArray.size false) (Fr n f) (by simp) (by simpa using hB.2) h.go
  refine wp_region_any hm ?_
  have hres := any_pre (P := P) (md := .any) hp (C := fun w => Own M W w L) (Q := Q) (g := l.length - m) (fun fuel listed a w hf hu hw ⟨f', ha, hs⟩ => by
    subst ha
    exact any_tail hp (l.length - m) m fuel listed _ w rfl (Nat.le_refl _) hp.le hf hu (hs.go w hw)) (l.take m).length (Array.replicate (l.take m).toArray.size false) (Array.replicate l.toArray.size false) (Fr n f) { w with drawn := w.drawn + 1 }
    ⟨by simp [hp.le], by simp, fun i hi => by
      have := hp.le
      rw [Array.getElem?_replicate, Array.getElem?_replicate, if_pos (by simp; omega), if_pos (by simp; omega)], fun t _ ht => by rw [Array.getElem?_replicate, if_pos (by simpa using ht)]⟩ hO.drew hq
  rw [hle, show m + (l.length - m) = l.toArray.size from by have := hp.le; simp; omega] at hres
  exact hres⟩
end
/-- The address of an array variable's element. -/
theorem run_ixarr {P : Program} {ρ : Operand → Value} {o : Oper} {t e : TypeId} {x ix : Operand} {b off off' n sz : Nat} {k : IntKind} {j : Int} (ho : o.op = .indexAddr t x ix) (hx : ρ x = .pointer (some ⟨b, off, none⟩)) (hi : ρ ix = .int k j)
    (hu : P.underlying t = some (.array n e)) (hs : (P.info? e).map (·.size) = some sz) (h0 : 0 ≤ j) (h1 : j < n) (hoff : off + j.toNat * sz = off') (w : World) : (execOp ρ o).run P w = .ok (.value (.pointer (some ⟨b, off', none⟩))) w := by
  subst hoff
  cases he : P.info? e with
  | none => rw [he] at hs; cases hs
  | some i =>
    rw [he] at hs
    obtain rfl := Option.some.inj hs
    unfold execOp
    simp [ho, hx, hi, Instr.indexAt, Sem.run_bind, asIntOf, run_underlying hu, Instr.sureAddr, h0, h1, sizeOf, typeInfo, he, add_off]
theorem ret_v {P : Program} {k : FuncId} {args : Array Value} {w : World} {v v' : Value} (h : v = v') (hc : Calls P k args w fun e w' => e = .returned v ∧ Below w.heap.size w w') : Calls P k args w fun e w' => e = .returned v' ∧ Below w.heap.size w w' := by subst h; exact hc
theorem ret_b {P : Program} {k : FuncId} {args : Array Value} {w : World} {a b : Bool} (h : a = b) (hc : Calls P k args w fun e w' => e = .returned (.bool a) ∧ Below w.heap.size w w') : Calls P k args w fun e w' => e = .returned (.bool b) ∧ Below w.heap.size w w' := by subst h; exact hc
end Go.Proofs.YtmlecnomdamgnaaGreat
end

section
/-
  A region that draws its order and makes variables beside what it reads: what only reads blocks that were there at its start is taken first; the rest in each order that may come up. No condition.
-/
namespace Go.Proofs.YtmlecnomdamgnaaGreat
open Go.RowKit
set_option linter.unusedVariables false
set_option linter.unusedSimpArgs false

theorem Own.sub {M : List Nat} {W w : World} {L0 : List Blk} : ∀ (E : List Blk), Own M W w (E ++ L0) → Own M W w L0
  | [], h => h
  | e :: E, h => Own.sub E ⟨h.os, h.tape, h.output, h.size, h.drawn, h.kept, fun x hx => h.held x (List.mem_cons_of_mem _ hx), fun x hx => h.base x (List.mem_cons_of_mem _ hx), by
      have := h.apart
      rw [List.cons_append, List.map_cons, List.nodup_cons] at this
      exact this.2⟩
theorem Own.swap {M : List Nat} {W w : World} {x y : Blk} {L : List Blk} (h : Own M W w (x :: y :: L)) : Own M W w (y :: x :: L) :=
  ⟨h.os, h.tape, h.output, h.size, h.drawn, h.kept, fun z hz => h.held z (by simp only [List.mem_cons] at hz ⊢; rcases hz with h | h | h <;> simp [h]), fun z hz => h.base z (by simp only [List.mem_cons] at hz ⊢; rcases hz with h | h | h <;> simp [h]), by
    have := h.apart
    simp only [List.map_cons, List.nodup_cons, List.mem_cons, not_or] at this ⊢
    exact ⟨⟨fun e => this.1.1 e.symm, this.2.1⟩, this.1.2, this.2.2⟩⟩
section
variable {M : List Nat} {P : Program} {n : Nat} {ops : Array Oper} {W : World} {Q : Exit → Act → World → Prop} {L0 L : List Blk} {f : Nat → Value} {fuel : Nat} {listed : Array Bool}
def PQ (Q : Exit → Act → World → Prop) : Prop := ∀ c (a : Act) d v w, Q (.panic c) (a.put d v) w → Q (.panic c) a w
theorem pq_seq {K : Act → World → Prop} (h : PQ Q) : PQ (Exit.then K Q) := fun c a d v w h2 => h c a d v w h2
theorem pq_block {id : Nat} (h : PQ Q) : PQ (Exit.inBlock id Q) := fun c a d v w h2 => h c a d v w h2
theorem pq_round {Inv : List Blk → (Nat → Value) → Nat → Prop} {m : Nat} (h : PQ Q) : PQ (Round M n W Inv m Q) := fun c a d v w h2 => h c a d v w h2
theorem pq_body {fn : Func} {R : Ending → World → Prop} : PQ (bodyPost P fn R) := fun c a d v w h2 => by cases d <;> exact h2
structure HSeg (M : List Nat) (P : Program) (n : Nat) (ops : Array Oper) (W : World) (L0 : List Blk) (Q : Exit → Act → World → Prop) (fuel : Nat) (listed : Array Bool) (L : List Blk) (f : Nat → Value) : Prop where
  go : ∀ w, Own M W w L → wpAnyH P .any ops Q (fun w => Own M W w L0) fuel listed (Fr n f) w
structure HStep (M : List Nat) (P : Program) (n : Nat) (ops : Array Oper) (W : World) (L0 : List Blk) (Q : Exit → Act → World → Prop) (fuel : Nat) (listed : Array Bool) (i : Nat) (L : List Blk) (f : Nat → Value) : Prop where
  go : ∀ w, Own M W w L → wpOp P ops Q i (fun a' w' => Own M W w' L0 ∧ wpAnyH P .any ops Q (fun w => Own M W w L0) fuel (listed.setIfInBounds i true) a' w') (Fr n f) w
theorem ok_anyh {id : Nat} {l : List Oper} (hm : P.follows .mixedOrders = true) (h : HSeg M P n l.toArray W L Q l.length (Array.replicate l.length false) L f) : Ok M P n W Q (.region id l.toArray true) L f := ⟨fun w hO => by
  have := wp_region_held (id := id) (S := fun w => Own M W w L) hm (ops := l.toArray) (Q := Q) (a := Fr n f) (w := w) (by simpa using h.go _ hO.drew)
  exact this⟩
theorem h_done (hr : Region.ready .any ops listed = []) (h : Fin M n W Q .normal L f) : HSeg M P n ops W L0 Q fuel listed L f := ⟨fun w hO => wpAnyH_done hr (h.go w hO) fuel⟩
theorem h_take (i : Nat) (E : List Blk) (oi : Oper) (v : Value) (hi : ops[i]? = some oi) (hs : Region.noSelect ops = true) (hf : Region.free .any ops listed i = true) (hr : (Region.ready .any ops listed).contains i = true)
    (hQ : PQ Q) (hw : want ops n f oi = true) (hv : ∀ w, Own M W w L0 → (execOp (ev n f) oi).run P w = .ok (.value v) w)
    (h : HSeg M P n ops W L0 Q fuel (listed.setIfInBounds i true) (E ++ L0) (upd f oi.dst v)) : HSeg M P n ops W L0 Q (fuel + 1) listed (E ++ L0) f := ⟨fun w hO => by
  refine wpAnyH_take hi hs hf hr (fun c a w h => hQ c a _ _ w h) (Or.inl ⟨by rw [want_eq]; exact hw, fun w hw' => by rw [Fr_eval]; exact hv w hw'⟩) (hO.sub E) ?_
  rw [Fr_put]
  exact h.go w hO⟩
theorem h_skip (i : Nat) (E : List Blk) (oi : Oper) (hi : ops[i]? = some oi) (hs : Region.noSelect ops = true) (hf : Region.free .any ops listed i = true) (hr : (Region.ready .any ops listed).contains i = true)
    (hQ : PQ Q) (hw : want ops n f oi = false)
    (h : HSeg M P n ops W L0 Q fuel (listed.setIfInBounds i true) (E ++ L0) (upd f oi.dst undef)) : HSeg M P n ops W L0 Q (fuel + 1) listed (E ++ L0) f := ⟨fun w hO => by
  refine wpAnyH_take hi hs hf hr (fun c a w h => hQ c a _ _ w h) (Or.inr ⟨by rw [want_eq]; exact hw, rfl⟩) (hO.sub E) ?_
  rw [Fr_put]
  exact h.go w hO⟩
theorem h_load (i : Nat) (E : List Blk) (oi : Oper) (k : Nat) (x : Blk) {ty : TypeId} {p : Operand} {off : Nat} (v : Value) (hi : ops[i]? = some oi) (hs : Region.noSelect ops = true) (hf : Region.free .any ops listed i = true) (hr : (Region.ready .any ops listed).contains i = true)
    (hQ : PQ Q) (hw : want ops n f oi = true) (ho : oi.op = .load ty p) (hL : L0[k]? = some x) (hp : ev n f p = .pointer (some ⟨x.b, off, none⟩)) (hv : readAt P ty x.cs off = some v)
    (h : HSeg M P n ops W L0 Q fuel (listed.setIfInBounds i true) (E ++ L0) (upd f oi.dst v)) : HSeg M P n ops W L0 Q (fuel + 1) listed (E ++ L0) f :=
  h_take i E oi v hi hs hf hr hQ hw (fun _ hO => run_load_op ho hp (run_readAt hv (hO.get hL))) h
theorem h_one (i : Nat) (hr : Region.ready .any ops listed = [i]) (h : HStep M P n ops W L0 Q fuel listed i L f) : HSeg M P n ops W L0 Q (fuel + 1) listed L f := ⟨fun w hO =>
  wpAnyH_all hr (by simp) fun j hj => by obtain rfl : j = i := by simpa using hj
                                         exact h.go w hO⟩
theorem h_two (i j : Nat) (hr : Region.ready .any ops listed = [i, j]) (h : HStep M P n ops W L0 Q fuel listed i L f) (h' : HStep M P n ops W L0 Q fuel listed j L f) : HSeg M P n ops W L0 Q (fuel + 1) listed L f := ⟨fun w hO =>
  wpAnyH_all hr (by simp) fun k hk => by
    rcases List.mem_cons.1 hk with rfl | hk
    · exact h.go w hO
    · obtain rfl : k = j := by simpa using hk
      exact h'.go w hO⟩
theorem h_three (i j k : Nat) (hr : Region.ready .any ops listed = [i, j, k]) (h : HStep M P n ops W L0 Q fuel listed i L f) (h' : HStep M P n ops W L0 Q fuel listed j L f) (h'' : HStep M P n ops W L0 Q fuel listed k L f) : HSeg M P n ops W L0 Q (fuel + 1) listed L f := ⟨fun w hO =>
  wpAnyH_all hr (by simp) fun m hm => by
    simp only [List.mem_cons, List.not_mem_nil, or_false] at hm
    rcases hm with rfl | rfl | rfl
    · exact h.go w hO
    · exact h'.go w hO
    · exact h''.go w hO⟩
theorem hs_step {i : Nat} {oi : Oper} (hi : ops[i]? = some oi) (hw : want ops n f oi = true) (h : ∀ w, Own M W w L → oi.wp P (Fr n f) w (fun a' w' => Own M W w' L0 ∧ wpAnyH P .any ops Q (fun w => Own M W w L0) fuel (listed.setIfInBounds i true) a' w') Q) : HStep M P n ops W L0 Q fuel listed i L f := ⟨fun w hO => by
  unfold wpOp
  simp only [hi]
  rw [want_eq, hw, if_pos rfl]
  exact .inl (h w hO)⟩
theorem hs_val {i : Nat} (E : List Blk) (oi : Oper) (v : Value) (hi : ops[i]? = some oi) (hw : want ops n f oi = true) (hv : ∀ w, Own M W w (E ++ L0) → (execOp (ev n f) oi).run P w = .ok (.value v) w)
    (h : HSeg M P n ops W L0 Q fuel (listed.setIfInBounds i true) (E ++ L0) (upd f oi.dst v)) : HStep M P n ops W L0 Q fuel listed i (E ++ L0) f :=
  hs_step hi hw fun w hO => wp_val v (hv w hO) ⟨hO.sub E, h.go w hO⟩
theorem hs_call {i : Nat} (E : List Blk) (oi : Oper) {k : FuncId} {args : Array Value} (v : Value) (hi : ops[i]? = some oi) (hw : want ops n f oi = true) (he : ∀ w, (execOp (ev n f) oi).run P w = .ok (.enter k args) w)
    (hc : ∀ w, Own M W w (E ++ L0) → Calls P k args w fun e w' => e = .returned v ∧ Below w.heap.size w w') (h : HSeg M P n ops W L0 Q fuel (listed.setIfInBounds i true) (E ++ L0) (upd f oi.dst v)) : HStep M P n ops W L0 Q fuel listed i (E ++ L0) f :=
  hs_step hi hw fun w hO => wp_enter (he w) ((hc w hO).mono fun e w' ⟨e1, e2⟩ => ⟨v, e1, (hO.on e2).sub E, h.go w' (hO.on e2)⟩)
theorem hs_alloc {i : Nat} (E : List Blk) (oi : Oper) {T : TypeId} (z : Value) (hi : ops[i]? = some oi) (hw : want ops n f oi = true) (ho : oi.op = .alloc T) (hz : (P.info? T).map (·.zero) = some (some z))
    (h : ∀ b, HSeg M P n ops W L0 Q fuel (listed.setIfInBounds i true) ((⟨b, z.cells, T⟩ :: E) ++ L0) (upd f oi.dst (.pointer (some ⟨b, 0, none⟩)))) : HStep M P n ops W L0 Q fuel listed i (E ++ L0) f :=
  hs_step hi hw fun w hO => by
    cases hq : P.info? T with
    | none => rw [hq] at hz; cases hz
    | some t =>
      rw [hq] at hz
      have hz' : t.zero = some z := Option.some.inj hz
      have hO' := hO.alloc z.cells T
      refine wp_val (.pointer (some ⟨w.heap.size, 0, none⟩)) (w' := w.alloc (.cells z.cells T)) ?_ ⟨Own.sub (⟨w.heap.size, z.cells, T⟩ :: E) hO', (h w.heap.size).go _ hO'⟩
      unfold execOp
      simp [ho, Instr.alloc, zeroValue, typeInfo, hq, hz', newVar, newRow, Sem.run_bind]
/-- A store into a block that the region has made. -/
theorem hs_store {i : Nat} (E : List Blk) (oi : Oper) (k : Nat) (x : Blk) {T : TypeId} {p q : Operand} {off : Nat} (v : Value) (hi' : ops[i]? = some oi) (hw : want ops n f oi = true) (ho : oi.op = .store T p q) (hd : oi.dst = none) (hL : E[k]? = some x)
    (hp : ev n f p = .pointer (some ⟨x.b, off, none⟩)) (hq : ev n f q = v) (hi : ((P.info? T).map fun t => Nat.beq v.cells.size t.size && Nat.ble (off + t.size) x.cs.size) = some true) (h1 : (v.cells.toList.all fun u => u.oneCell') = true)
    (h : HSeg M P n ops W L0 Q fuel (listed.setIfInBounds i true) (E.set k ⟨x.b, storeIn x.cs off v.cells, x.ty⟩ ++ L0) f) : HStep M P n ops W L0 Q fuel listed i (E ++ L0) f :=
  hs_step hi' hw fun w hO => by
    have hkE := (List.getElem?_eq_some_iff.1 hL).1
    have hL' : (E ++ L0)[k]? = some x := by rw [List.getElem?_append_left hkE]; exact hL
    have hset : (E ++ L0).set k ⟨x.b, storeIn x.cs off v.cells, x.ty⟩ = E.set k ⟨x.b, storeIn x.cs off v.cells, x.ty⟩ ++ L0 := List.set_append_left _ _ hkE
    cases hz : P.info? T with
    | none => rw [hz] at hi; cases hi
    | some t =>
      rw [hz] at hi
      have e : (Nat.beq v.cells.size t.size && Nat.ble (off + t.size) x.cs.size) = true := Option.some.inj hi
      rw [Bool.and_eq_true] at e
      have hs := Nat.eq_of_beq_eq_true e.1
      have hle := Nat.le_of_ble_eq_true e.2
      have hst := run_storeCells_at (P := P) x.b off x.ty v.cells.toList 0 x.cs w (hO.get hL') (by simp; omega) (List.all_eq_true.1 h1)
      have hO' := hO.put hL' (storeIn x.cs off v.cells)
      rw [hset] at hO'
      unfold Oper.wp
      rw [Fr_eval]
      have hr : (execOp (ev n f) oi).run P w = .ok .skip (w.setRow x.b (storeIn x.cs off v.cells)) := by
        unfold execOp
        simp only [ho, hp, hq, Instr.storeAt, Instr.sureAddr, Sem.run_bind, Sem.run_pure, Result.andThen_ok, storeVar, sizeOf, typeInfo, hz, hs, run_program]
        simp only [ne_eq, not_true_eq_false, if_false]
        have : (storeCells ⟨x.b, off, none⟩ v.cells.toList).run P w = .ok () (w.setRow x.b (storeIn x.cs off v.cells)) := by
          rw [hst]; unfold storeIn; simp
        simp [this]
      rw [hr]
      show Own M W _ L0 ∧ wpAnyH P .any ops Q (fun w => Own M W w L0) fuel (listed.setIfInBounds i true) ((Fr n f).put oi.dst undef) _
      rw [Fr_put, hd]
      exact ⟨Own.sub _ hO', h.go _ hO'⟩
theorem ok_swap {c : Code} {x y : Blk} (h : Ok M P n W Q c (x :: y :: L) f) : Ok M P n W Q c (y :: x :: L) f := ⟨fun w hO => h.go w hO.swap⟩
theorem fin_swap {e : Exit} {x y : Blk} (h : Fin M n W Q e (x :: y :: L) f) : Fin M n W Q e (y :: x :: L) f := ⟨fun w hO => h.go w hO.swap⟩
end
end Go.Proofs.YtmlecnomdamgnaaGreat
end

section
/-
  Slices that the call has made: what they hold, append, an element's address and value. No condition of their own but the bounds that each theorem names.
-/
namespace Go.Proofs.YtmlecnomdamgnaaGreat
open Go.RowKit
set_option linter.unusedVariables false
set_option linter.unusedSimpArgs false

/-- The slice value v has n elements of type T (sz cells each), the cells xs; it is nil, or it lies at the head of the one block of ob. -/
def Sl (T : TypeId) (sz : Nat) (v : Value) (n : Nat) (xs : List Value) (ob : List Blk) : Prop :=
  xs.length = n * sz ∧ ((v = .slice none 0 0 ∧ n = 0 ∧ ob = []) ∨
    ∃ g cap cur, v = .slice (some ⟨g, 0, none⟩) n cap ∧ ob = [⟨g, cur, T⟩] ∧ n ≤ cap ∧ cap ≤ maxLen ∧ cur.size = cap * sz ∧ cur.toList.take (n * sz) = xs)
theorem Sl.nil (T : TypeId) (sz : Nat) : Sl T sz (.slice none 0 0) 0 [] [] := ⟨by simp, .inl ⟨rfl, rfl, rfl⟩⟩
/-- The list of blocks in another order, or with some left out. -/
theorem Own.take {M : List Nat} {W w : World} {L L' : List Blk} (h : Own M W w L) (hs : ∀ x ∈ L', x ∈ L) (hn : (L'.map Blk.b).Nodup) : Own M W w L' :=
  ⟨h.os, h.tape, h.output, h.size, h.drawn, h.kept, fun x hx => h.held x (hs x hx), fun x hx => h.base x (hs x hx), hn⟩
theorem Own.move {M : List Nat} {W w : World} {E ob L0 : List Blk} {x : Blk} (h : Own M W w (x :: (E ++ ob ++ L0))) : Own M W w (E ++ [x] ++ L0) := by
  refine h.take (fun y hy => ?_) ?_
  · simp only [List.mem_append, List.mem_cons, List.not_mem_nil, or_false] at hy ⊢
    rcases hy with (hy | hy) | hy
    · exact .inr (.inl (.inl hy))
    · exact .inl hy
    · exact .inr (.inr hy)
  · have h1 := h.apart
    have h2 : ((x :: (E ++ L0)).map Blk.b).Nodup := by
      refine h1.sublist (List.Sublist.map _ (List.Sublist.cons_cons _ ?_))
      rw [List.append_assoc]
      exact List.Sublist.append (List.Sublist.refl E) (List.sublist_append_right ob L0)
    have hp : (E ++ [x] ++ L0).Perm (x :: (E ++ L0)) := by
      rw [List.append_assoc]; exact List.perm_middle
    exact (hp.map Blk.b).nodup_iff.2 h2
theorem drew_own {M : List Nat} {W w : World} {L : List Blk} (h : Own M W w L) : Own M W w.drew L := h.drew
section
variable {M : List Nat} {P : Program} {W w : World} {E ob L0 : List Blk}
/-- append, precisely: in place, or in a new block in the old one's stead. -/
theorem own_append {t ty T : TypeId} {i : TypeInfo} {z : Value} {sz : Nat} (ht : P.underlying t = some (.slice T)) (hi : P.info? T = some i) (hz : i.zero = some z) (hsz : i.size = sz) (hzs : z.cells.size = sz)
    {v : Value} {n : Nat} {xs : List Value} (hv : Sl T sz v n xs ob) (hO : Own M W w (E ++ ob ++ L0))
    {a : Addr} {m c : Nat} {news : List Value} (hl : news.length = m * sz) (hnews : ∀ j u, news[j]? = some u → w.cell? (a.add j) = some u) (h1 : ∀ u ∈ news, u.oneCell' = true)
    (h63 : n + m ≤ maxLen) (hbytes : (n + m) * i.bytes ≤ 140737488355328) :
    ∃ v' w' ob', (Builtin.append_ #[t, t] ty #[v, .slice (some a) m c]).run P w = .ok v' w' ∧ Sl T sz v' (n + m) (xs ++ news) ob' ∧ Own M W w' (E ++ ob' ++ L0) := by
  subst hsz
  have hsmall : n + m ≤ 9223372036854775807 := by simp only [maxLen] at h63; omega
  have hlen : (xs ++ news).length = (n + m) * i.size := by rw [List.length_append, hv.1, hl, Nat.add_mul]
  rcases hv.2 with ⟨rfl, rfl, rfl⟩ | ⟨g, cap, cur, rfl, rfl, hnc, hcm, hcs, htake⟩
  · have hx : xs = [] := List.eq_nil_of_length_eq_zero (by simpa using hv.1)
    subst hx
    by_cases hm : m = 0
    · subst hm
      have hn : news = [] := List.eq_nil_of_length_eq_zero (by simpa using hl)
      subst hn
      refine ⟨.slice none 0 0, w, [], ?_, Sl.nil T i.size, hO⟩
      simp [Builtin.append_, run_underlying ht, sizeOf, typeInfo, hi, Builtin.lenOf, Builtin.firstCells, loadCells, loadCellsFrom]
    · have hr := run_append_nil (P := P) w t ty T i z ht hi hz a m c news hl hnews (by omega) (by omega) (by have hb := hbytes; simp only [Nat.zero_add] at hb; omega)
      have hge := grownCap_ge w m 0 T
      have hcm := grownCap_le_maxLen w m 0 T (by simpa using h63)
      refine ⟨_, _, [⟨w.heap.size, news.toArray ++ Builtin.zeroCells z.cells (grownCap w m 0 T - m), T⟩], hr, ⟨by simpa using hlen, .inr ⟨w.heap.size, _, _, by simp, rfl, by simpa using hge, hcm, ?_, ?_⟩⟩, ?_⟩
      · simp only [Array.size_append, List.size_toArray, size_zeroCells, hzs, hl, ← Nat.add_mul]
        congr 1
        omega
      · simp only [Array.toList_append, Nat.zero_add, List.nil_append]
        rw [← hl]
        exact List.take_left
      · have := (drew_own hO).alloc (news.toArray ++ Builtin.zeroCells z.cells (grownCap w m 0 T - m)) T
        exact Own.move (ob := []) this
  · by_cases hroom : n + m ≤ cap
    · have hfit : n * i.size + news.length ≤ cur.size := by rw [hl, hcs, ← Nat.add_mul]; exact Nat.mul_le_mul_right _ hroom
      have hk : (E ++ [Blk.mk g cur T] ++ L0)[E.length]? = some ⟨g, cur, T⟩ := by simp
      have hg := hO.get hk
      have hr := run_append_room (P := P) w t ty T i ht hi g n cap cur hg a m c news hl hnews h1 hroom hfit
      refine ⟨_, _, [⟨g, (cur.toList.take (n * i.size) ++ news ++ cur.toList.drop (n * i.size + news.length)).toArray, T⟩], hr, ⟨hlen, .inr ⟨g, cap, _, rfl, rfl, hroom, hcm, ?_, ?_⟩⟩, ?_⟩
      · simp only [List.size_toArray, List.length_append, List.length_take, List.length_drop, Array.length_toList]
        omega
      · rw [htake, ← hlen]
        exact List.take_left
      · have := hO.put hk (cur.toList.take (n * i.size) ++ news ++ cur.toList.drop (n * i.size + news.length)).toArray
        have e : (E ++ [Blk.mk g cur T] ++ L0).set E.length ⟨g, (cur.toList.take (n * i.size) ++ news ++ cur.toList.drop (n * i.size + news.length)).toArray, T⟩ = E ++ [⟨g, (cur.toList.take (n * i.size) ++ news ++ cur.toList.drop (n * i.size + news.length)).toArray, T⟩] ++ L0 := by simp
        rw [e] at this; exact this
    · have hk : (E ++ [Blk.mk g cur T] ++ L0)[E.length]? = some ⟨g, cur, T⟩ := by simp
      have hg := hO.get hk
      have holds : ∀ j u, xs[j]? = some u → w.cell? ((⟨g, 0, none⟩ : Addr).add j) = some u := fun j u hj => by
        rw [add_off, cell_of_row w g (0 + j) cur T _ hg]
        rw [← htake, List.getElem?_take] at hj
        split at hj
        · simpa using hj
        · cases hj
      have hr := run_append_grow (P := P) w t ty T i z ht hi hz ⟨g, 0, none⟩ n cap xs hv.1 holds a m c news hl hnews (by omega) (by omega) (growslice_fits (by omega) hbytes)
      have hge := grownCap_ge w (n + m) cap T
      have hcm := grownCap_le_maxLen w (n + m) cap T h63
      refine ⟨_, _, [⟨w.heap.size, xs.toArray ++ news.toArray ++ Builtin.zeroCells z.cells (grownCap w (n + m) cap T - (n + m)), T⟩], hr, ⟨hlen, .inr ⟨w.heap.size, _, _, rfl, rfl, hge, hcm, ?_, ?_⟩⟩, ?_⟩
      · simp only [Array.size_append, List.size_toArray, size_zeroCells, hzs, hv.1, hl, ← Nat.add_mul]
        congr 1
        omega
      · simp only [Array.toList_append, List.append_assoc]
        rw [← List.append_assoc, ← hlen]
        exact List.take_left
      · exact Own.move ((drew_own hO).alloc (xs.toArray ++ news.toArray ++ Builtin.zeroCells z.cells (grownCap w (n + m) cap T - (n + m))) T)
/-- append of nothing (a nil slice). -/
theorem own_append_nil {t ty T : TypeId} {i : TypeInfo} (ht : P.underlying t = some (.slice T)) (hi : P.info? T = some i) {sz : Nat} {v : Value} {n : Nat} {xs : List Value} (hv : Sl T sz v n xs ob) (m0 : Nat) :
    (Builtin.append_ #[t, t] ty #[v, .slice none 0 0]).run P w = .ok v w := by
  rcases hv.2 with ⟨rfl, rfl, rfl⟩ | ⟨g, cap, cur, rfl, rfl, hnc, hcm, hcs, htake⟩
  · simp [Builtin.append_, run_underlying ht, sizeOf, typeInfo, hi, Builtin.lenOf, Builtin.firstCells]
  · simp [Builtin.append_, run_underlying ht, sizeOf, typeInfo, hi, Builtin.lenOf, Builtin.firstCells, hnc, storeCells]
end
section
variable {M : List Nat} {P : Program} {n0 : Nat} {ops : Array Oper} {W : World} {Q : Exit → Act → World → Prop} {rest : List Oper} {o : Oper} {E ob L0 : List Blk} {f : Nat → Value}
/-- The operation append(s, x..): s a slice of the call's own. -/
theorem s_append {t T : TypeId} {s x : Operand} {i : TypeInfo} {z : Value} {sz : Nat} (hw : want ops n0 f o = true) (ho : o.op = .call { callee := .builtin .append, args := #[s, x], argTypes := #[t, t] })
    (ht : P.underlying t = some (.slice T)) (hi : P.info? T = some i) (hz : i.zero = some z) (hsz : i.size = sz) (hzs : z.cells.size = sz)
    {v : Value} {n : Nat} {xs : List Value} (hs : ev n0 f s = v) (hv : Sl T sz v n xs ob) {a : Addr} {m c : Nat} {news : List Value} (hx : ev n0 f x = .slice (some a) m c)
    (hl : news.length = m * sz) (hnews : ∀ w, Own M W w (E ++ ob ++ L0) → ∀ j u, news[j]? = some u → w.cell? (a.add j) = some u) (h1 : ∀ u ∈ news, u.oneCell' = true)
    (h63 : n + m ≤ maxLen) (hbytes : (n + m) * i.bytes ≤ 140737488355328)
    (h : ∀ v' ob', Sl T sz v' (n + m) (xs ++ news) ob' → Seg M P n0 ops W Q rest (E ++ ob' ++ L0) (upd f o.dst v')) : Seg M P n0 ops W Q (o :: rest) (E ++ ob ++ L0) f :=
  s_step hw fun w hO => by
    obtain ⟨v', w', ob', hr, h2, h3⟩ := own_append (P := P) (ty := o.type) (c := c) ht hi hz hsz hzs hv hO hl (hnews w hO) h1 h63 hbytes
    refine wp_val v' (w' := w') ?_ ((h v' ob' h2).go w' h3)
    unfold execOp
    simp only [ho, resolve, invoke, builtin, Sem.run_bind, Sem.run_pure, Result.andThen_ok, List.map_toArray, List.map_cons, List.map_nil, hs, hx, hr]
theorem s_append_nil {t T : TypeId} {s x : Operand} {i : TypeInfo} {sz : Nat} (hw : want ops n0 f o = true) (ho : o.op = .call { callee := .builtin .append, args := #[s, x], argTypes := #[t, t] })
    (ht : P.underlying t = some (.slice T)) (hi : P.info? T = some i) {v : Value} {n : Nat} {xs : List Value} (hs : ev n0 f s = v) (hv : Sl T sz v n xs ob) (hx : ev n0 f x = .slice none 0 0)
    (h : Seg M P n0 ops W Q rest (E ++ ob ++ L0) (upd f o.dst v)) : Seg M P n0 ops W Q (o :: rest) (E ++ ob ++ L0) f :=
  s_step hw fun w hO => by
    refine wp_val v (w' := w) ?_ (h.go w hO)
    unfold execOp
    simp only [ho, resolve, invoke, builtin, Sem.run_bind, Sem.run_pure, Result.andThen_ok, List.map_toArray, List.map_cons, List.map_nil, hs, hx, own_append_nil ht hi hv 0]
/-- A slice literal: a new block. -/
theorem s_lit {L : List Blk} {t : TypeId} {len : Nat} {parts : Array (Nat × Operand)} (T : TypeId) (cs : Array Value) (hw : want ops n0 f o = true) (ho : o.op = .buildSlice t len parts)
    (hr : ∀ w, (execOp (ev n0 f) o).run P w = .ok (.value (.slice (some ⟨w.heap.size, 0, none⟩) len len)) (w.alloc (.cells cs T)))
    (h : ∀ b, Seg M P n0 ops W Q rest (⟨b, cs, T⟩ :: L) (upd f o.dst (.slice (some ⟨b, 0, none⟩) len len))) : Seg M P n0 ops W Q (o :: rest) L f :=
  s_step hw fun w hO => wp_val _ (hr w) ((h w.heap.size).go _ (hO.alloc _ _))
/-- The address of a slice's element. -/
theorem run_ixsl {ρ : Operand → Value} {t e : TypeId} {x ix : Operand} {b off off' n c sz : Nat} {k : IntKind} {j : Int} (ho : o.op = .indexAddr t x ix) (hx : ρ x = .slice (some ⟨b, off, none⟩) n c) (hi : ρ ix = .int k j)
    (hu : P.underlying t = some (.slice e)) (hs : (P.info? e).map (·.size) = some sz) (h0 : 0 ≤ j) (h1 : j < n) (hoff : off + j.toNat * sz = off') (w : World) : (execOp ρ o).run P w = .ok (.value (.pointer (some ⟨b, off', none⟩))) w := by
  subst hoff
  cases he : P.info? e with
  | none => rw [he] at hs; cases hs
  | some i =>
    rw [he] at hs
    obtain rfl := Option.some.inj hs
    unfold execOp
    simp [ho, hx, hi, Instr.indexAt, Sem.run_bind, asIntOf, run_underlying hu, Instr.sureAddr, h0, h1, sizeOf, typeInfo, he, add_off]
end
/-! ### Elements -/
section
variable {α : Type} {g : α → List Value} {sz : Nat}
theorem flat_len (hg : ∀ x, (g x).length = sz) (l : List α) : (l.flatMap g).length = l.length * sz := by
  induction l with
  | nil => simp
  | cons x l ih => rw [List.flatMap_cons, List.length_append, hg, ih, List.length_cons, Nat.succ_mul, Nat.add_comm]
theorem flat_at (hg : ∀ x, (g x).length = sz) (l : List α) : ∀ k (h : k < l.length), ((l.flatMap g).drop (k * sz)).take sz = g l[k] := by
  induction l with
  | nil => intro k h; simp at h
  | cons x l ih =>
    intro k h
    rw [List.flatMap_cons]
    cases k with
    | zero =>
      have := hg x
      rw [Nat.zero_mul, List.drop_zero, ← this, List.take_left]; rfl
    | succ k =>
      rw [Nat.succ_mul, Nat.add_comm, ← List.drop_drop]
      have hd : (g x ++ l.flatMap g).drop sz = l.flatMap g := by rw [← hg x]; exact List.drop_left
      rw [hd]
      exact ih k (by simpa using h)
/-- An element of a slice of structs, read out of its block. -/
theorem read_elem {P : Program} {T : TypeId} {d : TypeDesc} {i : TypeInfo} (hg : ∀ x, (g x).length = sz) (hu : P.underlying T = some d) (hd : aggB d = true) (hi : P.info? T = some i) (hsz : i.size = sz) {cur : Array Value} {n : Nat} {l : List α} (hn : l.length = n) {cap : Nat} (hc : cur.size = cap * sz) (hnc : n ≤ cap)
    (ht : cur.toList.take (n * sz) = l.flatMap g) (k : Nat) (hk : k < l.length) : readAt P T cur (k * sz) = some (.agg (g l[k]).toArray) := by
  subst hsz
  have hle : k * i.size + i.size ≤ n * i.size := by rw [← Nat.succ_mul]; exact Nat.mul_le_mul_right _ (by omega)
  have hle2 : n * i.size ≤ cur.size := by rw [hc]; exact Nat.mul_le_mul_right _ hnc
  have e : (cur.toList.drop (k * i.size)).take i.size = g l[k] := by
    rw [← flat_at hg l k hk, ← ht, List.drop_take, List.take_take, Nat.min_eq_left (by omega)]
  unfold readAt
  rw [hu, hi]
  cases d <;> first | (simp [aggB] at hd; done) | (dsimp only; rw [if_pos (by omega), e])
end
end Go.Proofs.YtmlecnomdamgnaaGreat
end

section
/-
  Slices that came in (or that a caller owns), read element by element; loops: the frame at a round's head. No condition of their own but what each theorem names.
-/
namespace Go.Proofs.YtmlecnomdamgnaaGreat
open Go.RowKit
set_option linter.unusedVariables false
set_option linter.unusedSimpArgs false

/-! ### A frame whose slots are known in part -/
def upds (f : Nat → Value) : List (Nat × Value) → Nat → Value
  | [] => f
  | p :: r => upd (upds f r) (some p.1) p.2
def Agrees (f : Nat → Value) : List (Nat × Value) → Prop
  | [] => True
  | p :: r => f p.1 = p.2 ∧ Agrees f r
theorem upds_self {f : Nat → Value} : ∀ (l : List (Nat × Value)), Agrees f l → f = upds f l
  | [], _ => rfl
  | p :: r, h => by
    have e := upds_self r h.2
    have h1 : upds f r p.1 = p.2 := by rw [← e]; exact h.1
    show f = upd (upds f r) (some p.1) p.2
    rw [← upd_self h1]; exact e

/-! ### Reading -/
/-- The slice v reads as the list l, each element as sz cells by g, out of a block below B. -/
def Reads {α : Type} (g : α → List Value) (w : World) (B : Nat) (A : Option Addr) (l : List α) : Prop :=
  0 < l.length → ∃ b off, A = some ⟨b, off, none⟩ ∧ b < B ∧ ∀ k u, (l.flatMap g)[k]? = some u → w.cell? ⟨b, off + k, none⟩ = some u
theorem Reads.on {α : Type} {g : α → List Value} {w w' : World} {B B' : Nat} {A : Option Addr} {l : List α} (h : Reads g w B A l) (hb : Below B w w') (hB : B ≤ B') : Reads g w' B' A l := fun h0 => by
  obtain ⟨b, off, e, hlt, hc⟩ := h h0
  exact ⟨b, off, e, by omega, fun k u hk => (hb.cell (p := ⟨b, off + k, none⟩) hlt).trans (hc k u hk)⟩
/-- What a caller owns, as its callee reads it. -/
theorem Sl.reads {α : Type} {g : α → List Value} {T sz n : Nat} {A : Option Addr} {cap : Nat} {l : List α} {ob : List Blk} {M : List Nat} {W w : World} {L : List Blk} (h : Sl T sz (.slice A n cap) n (l.flatMap g) ob) (hn : l.length = n) (hO : Own M W w L) (hs : ∀ x ∈ ob, x ∈ L) :
    Reads g w w.heap.size A l := fun h0 => by
  rcases h.2 with ⟨_, h2, _⟩ | ⟨b, c, cur, e, rfl, h3, h4, h5, h6⟩
  · omega
  · obtain ⟨rfl, _, rfl⟩ : A = some ⟨b, 0, none⟩ ∧ True ∧ cap = c := by
      simp only [Value.slice.injEq] at e; exact ⟨e.1, trivial, e.2.2⟩
    have hb := hs ⟨b, cur, T⟩ (by simp)
    refine ⟨b, 0, rfl, hO.lt hb, fun k u hk => ?_⟩
    rw [cell_of_row w b (0 + k) cur T _ (hO.held _ hb)]
    rw [← h6, List.getElem?_take] at hk
    split at hk
    · simpa using hk
    · cases hk
section
variable {P : Program}
/-- A variable whose cells are known. -/
theorem old_load {ty : TypeId} {w : World} {b o : Nat} (cs : List Value) (v : Value) (h : ∀ k u, cs[k]? = some u → w.cell? ⟨b, o + k, none⟩ = some u) (hr : readAt P ty cs.toArray 0 = some v) : (loadVar ty ⟨b, o, none⟩).run P w = .ok v w := by
  unfold readAt at hr
  cases hu : P.underlying ty with
  | none => rw [hu] at hr; simp at hr
  | some d =>
    cases hi : P.info? ty with
    | none => rw [hu, hi] at hr; cases d <;> simp at hr
    | some i =>
      rw [hu, hi] at hr
      by_cases hd : aggB d = true
      · have h2 : (if 0 + i.size ≤ cs.toArray.size then some (Value.agg (cs.toArray.toList.drop 0 |>.take i.size).toArray) else none) = some v := by
          cases d <;> first | exact hr | (simp [aggB] at hd)
        split at h2
        · rename_i hle
          obtain rfl := Option.some.inj h2
          have hlen : (cs.take i.size).length = i.size := by simp at hle ⊢; omega
          have hl := run_loadCells_list (P := P) w ⟨b, o, none⟩ (cs.take i.size) (fun j u hj => by
            rw [add_off]
            rw [List.getElem?_take] at hj
            split at hj
            · exact h j u hj
            · cases hj)
          rw [hlen] at hl
          have hagg : (isAgg ty).run P w = .ok true w := by
            unfold isAgg
            rw [Sem.run_bind, run_underlying hu w]
            cases d <;> simp_all [aggB]
          simp [loadVar, Sem.run_bind, hagg, sizeOf, typeInfo, hi, hl]
        · cases h2
      · have h2 : cs.toArray[0]? = some v := by cases d <;> first | exact hr | (simp [aggB] at hd)
        have hagg : (isAgg ty).run P w = .ok false w := by
          unfold isAgg
          rw [Sem.run_bind, run_underlying hu w]
          cases d <;> simp_all [aggB]
        have hc : w.cell? ⟨b, o, none⟩ = some v := by simpa using h 0 v (by simpa using h2)
        simp [loadVar, Sem.run_bind, hagg, run_load, hc, Result.andThen]
/-- An element, or a part of it from its cell number fo on. -/
theorem elem_load {α : Type} {g : α → List Value} {sz : Nat} (hg : ∀ x, (g x).length = sz) {ty : TypeId} {w : World} {b off o : Nat} {l : List α} (hc : ∀ k u, (l.flatMap g)[k]? = some u → w.cell? ⟨b, off + k, none⟩ = some u) (k fo : Nat) (hk : k < l.length) (ho : o = off + k * sz + fo) (v : Value)
    (hr : readAt P ty ((g l[k]).drop fo).toArray 0 = some v) : (loadVar ty ⟨b, o, none⟩).run P w = .ok v w := by
  subst ho
  refine old_load ((g l[k]).drop fo) v (fun j u hj => ?_) hr
  have e : ((l.flatMap g)[k * sz + (fo + j)]?) = some u := by
    rw [List.getElem?_drop] at hj
    have := flat_at hg l k hk
    rw [← this, List.getElem?_take] at hj
    split at hj
    · rw [List.getElem?_drop] at hj; exact hj
    · cases hj
  have := hc _ u e
  rw [show off + (k * sz + (fo + j)) = off + k * sz + fo + j from by omega] at this
  exact this
/-- The address of an element of a slice that came in. -/
theorem run_ixA {ρ : Operand → Value} {o : Oper} {t e : TypeId} {x ix : Operand} {A : Option Addr} {b off off' n c sz : Nat} {k : IntKind} {j : Int} (ho : o.op = .indexAddr t x ix) (hx : ρ x = .slice A n c) (hA : A = some ⟨b, off, none⟩) (hi : ρ ix = .int k j)
    (hu : P.underlying t = some (.slice e)) (hs : (P.info? e).map (·.size) = some sz) (h0 : 0 ≤ j) (h1 : j < n) (hoff : off + j.toNat * sz = off') (w : World) : (execOp ρ o).run P w = .ok (.value (.pointer (some ⟨b, off', none⟩))) w := by
  subst hA
  exact run_ixsl ho hx hi hu hs h0 h1 hoff w
end
end Go.Proofs.YtmlecnomdamgnaaGreat
end

section
/-
  A region that draws its order and makes memory, more freely: any list of blocks that holds the ones at its start which nobody writes; append, slice literals and calls that hand back new memory; and the list of blocks in another form. No condition of their own.
-/
namespace Go.Proofs.YtmlecnomdamgnaaGreat
open Go.RowKit
set_option linter.unusedVariables false
set_option linter.unusedSimpArgs false
section
variable {M : List Nat} {P : Program} {n : Nat} {ops : Array Oper} {W : World} {Q : Exit → Act → World → Prop} {L0 L : List Blk} {f : Nat → Value} {fuel : Nat} {listed : Array Bool} {rest : List Oper} {o : Oper}
theorem s_cast {L' : List Blk} (e : L = L') (h : Seg M P n ops W Q rest L' f) : Seg M P n ops W Q rest L f := by subst e; exact h
theorem ok_cast {L' : List Blk} {c : Code} (e : L = L') (h : Ok M P n W Q c L' f) : Ok M P n W Q c L f := by subst e; exact h
theorem fin_cast {L' : List Blk} {x : Exit} (e : L = L') (h : Fin M n W Q x L' f) : Fin M n W Q x L f := by subst e; exact h
theorem ok_take {L' : List Blk} {c : Code} (hs : ∀ w, Own M W w L → Own M W w L') (h : Ok M P n W Q c L' f) : Ok M P n W Q c L f := ⟨fun w hO => h.go w (hs w hO)⟩
theorem s_take {L' : List Blk} (hs : ∀ w, Own M W w L → Own M W w L') (h : Seg M P n ops W Q rest L' f) : Seg M P n ops W Q rest L f := ⟨fun w hO => h.go w (hs w hO)⟩
theorem fin_take {L' : List Blk} {x : Exit} (hs : ∀ w, Own M W w L → Own M W w L') (h : Fin M n W Q x L' f) : Fin M n W Q x L f := ⟨fun w hO => h.go w (hs w hO)⟩
theorem h_cast {L' : List Blk} (e : L = L') (h : HSeg M P n ops W L0 Q fuel listed L' f) : HSeg M P n ops W L0 Q fuel listed L f := by subst e; exact h
/-- The start: L0, of the blocks at hand those that nobody in the region writes. -/
theorem ok_anyhL {id : Nat} {l : List Oper} (L0 : List Blk) (hm : P.follows .mixedOrders = true) (hsub : ∀ w, Own M W w L → Own M W w L0) (h : HSeg M P n l.toArray W L0 Q l.length (Array.replicate l.length false) L f) : Ok M P n W Q (.region id l.toArray true) L f := ⟨fun w hO =>
  wp_region_held (id := id) (S := fun w => Own M W w L0) hm (ops := l.toArray) (Q := Q) (a := Fr n f) (w := w) (by simpa using h.go _ hO.drew)⟩
theorem hl_take (i : Nat) (oi : Oper) (v : Value) (hi : ops[i]? = some oi) (hs : Region.noSelect ops = true) (hf : Region.free .any ops listed i = true) (hr : (Region.ready .any ops listed).contains i = true)
    (hQ : PQ Q) (hsub : ∀ w, Own M W w L → Own M W w L0) (hw : want ops n f oi = true) (hv : ∀ w, Own M W w L0 → (execOp (ev n f) oi).run P w = .ok (.value v) w)
    (h : HSeg M P n ops W L0 Q fuel (listed.setIfInBounds i true) L (upd f oi.dst v)) : HSeg M P n ops W L0 Q (fuel + 1) listed L f := ⟨fun w hO => by
  refine wpAnyH_take hi hs hf hr (fun c a w h => hQ c a _ _ w h) (Or.inl ⟨by rw [want_eq]; exact hw, fun w hw' => by rw [Fr_eval]; exact hv w hw'⟩) (hsub w hO) ?_
  rw [Fr_put]
  exact h.go w hO⟩
theorem hl_skip (i : Nat) (oi : Oper) (hi : ops[i]? = some oi) (hs : Region.noSelect ops = true) (hf : Region.free .any ops listed i = true) (hr : (Region.ready .any ops listed).contains i = true)
    (hQ : PQ Q) (hsub : ∀ w, Own M W w L → Own M W w L0) (hw : want ops n f oi = false)
    (h : HSeg M P n ops W L0 Q fuel (listed.setIfInBounds i true) L (upd f oi.dst undef)) : HSeg M P n ops W L0 Q (fuel + 1) listed L f := ⟨fun w hO => by
  refine wpAnyH_take hi hs hf hr (fun c a w h => hQ c a _ _ w h) (Or.inr ⟨by rw [want_eq]; exact hw, rfl⟩) (hsub w hO) ?_
  rw [Fr_put]
  exact h.go w hO⟩
theorem hl_load (i : Nat) (oi : Oper) (k : Nat) (x : Blk) {ty : TypeId} {p : Operand} {off : Nat} (v : Value) (hi : ops[i]? = some oi) (hs : Region.noSelect ops = true) (hf : Region.free .any ops listed i = true) (hr : (Region.ready .any ops listed).contains i = true)
    (hQ : PQ Q) (hsub : ∀ w, Own M W w L → Own M W w L0) (hw : want ops n f oi = true) (ho : oi.op = .load ty p) (hL : L0[k]? = some x) (hp : ev n f p = .pointer (some ⟨x.b, off, none⟩)) (hv : readAt P ty x.cs off = some v)
    (h : HSeg M P n ops W L0 Q fuel (listed.setIfInBounds i true) L (upd f oi.dst v)) : HSeg M P n ops W L0 Q (fuel + 1) listed L f :=
  hl_take i oi v hi hs hf hr hQ hsub hw (fun _ hO => run_load_op ho hp (run_readAt hv (hO.get hL))) h
theorem hl_old (i : Nat) (oi : Oper) {ty : TypeId} {p : Operand} {a : Addr} (v : Value) (hi : ops[i]? = some oi) (hs : Region.noSelect ops = true) (hf : Region.free .any ops listed i = true) (hr : (Region.ready .any ops listed).contains i = true)
    (hQ : PQ Q) (hsub : ∀ w, Own M W w L → Own M W w L0) (hw : want ops n f oi = true) (ho : oi.op = .load ty p) (hp : ev n f p = .pointer (some a)) (hv : ∀ w, Own M W w L0 → (loadVar ty a).run P w = .ok v w)
    (h : HSeg M P n ops W L0 Q fuel (listed.setIfInBounds i true) L (upd f oi.dst v)) : HSeg M P n ops W L0 Q (fuel + 1) listed L f :=
  hl_take i oi v hi hs hf hr hQ hsub hw (fun w hO => run_load_op ho hp (hv w hO)) h
/-- An operation that is carried out: what it leaves. -/
theorem hl_step {i : Nat} (oi : Oper) (hi : ops[i]? = some oi) (hw : want ops n f oi = true) (L' : World → Value → List Blk → Prop)
    (h : ∀ w, Own M W w L → oi.wp P (Fr n f) w (fun a' w' => ∃ L' f', a' = Fr n f' ∧ Own M W w' L' ∧ Own M W w' L0 ∧ HSeg M P n ops W L0 Q fuel (listed.setIfInBounds i true) L' f') Q) : HStep M P n ops W L0 Q fuel listed i L f :=
  hs_step hi hw fun w hO => by
    refine Oper.wp_mono (fun a' w' ⟨L', f', e, h1, h2, h3⟩ => ?_) (h w hO)
    subst e
    exact ⟨h2, h3.go w' h1⟩
theorem hl_val {i : Nat} (oi : Oper) (v : Value) (hi : ops[i]? = some oi) (hw : want ops n f oi = true) (hsub : ∀ w, Own M W w L → Own M W w L0) (hv : ∀ w, Own M W w L → (execOp (ev n f) oi).run P w = .ok (.value v) w)
    (h : HSeg M P n ops W L0 Q fuel (listed.setIfInBounds i true) L (upd f oi.dst v)) : HStep M P n ops W L0 Q fuel listed i L f :=
  hs_step hi hw fun w hO => wp_val v (hv w hO) ⟨hsub w hO, h.go w hO⟩
theorem hl_call {i : Nat} (oi : Oper) {k : FuncId} {args : Array Value} (v : Value) (hi : ops[i]? = some oi) (hw : want ops n f oi = true) (hsub : ∀ w, Own M W w L → Own M W w L0) (he : ∀ w, (execOp (ev n f) oi).run P w = .ok (.enter k args) w)
    (hc : ∀ w, Own M W w L → Calls P k args w fun e w' => e = .returned v ∧ Below w.heap.size w w') (h : HSeg M P n ops W L0 Q fuel (listed.setIfInBounds i true) L (upd f oi.dst v)) : HStep M P n ops W L0 Q fuel listed i L f :=
  hs_step hi hw fun w hO => wp_enter (he w) ((hc w hO).mono fun e w' ⟨e1, e2⟩ => ⟨v, e1, hsub w' (hO.on e2), h.go w' (hO.on e2)⟩)
/-- A call that hands back something in new memory, or that writes into what it was lent. -/
theorem hl_callx {i : Nat} (oi : Oper) {k : FuncId} {args : Array Value} (R : Value → List Blk → Prop) (hi : ops[i]? = some oi) (hw : want ops n f oi = true) (he : ∀ w, (execOp (ev n f) oi).run P w = .ok (.enter k args) w)
    (hc : ∀ w, Own M W w L → Calls P k args w fun e w' => ∃ v L', e = .returned v ∧ R v L' ∧ Own M W w' L') (hsub : ∀ v L', R v L' → ∀ w, Own M W w L' → Own M W w L0)
    (h : ∀ v L', R v L' → HSeg M P n ops W L0 Q fuel (listed.setIfInBounds i true) L' (upd f oi.dst v)) : HStep M P n ops W L0 Q fuel listed i L f :=
  hs_step hi hw fun w hO => wp_enter (he w) ((hc w hO).mono fun e w' ⟨v, L', e1, e2, e3⟩ => ⟨v, e1, hsub v L' e2 w' e3, (h v L' e2).go w' e3⟩)
theorem hl_append {i0 : Nat} {E ob R : List Blk} (oi : Oper) {t T : TypeId} {s x : Operand} {i : TypeInfo} {z : Value} {sz : Nat} (hi0 : ops[i0]? = some oi) (hw : want ops n f oi = true) (ho : oi.op = .call { callee := .builtin .append, args := #[s, x], argTypes := #[t, t] })
    (ht : P.underlying t = some (.slice T)) (hi : P.info? T = some i) (hz : i.zero = some z) (hsz : i.size = sz) (hzs : z.cells.size = sz)
    {v : Value} {m0 : Nat} {xs : List Value} (hs : ev n f s = v) (hv : Sl T sz v m0 xs ob) {a : Addr} {m c : Nat} {news : List Value} (hx : ev n f x = .slice (some a) m c)
    (hl : news.length = m * sz) (hnews : ∀ w, Own M W w (E ++ ob ++ R) → ∀ j u, news[j]? = some u → w.cell? (a.add j) = some u) (h1 : ∀ u ∈ news, u.oneCell' = true)
    (h63 : m0 + m ≤ maxLen) (hbytes : (m0 + m) * i.bytes ≤ 140737488355328) (hsub : ∀ ob' w, Own M W w (E ++ ob' ++ R) → Own M W w L0)
    (h : ∀ v' ob', Sl T sz v' (m0 + m) (xs ++ news) ob' → HSeg M P n ops W L0 Q fuel (listed.setIfInBounds i0 true) (E ++ ob' ++ R) (upd f oi.dst v')) : HStep M P n ops W L0 Q fuel listed i0 (E ++ ob ++ R) f :=
  hs_step hi0 hw fun w hO => by
    obtain ⟨v', w', ob', hr, h2, h3⟩ := own_append (P := P) (ty := oi.type) (c := c) ht hi hz hsz hzs hv hO hl (hnews w hO) h1 h63 hbytes
    refine wp_val v' (w' := w') ?_ ⟨hsub ob' w' h3, (h v' ob' h2).go w' h3⟩
    unfold execOp
    simp only [ho, resolve, invoke, builtin, Sem.run_bind, Sem.run_pure, Result.andThen_ok, List.map_toArray, List.map_cons, List.map_nil, hs, hx, hr]
theorem hl_append_nil {i0 : Nat} {ob : List Blk} (oi : Oper) {t T : TypeId} {s x : Operand} {i : TypeInfo} {sz : Nat} (hi0 : ops[i0]? = some oi) (hw : want ops n f oi = true) (hsub : ∀ w, Own M W w L → Own M W w L0) (ho : oi.op = .call { callee := .builtin .append, args := #[s, x], argTypes := #[t, t] })
    (ht : P.underlying t = some (.slice T)) (hi : P.info? T = some i) {v : Value} {m0 : Nat} {xs : List Value} (hs : ev n f s = v) (hv : Sl T sz v m0 xs ob) (hx : ev n f x = .slice none 0 0)
    (h : HSeg M P n ops W L0 Q fuel (listed.setIfInBounds i0 true) L (upd f oi.dst v)) : HStep M P n ops W L0 Q fuel listed i0 L f :=
  hs_step hi0 hw fun w hO => by
    refine wp_val v (w' := w) ?_ ⟨hsub w hO, h.go w hO⟩
    unfold execOp
    simp only [ho, resolve, invoke, builtin, Sem.run_bind, Sem.run_pure, Result.andThen_ok, List.map_toArray, List.map_cons, List.map_nil, hs, hx, own_append_nil ht hi hv 0]
theorem hl_lit {i0 : Nat} (oi : Oper) {t : TypeId} {len : Nat} {parts : Array (Nat × Operand)} (T : TypeId) (cs : Array Value) (hi0 : ops[i0]? = some oi) (hw : want ops n f oi = true) (ho : oi.op = .buildSlice t len parts) (hsub : ∀ w, Own M W w L → Own M W w L0)
    (hr : ∀ w, (execOp (ev n f) oi).run P w = .ok (.value (.slice (some ⟨w.heap.size, 0, none⟩) len len)) (w.alloc (.cells cs T)))
    (h : ∀ b, HSeg M P n ops W L0 Q fuel (listed.setIfInBounds i0 true) (⟨b, cs, T⟩ :: L) (upd f oi.dst (.slice (some ⟨b, 0, none⟩) len len))) : HStep M P n ops W L0 Q fuel listed i0 L f :=
  hs_step hi0 hw fun w hO => by
    have hO' := hO.alloc cs T
    refine wp_val _ (hr w) ⟨?_, (h w.heap.size).go _ hO'⟩
    exact hsub _ (Own.sub [⟨w.heap.size, cs, T⟩] hO')
/-- A caller's list of blocks behind a call that has taken over ob and left ob'. -/
theorem Own.join {ob ob' R : List Blk} {w w' : World} (h : Own M W w (ob ++ R)) (hc : Own (ob.map Blk.b) w w' ob') : Own M W w' (ob' ++ R) := by
  have hap := h.apart
  rw [List.map_append, List.nodup_append] at hap
  have notob : ∀ x ∈ R, x.b ∉ ob.map Blk.b := fun x hx hm => hap.2.2 x.b hm x.b (List.mem_map.2 ⟨x, hx, rfl⟩) rfl
  have ltR : ∀ x ∈ R, x.b < w.heap.size := fun x hx => h.lt (List.mem_append_right ob hx)
  have newob : ∀ x ∈ ob', x.b ∉ R.map Blk.b := fun x hx hm => by
    obtain ⟨y, hy, e⟩ := List.mem_map.1 hm
    rcases hc.base x hx with h1 | h1
    · have := ltR y hy; omega
    · exact notob y hy (e ▸ h1)
  refine ⟨hc.os.trans h.os, hc.tape.trans h.tape, hc.output.trans h.output, Nat.le_trans h.size hc.size, Nat.le_trans h.drawn hc.drawn, fun k hk hm => ?_, fun x hx => ?_, fun x hx => ?_, ?_⟩
  · rw [hc.kept k (Nat.lt_of_lt_of_le hk h.size) (fun hmem => by
      obtain ⟨y, hy, e⟩ := List.mem_map.1 hmem
      rcases h.base y (List.mem_append_left R hy) with h1 | h1
      · omega
      · exact hm (e ▸ h1))]
    exact h.kept k hk hm
  · rcases List.mem_append.1 hx with hx | hx
    · exact hc.held x hx
    · rw [hc.kept x.b (ltR x hx) (notob x hx)]
      exact h.held x (List.mem_append_right ob hx)
  · rcases List.mem_append.1 hx with hx | hx
    · rcases hc.base x hx with h1 | h1
      · exact .inl (Nat.le_trans h.size h1)
      · obtain ⟨y, hy, e⟩ := List.mem_map.1 h1
        rw [← e]; exact h.base y (List.mem_append_left R hy)
    · exact h.base x (List.mem_append_right ob hx)
  · rw [List.map_append, List.nodup_append]
    refine ⟨hc.apart, hap.2.1, fun a ha b hb e => ?_⟩
    obtain ⟨x, hx, rfl⟩ := List.mem_map.1 ha
    exact newob x hx (e ▸ hb)
/-- The same for a call that has taken nothing over. -/
theorem Own.joinN {ob' R : List Blk} {w w' : World} (h : Own M W w R) (hc : Own [] w w' ob') : Own M W w' (ob' ++ R) := Own.join (ob := []) h hc
end
section
variable {P : Program} {n : Nat} {W : World} {f : Nat → Value} {Q : Exit → Act → World → Prop} {M : List Nat} {ops : Array Oper} {rest : List Oper} {o : Oper} {L : List Blk}
/-- In, with blocks that the caller lends. -/
theorem calls_okL {k : FuncId} {fn : Func} {c : Code} {args : Array Value} {R : Ending → World → Prop} (hO : Own M W W L) (hf : P.funcs[k]? = some fn) (hb : fn.body = some c) (hn : fn.ntmps = n) (hle : Nat.ble args.size n = true)
    (h : Ok M P n W (bodyPost P fn R) c L (fun t => args.getD t undef)) : Calls P k args W R := by
  have h2 : Ok M P n W (bodyPost P fn R) c [] (fun t => args.getD t undef) → Calls P k args W R := calls_okM M hf hb hn hle
  refine calls_of_wp hf hb ?_
  have hle' : args.size ≤ n := Nat.le_of_ble_eq_true hle
  have e : ({ tmps := args ++ Array.replicate (fn.ntmps - args.size) undef, defers := [] } : Act) = Fr n (fun t => args.getD t undef) := by
    unfold Fr
    congr 1
    rw [hn]
    apply Array.ext_getElem?
    intro i
    rw [Array.getElem?_ofFn, Array.getElem?_append, Array.getElem?_replicate]
    by_cases hi : i < args.size
    · rw [if_pos hi, dif_pos (by omega), Array.getElem?_eq_getElem hi]
      simp [Array.getD, hi]
    · rw [if_neg hi]
      by_cases hin : i < n
      · rw [if_pos (by omega), dif_pos hin]
        simp [Array.getD, hi]
      · rw [if_neg (by omega), dif_neg hin]
  rw [e]
  exact h.go W hO
theorem Sl.block {T sz m : Nat} {A : Option Addr} {cap : Nat} {xs : List Value} {ob : List Blk} (h : Sl T sz (.slice A m cap) m xs ob) (h0 : 0 < m) : ∃ g cur, A = some ⟨g, 0, none⟩ ∧ ob = [⟨g, cur, T⟩] ∧ m ≤ cap ∧ cap ≤ maxLen ∧ cur.size = cap * sz ∧ cur.toList.take (m * sz) = xs := by
  rcases h.2 with ⟨_, h2, _⟩ | ⟨g, c, cur, e, e2, h3, h4, h5, h6⟩
  · omega
  · simp only [Value.slice.injEq] at e
    obtain ⟨rfl, _, rfl⟩ := e
    exact ⟨g, cur, rfl, e2, h3, h4, h5, h6⟩
/-- A part of an element, out of the slice's block. -/
theorem read_part {α : Type} {g : α → List Value} {sz : Nat} (hg : ∀ x, (g x).length = sz) {ty : TypeId} {cur : Array Value} {l : List α} (ht : cur.toList.take (l.length * sz) = l.flatMap g) (k fo : Nat) (hk : k < l.length) (hfo : fo ≤ sz) (v : Value)
    (hr : readAt P ty ((g l[k]).drop fo).toArray 0 = some v) : readAt P ty cur (k * sz + fo) = some v := by
  have hcur : l.length * sz ≤ cur.size := by
    have := congrArg List.length ht
    rw [List.length_take, flat_len hg] at this
    simp at this; omega
  have hks : k * sz + sz ≤ l.length * sz := by rw [← Nat.succ_mul]; exact Nat.mul_le_mul_right _ hk
  have hat : ∀ j u, ((g l[k]).drop fo)[j]? = some u → cur.toList[k * sz + fo + j]? = some u := fun j u hj => by
    rw [List.getElem?_drop] at hj
    have h1 : fo + j < sz := by
      have := (List.getElem?_eq_some_iff.1 hj).1
      rw [hg] at this; exact this
    have h2 : (l.flatMap g)[k * sz + (fo + j)]? = some u := by
      have := flat_at hg l k hk
      rw [← this, List.getElem?_take, if_pos h1, List.getElem?_drop] at hj
      exact hj
    rw [← ht, List.getElem?_take, if_pos (by omega)] at h2
    rw [show k * sz + fo + j = k * sz + (fo + j) from by omega]; exact h2
  unfold readAt at hr ⊢
  cases hu : P.underlying ty with
  | none => rw [hu] at hr; simp at hr
  | some d =>
    cases hi : P.info? ty with
    | none => rw [hu, hi] at hr; cases d <;> simp at hr
    | some i =>
      rw [hu, hi] at hr
      by_cases hd : aggB d = true
      · have h2 : (if 0 + i.size ≤ ((g l[k]).drop fo).toArray.size then some (Value.agg (((g l[k]).drop fo).toArray.toList.drop 0 |>.take i.size).toArray) else none) = some v := by
          cases d <;> first | exact hr | (simp [aggB] at hd)
        have h3 : (if (k * sz + fo) + i.size ≤ cur.size then some (Value.agg (cur.toList.drop (k * sz + fo) |>.take i.size).toArray) else none) = some v := by
          split at h2
          · rename_i hle
            simp only [List.size_toArray, List.length_drop, hg] at hle
            rw [if_pos (by omega), ← h2]
            congr 2
            congr 1
            apply List.ext_getElem?
            intro j
            rw [List.getElem?_take, List.getElem?_take]
            split
            · rename_i hj
              rw [List.getElem?_drop]
              simp only [List.drop_zero]
              have : ∃ u, ((g l[k]).drop fo)[j]? = some u := ⟨_, List.getElem?_eq_getElem (by rw [List.length_drop, hg]; omega)⟩
              obtain ⟨u, hu⟩ := this
              rw [hat j u hu, hu]
            · rfl
          · cases h2
        cases d <;> first | exact h3 | (simp [aggB] at hd)
      · have h2 : ((g l[k]).drop fo).toArray[0]? = some v := by cases d <;> first | exact hr | (simp [aggB] at hd)
        have h3 : cur[k * sz + fo]? = some v := by
          have := hat 0 v (by simpa using h2)
          simpa using this
        cases d <;> first | exact h3 | (simp [aggB] at hd)
end
section
variable {P : Program} {n : Nat} {W : World} {f : Nat → Value} {Q : Exit → Act → World → Prop} {M : List Nat} {ops : Array Oper} {rest : List Oper} {o : Oper} {L : List Blk}
theorem s_storeS (i : Nat) (x : Blk) {T : TypeId} {p q : Operand} {off : Nat} (v : Value) (sz : Nat) (hw : want ops n f o = true) (ho : o.op = .store T p q) (hd : o.dst = none) (hL : L[i]? = some x)
    (hp : ev n f p = .pointer (some ⟨x.b, off, none⟩)) (hq : ev n f q = v) (hz : (P.info? T).map (·.size) = some sz) (hs : v.cells.size = sz) (hle : off + sz ≤ x.cs.size) (h1 : (v.cells.toList.all fun u => u.oneCell') = true)
    (h : Seg M P n ops W Q rest (L.set i ⟨x.b, storeIn x.cs off v.cells, x.ty⟩) f) : Seg M P n ops W Q (o :: rest) L f := by
  cases ht : P.info? T with
  | none => rw [ht] at hz; cases hz
  | some t =>
    rw [ht] at hz
    have e : t.size = sz := Option.some.inj hz
    exact s_store i x v hw ho hd hL hp hq ht (by rw [hs, e]) (by rw [e]; exact hle) (List.all_eq_true.1 h1) h
theorem store_elem {α : Type} {g : α → List Value} {sz : Nat} (hg : ∀ x, (g x).length = sz) {cur : Array Value} {l : List α} (ht : cur.toList.take (l.length * sz) = l.flatMap g) (k fo : Nat) (hk : k < l.length) (vs : Array Value) (y : α) (hfit : fo + vs.size ≤ sz)
    (hy : g y = (g l[k]).take fo ++ vs.toList ++ (g l[k]).drop (fo + vs.size)) : (storeIn cur (k * sz + fo) vs).toList.take (l.length * sz) = (l.set k y).flatMap g ∧ (storeIn cur (k * sz + fo) vs).size = cur.size := by
  obtain ⟨R, hR⟩ : ∃ R, cur.toList = l.flatMap g ++ R := ⟨cur.toList.drop (l.length * sz), by rw [← ht]; exact (List.take_append_drop _ _).symm⟩
  have hsplit : l.flatMap g = (l.take k).flatMap g ++ (g l[k] ++ (l.drop (k + 1)).flatMap g) := by
    rw [← List.flatMap_cons, ← List.drop_eq_getElem_cons hk, ← List.flatMap_append, List.take_append_drop]
  obtain ⟨A, hA⟩ : ∃ A, (l.take k).flatMap g = A := ⟨_, rfl⟩
  obtain ⟨B, hB⟩ : ∃ B, (l.drop (k + 1)).flatMap g = B := ⟨_, rfl⟩
  obtain ⟨G, hG⟩ : ∃ G, g l[k] = G := ⟨_, rfl⟩
  have lA : A.length = k * sz := by rw [← hA, flat_len hg, List.length_take, Nat.min_eq_left (by omega)]
  have lG : G.length = sz := by rw [← hG]; exact hg _
  have lB : B.length = (l.length - (k + 1)) * sz := by rw [← hB, flat_len hg, List.length_drop]
  have tot : k * sz + sz + (l.length - (k + 1)) * sz = l.length * sz := by
    rw [← Nat.succ_mul, ← Nat.add_mul]; congr 1; omega
  rw [hA, hB, hG] at hsplit
  rw [hG] at hy
  have hset : (l.set k y).flatMap g = A ++ (g y ++ B) := by
    rw [List.set_eq_take_append_cons_drop, if_pos hk, List.flatMap_append, List.flatMap_cons, hA, hB]
  have hcur : cur.toList = A ++ (G ++ (B ++ R)) := by rw [hR, hsplit]; simp only [List.append_assoc]
  have e1 : cur.toList.take (k * sz + fo) = A ++ G.take fo := by
    rw [hcur, ← lA, List.take_length_add_append, List.take_append_of_le_length (by omega)]
  have e2 : cur.toList.drop (k * sz + fo + vs.size) = G.drop (fo + vs.size) ++ (B ++ R) := by
    rw [hcur, ← lA, Nat.add_assoc, List.drop_length_add_append, List.drop_append_of_le_length (by omega)]
  have e3 : (storeIn cur (k * sz + fo) vs).toList = A ++ (g y ++ (B ++ R)) := by
    unfold storeIn
    rw [e1, e2, hy]; simp only [List.append_assoc]
  constructor
  · rw [e3, hset]
    have : A ++ (g y ++ (B ++ R)) = (A ++ (g y ++ B)) ++ R := by simp only [List.append_assoc]
    rw [this]
    exact List.take_left' (by rw [List.length_append, List.length_append, lA, lB, hg]; omega)
  · have h1 := congrArg List.length e3
    have h2 := congrArg List.length hcur
    simp only [List.length_append, Array.length_toList, hg, lG] at h1 h2
    omega
end
end Go.Proofs.YtmlecnomdamgnaaGreat
end

section
/-
  Parts of slices: s[:k] and s[k:].
-/
namespace Go.Proofs.YtmlecnomdamgnaaGreat
open Go.RowKit
set_option maxRecDepth 100000
set_option linter.unusedVariables false
set_option linter.unusedSimpArgs false
section
variable {P : Program}
theorem run_slhi {ρ : Operand → Value} {o : Oper} {t e : TypeId} {x y : Operand} {b off n c sz : Nat} {k : IntKind} {j : Int} (ho : o.op = .slice t x none (some y) none) (hx : ρ x = .slice (some ⟨b, off, none⟩) n c) (hy : ρ y = .int k j)
    (hu : P.underlying t = some (.slice e)) (hs : (P.info? e).map (·.size) = some sz) (h0 : 0 ≤ j) (h1 : j ≤ c) (w : World) : (execOp ρ o).run P w = .ok (.value (.slice (some ⟨b, off, none⟩) j.toNat c)) w := by
  cases he : P.info? e with
  | none => rw [he] at hs; cases hs
  | some i =>
    unfold execOp
    simp [ho, hx, hy, Instr.sliceAt, Instr.slice, Instr.sliceBounds, Instr.sliceBound, Sem.run_bind, asIntOf, run_underlying hu, h0, h1, sizeOf, typeInfo, he, add_off]
theorem run_sllo {ρ : Operand → Value} {o : Oper} {t e : TypeId} {x y : Operand} {b off n c sz : Nat} {k : IntKind} {j : Int} (ho : o.op = .slice t x (some y) none none) (hx : ρ x = .slice (some ⟨b, off, none⟩) n c) (hy : ρ y = .int k j)
    (hu : P.underlying t = some (.slice e)) (hs : (P.info? e).map (·.size) = some sz) (h0 : 0 ≤ j) (h1 : j ≤ n) (w : World) : (execOp ρ o).run P w = .ok (.value (.slice (some ⟨b, off + (if c = j.toNat then 0 else j.toNat * sz), none⟩) (n - j.toNat) (c - j.toNat))) w := by
  cases he : P.info? e with
  | none => rw [he] at hs; cases hs
  | some i =>
    rw [he] at hs
    obtain rfl := Option.some.inj hs
    unfold execOp
    by_cases hc : c = j.toNat
    · simp [ho, hx, hy, Instr.sliceAt, Instr.slice, Instr.sliceBounds, Instr.sliceBound, Sem.run_bind, asIntOf, run_underlying hu, h0, h1, sizeOf, typeInfo, he, add_off, hc]
    · simp [ho, hx, hy, Instr.sliceAt, Instr.slice, Instr.sliceBounds, Instr.sliceBound, Sem.run_bind, asIntOf, run_underlying hu, h0, h1, sizeOf, typeInfo, he, add_off, hc]
end
end Go.Proofs.YtmlecnomdamgnaaGreat
end

section
/-
  append(s, x..) where x is a slice that came in, nil or not, empty or not.
-/
namespace Go.Proofs.YtmlecnomdamgnaaGreat
open Go.RowKit
set_option maxRecDepth 100000
set_option linter.unusedVariables false
set_option linter.unusedSimpArgs false
section
variable {P : Program} {w : World} {ob : List Blk}
theorem own_append_nilc {t ty T : TypeId} {i : TypeInfo} (ht : P.underlying t = some (.slice T)) (hi : P.info? T = some i) {sz : Nat} {v : Value} {n : Nat} {xs : List Value} (hv : Sl T sz v n xs ob) (c : Nat) :
    (Builtin.append_ #[t, t] ty #[v, .slice none 0 c]).run P w = .ok v w := by
  rcases hv.2 with ⟨rfl, rfl, rfl⟩ | ⟨g, cap, cur, rfl, rfl, hnc, hcm, hcs, htake⟩
  · simp [Builtin.append_, run_underlying ht, sizeOf, typeInfo, hi, Builtin.lenOf, Builtin.firstCells]
  · simp [Builtin.append_, run_underlying ht, sizeOf, typeInfo, hi, Builtin.lenOf, Builtin.firstCells, hnc, storeCells]
end
section
variable {M : List Nat} {P : Program} {n0 : Nat} {ops : Array Oper} {W : World} {Q : Exit → Act → World → Prop} {rest : List Oper} {o : Oper} {E ob L0 : List Blk} {f : Nat → Value}
theorem s_appendR {α : Type} {g : α → List Value} {t T : TypeId} {s x : Operand} {i : TypeInfo} {z : Value} {sz : Nat} (hg : ∀ y, (g y).length = sz) (hw : want ops n0 f o = true) (ho : o.op = .call { callee := .builtin .append, args := #[s, x], argTypes := #[t, t] })
    (ht : P.underlying t = some (.slice T)) (hi : P.info? T = some i) (hz : i.zero = some z) (hsz : i.size = sz) (hzs : z.cells.size = sz)
    {v : Value} {n : Nat} {xs : List Value} (hs : ev n0 f s = v) (hv : Sl T sz v n xs ob) {A : Option Addr} {c : Nat} {l : List α} (hx : ev n0 f x = .slice A l.length c)
    (hR : ∀ w, Own M W w (E ++ ob ++ L0) → Reads g w w.heap.size A l) (h1 : ∀ y, ∀ u ∈ g y, u.oneCell' = true)
    (h63 : n + l.length ≤ maxLen) (hbytes : (n + l.length) * i.bytes ≤ 140737488355328)
    (h : ∀ v' ob', Sl T sz v' (n + l.length) (xs ++ l.flatMap g) ob' → Seg M P n0 ops W Q rest (E ++ ob' ++ L0) (upd f o.dst v')) : Seg M P n0 ops W Q (o :: rest) (E ++ ob ++ L0) f :=
  s_step hw fun w hO => by
    have hone : ∀ u ∈ l.flatMap g, u.oneCell' = true := fun u hu => by
      obtain ⟨y, _, hy⟩ := List.mem_flatMap.1 hu
      exact h1 y u hy
    cases A with
    | none =>
      have h0 : l = [] := by
        cases l with
        | nil => rfl
        | cons y l => obtain ⟨b, off, e, _⟩ := hR w hO (by simp); cases e
      subst h0
      have hv' : Sl T sz v (n + ([] : List α).length) (xs ++ ([] : List α).flatMap g) ob := by simpa using hv
      refine wp_val v (w' := w) ?_ ((h v ob hv').go w hO)
      have hx' : ev n0 f x = .slice none 0 c := hx
      unfold execOp
      simp only [ho, resolve, invoke, builtin, Sem.run_bind, Sem.run_pure, Result.andThen_ok, List.map_toArray, List.map_cons, List.map_nil, hs, hx', own_append_nilc ht hi hv c]
    | some a =>
      have hnews : ∀ j u, (l.flatMap g)[j]? = some u → w.cell? (a.add j) = some u := fun j u hj => by
        have h0 : 0 < l.length := by
          cases l with
          | nil => simp at hj
          | cons y l => simp
        obtain ⟨b, off, e, _, hc⟩ := hR w hO h0
        obtain rfl := Option.some.inj e
        rw [add_off]
        exact hc j u hj
      obtain ⟨v', w', ob', hr, h2, h3⟩ := own_append (P := P) (ty := o.type) (c := c) ht hi hz hsz hzs hv hO (flat_len hg l) hnews hone h63 hbytes
      refine wp_val v' (w' := w') ?_ ((h v' ob' h2).go w' h3)
      unfold execOp
      simp only [ho, resolve, invoke, builtin, Sem.run_bind, Sem.run_pure, Result.andThen_ok, List.map_toArray, List.map_cons, List.map_nil, hs, hx, hr]
end
end Go.Proofs.YtmlecnomdamgnaaGreat
end

section
/-
  Steps: make of a slice, copy out of a string, unsafe.String of a block of the call's own. No condition of their own but the bounds that each theorem names.
-/
namespace Go.Proofs.YtmlecnomdamgnaaGreat
open Go.RowKit
set_option linter.unusedVariables false
set_option linter.unusedSimpArgs false

theorem freeze_drawn (w : World) (a : Addr) (m : Nat) : (w.freeze a m).drawn = w.drawn := by unfold World.freeze; split <;> rfl
theorem Own.freeze {M : List Nat} {W w : World} {x : Blk} {L : List Blk} (h : Own M W w (x :: L)) (m : Nat) : Own M W (w.freeze ⟨x.b, 0, none⟩ m) L := by
  have hne : ∀ k, k ≠ x.b → (w.freeze ⟨x.b, 0, none⟩ m).heap[k]? = w.heap[k]? := fun k hk => by
    unfold World.freeze
    split
    · rfl
    · simp only [Array.getElem?_modify]; rw [if_neg (Ne.symm hk)]
  have hsz : (w.freeze ⟨x.b, 0, none⟩ m).heap.size = w.heap.size := by unfold World.freeze; split <;> simp
  have ho : (w.freeze ⟨x.b, 0, none⟩ m).os = w.os ∧ (w.freeze ⟨x.b, 0, none⟩ m).tape = w.tape ∧ (w.freeze ⟨x.b, 0, none⟩ m).output = w.output := by unfold World.freeze; split <;> exact ⟨rfl, rfl, rfl⟩
  have hap := h.apart
  rw [List.map_cons, List.nodup_cons] at hap
  refine ⟨ho.1.trans h.os, ho.2.1.trans h.tape, ho.2.2.trans h.output, by rw [hsz]; exact h.size, by rw [freeze_drawn]; exact h.drawn, fun k hk hm => ?_, fun y hy => ?_, fun y hy => h.base y (List.mem_cons_of_mem _ hy), hap.2⟩
  · rw [hne k (fun e => by
      rcases h.base x List.mem_cons_self with h1 | h1
      · omega
      · exact hm (e ▸ h1))]
    exact h.kept k hk hm
  · rw [hne y.b (fun e => hap.1 (e ▸ List.mem_map_of_mem hy))]
    exact h.held y (List.mem_cons_of_mem _ hy)
section
variable {M : List Nat} {P : Program} {n0 : Nat} {ops : Array Oper} {W : World} {Q : Exit → Act → World → Prop} {rest : List Oper} {o : Oper} {L : List Blk} {f : Nat → Value}
/-- make([]T, l, c). -/
theorem s_make {t e : TypeId} {x y : Operand} {i : TypeInfo} {z : Value} {kl kc : IntKind} {l c : Int} (hw : want ops n0 f o = true) (ho : o.op = .makeSlice t x y) (hx : ev n0 f x = .int kl l) (hy : ev n0 f y = .int kc c)
    (ht : P.underlying t = some (.slice e)) (hi : P.info? e = some i) (hz : i.zero = some z) (h0 : 0 ≤ l) (hlc : l ≤ c) (hbytes : (i.bytes : Int) * c ≤ 281474976710656) (h63 : c ≤ 9223372036854775807)
    (h : ∀ b, Seg M P n0 ops W Q rest (⟨b, madeCells z.cells (c.toNat * i.size), e⟩ :: L) (upd f o.dst (.slice (some ⟨b, 0, none⟩) l.toNat c.toNat))) : Seg M P n0 ops W Q (o :: rest) L f :=
  s_step hw fun w hO => by
    refine wp_val _ (w' := w.alloc (.cells (madeCells z.cells (c.toNat * i.size)) e)) ?_ ((h w.heap.size).go _ (hO.alloc _ _))
    have hr := run_make (P := P) w t e i z ht hi hz kl kc l c h0 hlc hbytes h63
    unfold execOp
    simp only [ho, hx, hy, Sem.run_bind, Sem.run_pure, Result.andThen_ok, hr]
/-- copy(b, s): s a string, b a slice of the block at the head of the list, as long as s. -/
theorem s_copyS {t u e : TypeId} {x y : Operand} {b cap : Nat} {cs : Array Value} {T : TypeId} {s : ByteArray} (hw : want ops n0 f o = true) (ho : o.op = .call { callee := .builtin .copy, args := #[x, y], argTypes := #[t, u] })
    (hx : ev n0 f x = .slice (some ⟨b, 0, none⟩) s.size cap) (hy : ev n0 f y = .string s) (ht : P.underlying t = some (.slice e)) (hs : (P.info? e).map (·.size) = some 1) (hc : cs.size = s.size)
    (h : Seg M P n0 ops W Q rest (⟨b, (Lib.byteCells s.data.toList).toArray, T⟩ :: L) (upd f o.dst (goInt s.size))) : Seg M P n0 ops W Q (o :: rest) (⟨b, cs, T⟩ :: L) f :=
  s_step hw fun w hO => by
    have hr := Lib.run_copy_row_string (P := P) w t u o.type e b 0 s.size cap s cs T ht hs (hO.held _ List.mem_cons_self) (Nat.le_refl _) (by omega)
    have hcs : (cs.toList.take 0 ++ Lib.byteCells s.data.toList ++ cs.toList.drop (0 + s.size)).toArray = (Lib.byteCells s.data.toList).toArray := by
      rw [List.take_zero, List.nil_append, List.drop_of_length_le (by rw [Array.length_toList]; omega), List.append_nil]
    rw [hcs] at hr
    refine wp_val _ (w' := w.setRow b (Lib.byteCells s.data.toList).toArray) ?_ (h.go _ (hO.put (i := 0) (x := ⟨b, cs, T⟩) rfl _))
    unfold execOp
    simp only [ho, resolve, invoke, builtin, Sem.run_bind, Sem.run_pure, Result.andThen_ok, List.map_toArray, List.map_cons, List.map_nil, hx, hy, hr]
/-- unsafe.String(&b[0], len(b)): the block at the head of the list is given up. -/
theorem s_ustr {t u e : TypeId} {x y : Operand} {b : Nat} {s : ByteArray} (hw : want ops n0 f o = true) (ho : o.op = .call { callee := .builtin .unsafeString, args := #[x, y], argTypes := #[t, u] })
    (hx : ev n0 f x = .pointer (some ⟨b, 0, none⟩)) (hy : ev n0 f y = .int .i64 s.size) (ht : P.underlying t = some (.pointer e)) (hc : P.cellsOf e = 1) (hne : s.size ≠ 0) (h63 : s.size ≤ 9223372036854775807)
    (h : Seg M P n0 ops W Q rest L (upd f o.dst (.string s))) : Seg M P n0 ops W Q (o :: rest) (⟨b, (Lib.byteCells s.data.toList).toArray, e⟩ :: L) f :=
  s_step hw fun w hO => by
    have hg := hO.held _ List.mem_cons_self
    have hl : s.data.toList.length = s.size := by rw [← Lib.size_eq]
    have hr := Lib.run_unsafeString_row (P := P) w t u o.type e ht hc b s.size (by unfold World.shape?; simp only at hg; rw [hg]; simp [Lib.byteCells_length, hl]) s.data.toList (fun e => hne (by rw [← hl, e]; rfl)) (by omega) (by omega)
      (fun j x hx => by
        rw [add_off, cell_of_row w b (0 + j) _ e _ hg]
        simp [Lib.byteCells, hx])
    rw [hl] at hr
    refine wp_val _ (w' := w.freeze ⟨b, 0, none⟩ s.size) ?_ (h.go _ (hO.freeze s.size))
    unfold execOp
    simp only [ho, resolve, invoke, builtin, Sem.run_bind, Sem.run_pure, Result.andThen_ok, List.map_toArray, List.map_cons, List.map_nil, hx, hy, hr]
end
end Go.Proofs.YtmlecnomdamgnaaGreat
end

section
/-
  strings.Clone returns the string itself (for at most 2^48 bytes); nothing that was there is changed.
-/
namespace Go.Proofs.YtmlecnomdamgnaaGreat
open Go.RowKit
set_option maxRecDepth 100000
set_option linter.unusedVariables false
set_option linter.unusedSimpArgs false

theorem infoByte9 : (Tryz.prog.info? 5).map (fun i => (i.zero.map (·.cells.size), i.size, i.bytes)) = some (some 1, 1, 1) := by kernel_rfl
theorem byte_info : ∃ i z, Tryz.prog.info? 5 = some i ∧ i.zero = some z ∧ i.size = 1 ∧ z.cells.size = 1 ∧ i.bytes = 1 := by
  have h := infoByte9
  cases hi : Tryz.prog.info? 5 with
  | none => rw [hi] at h; cases h
  | some i =>
    rw [hi] at h
    simp only [Option.map_some, Option.some.injEq, Prod.mk.injEq] at h
    cases hz : i.zero with
    | none => rw [hz] at h; simp at h
    | some z => rw [hz] at h; simp at h; exact ⟨i, z, rfl, hz, h.2.1, h.1, h.2.2⟩
theorem empty_of {s : ByteArray} (h : (s.size : Int) = 0) : s = ⟨#[]⟩ := by
  have h2 : s.data.size = 0 := Int.ofNat.inj h
  exact ByteArray.ext (Array.eq_empty_of_size_eq_zero h2)

theorem sclone_any (s : ByteArray) (w : World) (hs : s.size ≤ 281474976710656) :
    Calls Tryz.prog 65 #[.string s] w fun e w' => e = .returned (.string s) ∧ Below w.heap.size w w' := by
  refine calls_ok (n := 18) Tryz.func65 rfl (by kernel_rfl) (by kernel_rfl) ?_
  refine ok_seq ?_
  refine ok_region ?_
  refine s_val (.string ⟨#[]⟩) (by kernel_rfl) (fun _ => by kernel_rfl) ?_
  refine s_nil ?_
  refine fin_seq ?_
  refine ok_seq ?_
  refine ok_seq ?_
  refine ok_region ?_
  refine s_val (.string s) (by kernel_rfl) (fun _ => by kernel_rfl) ?_
  refine s_val (.int .i64 ((s).size)) (by kernel_rfl) (fun _ => by kernel_rfl) ?_
  by_cases h1 : ((s).size : Int) = 0
  · skip
    refine s_dec (p := ((s).size : Int) = 0) true (by kernel_rfl) (fun _ => by kernel_rfl) (decide_eq_true (h1)) ?_
    refine s_nil ?_
    refine fin_seq ?_
    refine ok_true (by kernel_rfl) ?_
    refine ok_seq ?_
    refine ok_region ?_
    refine s_val (.string ⟨#[]⟩) (by kernel_rfl) (fun _ => by kernel_rfl) ?_
    refine s_nil ?_
    refine fin_seq ?_
    refine ok_ret ?_
    refine fin_seq_ret ?_
    refine fin_ret (.string ⟨#[]⟩) Tryz.results65 (by kernel_rfl) ?_
    exact fun w hO => ⟨by rw [empty_of (s := s) (by assumption)], hO.below⟩
  · skip
    refine s_dec (p := ((s).size : Int) = 0) false (by kernel_rfl) (fun _ => by kernel_rfl) (decide_eq_false (h1)) ?_
    refine s_nil ?_
    refine fin_seq ?_
    refine ok_false (by kernel_rfl) ?_
    refine ok_skip ?_
    refine fin_seq ?_
    refine ok_seq ?_
    refine ok_region ?_
    refine s_val (.string s) (by kernel_rfl) (fun _ => by kernel_rfl) ?_
    refine s_val (.int .i64 ((s).size)) (by kernel_rfl) (fun _ => by kernel_rfl) ?_
    obtain ⟨i, z, e1, e2, e3, e4, e5⟩ := byte_info
    refine s_make (kl := .i64) (kc := .i64) (l := (s.size : Int)) (c := (s.size : Int)) (by kernel_rfl) rfl (by kernel_rfl) (by kernel_rfl) Tryz.underlying92 e1 e2 (by omega) (by omega) (by rw [e5]; omega) (by omega) (fun b => ?_)
    rw [show ((s.size : Nat) : Int).toNat = s.size from rfl]
    obtain ⟨cs, hcs⟩ : ∃ cs, cs = madeCells z.cells (s.size * i.size) := ⟨_, rfl⟩
    have hcz : cs.size = s.size := by rw [hcs, size_madeCells, e3]; simp
    rw [← hcs]
    refine s_val (.slice (some ⟨b, 0, none⟩) s.size s.size) (by kernel_rfl) (fun _ => by kernel_rfl) ?_
    refine s_nil ?_
    refine fin_seq ?_
    refine ok_seq ?_
    refine ok_region ?_
    refine s_val (.slice (some ⟨b, 0, none⟩) s.size s.size) (by kernel_rfl) (fun _ => by kernel_rfl) ?_
    refine s_val (.string s) (by kernel_rfl) (fun _ => by kernel_rfl) ?_
    refine s_copyS (b := b) (cap := s.size) (s := s) (cs := cs) (by kernel_rfl) rfl (by kernel_rfl) (by kernel_rfl) Tryz.underlying92 (by kernel_rfl) hcz ?_
    refine s_nil ?_
    refine fin_seq ?_
    refine ok_seq ?_
    refine ok_region ?_
    refine s_val (.slice (some ⟨b, 0, none⟩) s.size s.size) (by kernel_rfl) (fun _ => by kernel_rfl) ?_
    refine s_val (.pointer (some ⟨b, 0, none⟩)) (by kernel_rfl) (run_ixsl (b := b) (off := 0) (n := s.size) (c := s.size) (k := .i64) (j := 0) (e := 5) (sz := 1) rfl (by kernel_rfl) (by kernel_rfl) (by kernel_rfl) (by kernel_rfl) (by omega) (by omega) (by omega)) ?_
    refine s_val (.slice (some ⟨b, 0, none⟩) s.size s.size) (by kernel_rfl) (fun _ => by kernel_rfl) ?_
    refine s_val (.int .i64 (s.size : Int)) (by kernel_rfl) (fun _ => by kernel_rfl) ?_
    refine s_ustr (s := s) (by kernel_rfl) rfl (by kernel_rfl) (by kernel_rfl) Tryz.underlying93 (by unfold Program.cellsOf; simp [e1, e3]) (by omega) (by omega) ?_
    refine s_val (.string s) (by kernel_rfl) (fun _ => by kernel_rfl) ?_
    refine s_nil ?_
    refine fin_seq ?_
    refine ok_ret ?_
    refine fin_ret (.string s) Tryz.results65 (by kernel_rfl) ?_
    exact fun w hO => ⟨rfl, hO.below⟩
theorem clone_any (s : ByteArray) (w : World) (hs : s.size ≤ 281474976710656) :
    Calls Tryz.prog 53 #[.string s] w fun e w' => e = .returned (.string s) ∧ Below w.heap.size w w' := by
  refine calls_ok (n := 5) Tryz.func53 rfl (by kernel_rfl) (by kernel_rfl) ?_
  refine ok_seq ?_
  refine ok_region ?_
  refine s_val (.string ⟨#[]⟩) (by kernel_rfl) (fun _ => by kernel_rfl) ?_
  refine s_nil ?_
  refine fin_seq ?_
  refine ok_seq ?_
  refine ok_region ?_
  refine s_val (.string s) (by kernel_rfl) (fun _ => by kernel_rfl) ?_
  refine s_call (k := 65) (args := #[.string s]) (.string s) (by kernel_rfl) (fun _ => by kernel_rfl) (fun w _ => sclone_any s w hs) ?_
  refine s_val (.string s) (by kernel_rfl) (fun _ => by kernel_rfl) ?_
  refine s_nil ?_
  refine fin_seq ?_
  refine ok_ret ?_
  refine fin_ret (.string s) Tryz.results53 (by kernel_rfl) ?_
  exact fun w hO => ⟨rfl, hO.below⟩
end Go.Proofs.YtmlecnomdamgnaaGreat
end

section
/-
  Package version: Print: it returns the string of a valid version, and the empty string for any other; nothing that was there is changed. Conditions: strings of at most a million bytes; the library's table of powers of ten reads as it is laid.
-/
namespace Go.Proofs.YtmlecnomdamgnaaGreat
open Go.RowKit

def digs (a b c : Int) : List (List UInt8) := [Lib.itoa a, Lib.itoa b, Lib.itoa c]
theorem digs_snoc (a b c : Int) (k : Nat) (hk : k < 3) : (digs a b c).take (k + 1) = (digs a b c).take k ++ [Lib.itoa (nth3 a b c k)] := by
  match k, hk with
  | 0, _ => rfl
  | 1, _ => rfl
  | 2, _ => rfl
theorem digs_len (a b c : Int) (k : Nat) (hk : k ≤ 3) : ((digs a b c).take k).length = k := by
  rw [List.length_take]; simp [digs]; omega
theorem join_digs (a b c : Int) : joinL 46 (digs a b c) = Lib.itoa a ++ 46 :: (Lib.itoa b ++ 46 :: Lib.itoa c) := rfl
theorem dec_len (n : Nat) (h : n ≤ 9999) : (Lib.decDigits n).length ≤ 4 := by
  rw [Lib.decDigits_length]
  unfold Lib.nDigits
  split
  · omega
  · unfold Lib.nDigits
    split
    · omega
    · unfold Lib.nDigits
      split
      · omega
      · rw [Lib.nDigits_small (by omega)]; omega
theorem itoa_len {n : Int} (h : numOkI n = true) : (Lib.itoa n).length ≤ 4 := by
  rw [itoa_nat h]
  apply dec_len
  unfold numOkI at h; simp at h; omega
theorem nums_len {a b c : Int} (h1 : numOkI a = true) (h2 : numOkI b = true) (h3 : numOkI c = true) : (joinL 46 (digs a b c)).length ≤ 14 := by
  rw [join_digs]
  have := itoa_len h1; have := itoa_len h2; have := itoa_len h3
  simp; omega

end Go.Proofs.YtmlecnomdamgnaaGreat
end

section
/-
  Package version: Parse: it returns the version that the document's own reading (parseR) finds, and OK; or the zero version and ErrVersion; nothing that was there is changed. Conditions: a string of at most a million bytes; the library's table of powers of ten reads as it is laid.
-/
namespace Go.Proofs.YtmlecnomdamgnaaGreat
open Go.RowKit

def parV (s : List UInt8) : Ver := (parseR s).getD Ver.zero
def parE (s : List UInt8) : Int := if (parseR s).isSome then 0 else 5
theorem mkS_ne {a b : List UInt8} (h : a ≠ b) : ((mkS a).toList == (mkS b).toList) = false := by
  rw [Lib.toList_data, Lib.toList_data, mk_data, mk_data]; simpa using h
theorem mkS_eq {a b : List UInt8} (h : a = b) : ((mkS a).toList == (mkS b).toList) = true := by
  subst h; simp
theorem par_hit {s : List UInt8} (h : (guess s).print = s) : parV s = guess s ∧ parE s = 0 := by
  have := parse_eq s
  unfold parseI at this
  rw [if_pos h] at this
  unfold parV parE
  rw [← this]; exact ⟨rfl, rfl⟩
theorem par_miss {s : List UInt8} (h : ¬ (guess s).print = s) : parV s = Ver.zero ∧ parE s = 5 := by
  have := parse_eq s
  unfold parseI at this
  rw [if_neg h] at this
  unfold parV parE
  rw [← this]; exact ⟨rfl, rfl⟩
def PEnd (s : List UInt8) (w : World) (e : Ending) (w' : World) : Prop := e = .returned (.tuple #[verV (parV s), .int .i64 (parE s)]) ∧ Below w.heap.size w w'

theorem ver_one (a b c : Int) (p q : ByteArray) : (#[.int .i64 a, .int .i64 b, .int .i64 c, .string p, .string q] : Array Value).all (·.oneCell') = true := by simp [Value.oneCell']
theorem set34 {w1 : World} {B : Nat} {a b c x0 y0 : Value} (x y : Value) (hg : w1.heap[B]? = some (.cells #[a, b, c, x0, y0] 31)) :
    ((w1.setCell ⟨B, 3, none⟩ x).setCell ⟨B, 4, none⟩ y).heap[B]? = some (.cells #[a, b, c, x, y] 31) ∧ ∀ k, B ≠ k → ((w1.setCell ⟨B, 3, none⟩ x).setCell ⟨B, 4, none⟩ y).heap[k]? = w1.heap[k]? := by
  have e3 := setCell_eq_setRow w1 B 3 _ _ _ x hg
  have hq3 := setRow_heap w1 B _ #[a, b, c, x, y0] _ _ hg
  have e4 := setCell_eq_setRow _ B 4 _ _ _ y hq3
  have hwv : (w1.setCell ⟨B, 3, none⟩ x).setCell ⟨B, 4, none⟩ y = (w1.setRow B #[a, b, c, x, y0]).setRow B #[a, b, c, x, y] := by rw [e3]; exact e4
  rw [hwv]
  exact ⟨setRow_heap _ _ _ _ _ _ hq3, fun k hk => by rw [setRow_other _ _ _ _ hk, setRow_other _ _ _ _ hk]⟩

theorem core_any (v : Ver) (w : World) (hp : v.pre.length ≤ 1000000) :
    Calls Tryz.prog 83 #[verV v] w fun e w' => e = .returned (verV { v with build := [] }) ∧ Below w.heap.size w w' := by
  obtain ⟨a, b, c, p, q⟩ := v
  unfold verV
  dsimp only at hp ⊢
  go_enter Tryz.func83, Tryz.ntmps83
  go_wp2_with fail
  refine (clone_any (mkS p) _ (by rw [mkS_sz]; omega)).mono ?_
  rintro e w1 ⟨rfl, hb1⟩
  have hz1 := hb1.size
  simp only [size_box] at hz1
  have hgB := Lib.hid ((hb1.block w.heap.size (by simp only [size_box]; omega)).trans ((heap_old _ _ (by simp only [size_box]; omega)).trans (heap_new w _)))
  have hgR := Lib.hid ((hb1.block (w.heap.size + 1) (by simp only [size_box]; omega)).trans (heap_at _ _ _ (by simp only [size_box])))
  have hbw : Below w.heap.size w w1 := (((Below.refl _ _).alloc (Nat.le_refl _) _).alloc (by simp only [size_box]; omega) _).trans (hb1.mono (by simp only [size_box]; omega))
  obtain ⟨c3, f3⟩ := cell_row (j := 3) hgB.out (by simp)
  obtain ⟨c4, f4⟩ := cell_row (j := 4) hgB.out (by simp)
  obtain ⟨hL, hO⟩ := set34 (.string (mkS p)) (.string ⟨#[]⟩) hgB.out
  have HL := Lib.hid hL
  have HL0 := Lib.hid ((hO (w.heap.size + 1) (by omega)).trans hgR.out)
  have hbL : Below w.heap.size w ((w1.setCell ⟨w.heap.size, 3, none⟩ (.string (mkS p))).setCell ⟨w.heap.size, 4, none⟩ (.string ⟨#[]⟩)) := (hbw.setCell (by simp) _).setCell (by simp) _
  clear hL hO
  go_wp2_with (first
    | (refine wpList_load_row rfl 31 _ rfl w.heap.size rfl _ _ _ _ HL.out Tryz.underlying31 rfl (by kernel_rfl) ?_)
    | (refine wpList_store_row rfl 31 _ _ rfl (w.heap.size + 1) #[.int .i64 a, .int .i64 b, .int .i64 c, .string (mkS p), .string ⟨#[]⟩] rfl rfl _ _ HL0.out (by kernel_rfl) rfl (ver_one _ _ _ _ _) ?_))
  have hr := results_cell_row (P := Tryz.prog) (fn := Tryz.f83) Tryz.results83
  refine bodyPost_ret (v := .agg #[.int .i64 a, .int .i64 b, .int .i64 c, .string (mkS p), .string ⟨#[]⟩]) (hr _ _ (w.heap.size + 1) _ _ _ _ rfl (setRow_heap _ _ _ _ _ _ HL0.out) Tryz.underlying31 rfl (by kernel_rfl)) rfl ⟨rfl, below_setRow hbL (by omega) _⟩
end Go.Proofs.YtmlecnomdamgnaaGreat
end

section
/-
  linchpinlaw0: Place, At, From, Version and Release: what they return for every list of numbers; nothing that was there is changed.
-/
namespace Go.Proofs.YtmlecnomdamgnaaGreat
open Go.RowKit

/-- A slice that reads as a list of ints. -/
def ReadsI (w : World) (B : Nat) (v : Value) (l : List Int) : Prop :=
  ∃ A cap, v = .slice A l.length cap ∧ (0 < l.length → ∃ ad : Addr, A = some ad ∧ ad.block < B ∧ ∀ j (h : j < l.length), w.cell? (ad.add j) = some (.int .i64 l[j]))
theorem add_block (a : Addr) (n : Nat) : (a.add n).block = a.block := by unfold Addr.add; split <;> rfl
theorem ReadsI.below {w w' : World} {B : Nat} {v : Value} {l : List Int} (h : ReadsI w B v l) (hb : Below B w w') : ReadsI w' B v l := by
  obtain ⟨A, cap, hv, hc⟩ := h
  exact ⟨A, cap, hv, fun hpos => by
    obtain ⟨ad, hA, hlt, hcc⟩ := hc hpos
    exact ⟨ad, hA, hlt, fun j hj => (hb.cell (by rw [add_block]; exact hlt)).trans (hcc j hj)⟩⟩
theorem ReadsI.more {w : World} {B B' : Nat} {v : Value} {l : List Int} (h : ReadsI w B v l) (hB : B ≤ B') : ReadsI w B' v l := by
  obtain ⟨A, cap, hv, hc⟩ := h
  exact ⟨A, cap, hv, fun hpos => by
    obtain ⟨ad, hA, hlt, hcc⟩ := hc hpos
    exact ⟨ad, hA, Nat.lt_of_lt_of_le hlt hB, hcc⟩⟩
def atL (l : List Int) (i : Nat) : Int := (l[i]?).getD 0
/-- The place of any number among n. -/
def plc (v n : Int) : Int := if v.tmod n < 0 then v.tmod n + n else v.tmod n
theorem tmod_in (v n : Int) (hn : 0 < n) : -n < v.tmod n ∧ v.tmod n < n := by
  rcases Int.lt_or_le v 0 with h | h
  · have h3 := Int.tmod_lt_of_pos (-v) hn
    have h4 := Int.tmod_nonneg n (show 0 ≤ -v by omega)
    rw [Int.neg_tmod] at h3 h4; omega
  · have h3 := Int.tmod_lt_of_pos v hn
    have h4 := Int.tmod_nonneg n h
    omega
theorem plc_in (v n : Int) (hn : 0 < n) : 0 ≤ plc v n ∧ plc v n < n := by
  obtain ⟨h1, h2⟩ := tmod_in v n hn
  unfold plc
  split <;> omega

theorem place_any (v n : Int) (w : World) (hn : 0 < n) (hn2 : n ≤ 1000000) :
    Calls Tryz.prog 54 #[.int .i64 v, .int .i64 n] w fun e w' => e = .returned (.int .i64 (plc v n)) ∧ w = w' := by
  obtain ⟨h1, h2⟩ := tmod_in v n hn
  have HP : Hid (plc v n = if v.tmod n < 0 then v.tmod n + n else v.tmod n) := rfl
  have hn0 : (n == 0) = false := by simp; omega
  have hw : IntKind.i64.wrap (v.tmod n) = v.tmod n := IntWalk.i64_in _ (by omega)
  obtain ⟨m, hm⟩ : ∃ m, v.tmod n = m := ⟨_, rfl⟩
  rw [hm] at h1 h2 HP hw
  by_cases h0 : m < 0
  · have hs : 0 ≤ m + n := by omega
    have hs2 : m + n ≤ 1000000 := by omega
    go_enter Tryz.func54, Tryz.ntmps54
    go_wp2
    go_ret
    exact ⟨ret_int (by rw [HP.out, if_pos h0]), rfl⟩
  · go_enter Tryz.func54, Tryz.ntmps54
    go_wp2
    go_ret
    exact ⟨ret_int (by rw [HP.out, if_neg (by omega)]), rfl⟩
theorem at_any (v : Value) (l : List Int) (i : Nat) (w : World) (hv : ReadsI w w.heap.size v l) (hl : l.length ≤ 9223372036854775807) (hi : i ≤ 1000000) :
    Calls Tryz.prog 55 #[v, .int .i64 i] w fun e w' => e = .returned (.int .i64 (atL l i)) ∧ w = w' := by
  obtain ⟨A, cap, rfl, hc⟩ := hv
  by_cases h : i < l.length
  · obtain ⟨ad, rfl, hlt, hcc⟩ := hc (by omega)
    have hcell := hcc i h
    have hi1 : (i : Int) < l.length := by omega
    have hi2 : ¬ (l.length : Int) ≤ i := by omega
    have HA : Hid (atL l i = l[i]) := by show _ = _; unfold atL; rw [List.getElem?_eq_getElem h]; rfl
    clear hc hcc
    go_enter Tryz.func55, Tryz.ntmps55
    go_wp2
    go_ret
    exact ⟨ret_int HA.out.symm, rfl⟩
  · have hi1 : (l.length : Int) ≤ i := by omega
    have HA : Hid (atL l i = 0) := by show _ = _; unfold atL; rw [List.getElem?_eq_none (by omega)]; rfl
    clear hc
    go_enter Tryz.func55, Tryz.ntmps55
    go_wp2
    go_ret
    exact ⟨ret_int HA.out.symm, rfl⟩

def i64in (n : Int) : Prop := -9223372036854775808 ≤ n ∧ n ≤ 9223372036854775807
theorem from_any (v : Value) (l : List Int) (i : Nat) (n : Int) (w : World) (hv : ReadsI w w.heap.size v l) (hl : l.length ≤ 9223372036854775807) (hi : i ≤ 1000000) (hn : 0 < n) (hn2 : n ≤ 1000000) :
    Calls Tryz.prog 37 #[v, .int .i64 i, .int .i64 n] w fun e w' => e = .returned (.int .i64 (plc (atL l i) n)) ∧ w = w' := by
  have cA := at_any v l i w hv hl hi
  obtain ⟨A, cap, rfl, hc⟩ := hv
  clear hc
  go_enter Tryz.func37, Tryz.ntmps37
  go_wp2_with fail
  refine cA.mono ?_
  rintro e w1 ⟨rfl, rfl⟩
  go_wp2_with fail
  refine (place_any _ n _ hn hn2).mono ?_
  rintro e w1 ⟨rfl, rfl⟩
  go_wp2
  go_ret
  exact ⟨rfl, rfl⟩

def numT (k : Nat) : Int := (([0, 1, 2, 3, 0, 1, 10, 9999] : List Int)[k]?).getD 0
def preT14 (k : Nat) : List UInt8 := (([[], [], [], [], [48], [49], [50], [49, 49], [97], [97, 46, 49], [97, 46, 98], [98], [48, 46, 48], [114, 99, 46, 49]] : List (List UInt8))[k]?).getD []
def bldT (k : Nat) : List UInt8 := (([[], [], [], [], [48, 48, 55], [120, 46, 49]] : List (List UInt8))[k]?).getD []
def genV (l : List Int) (i : Nat) : Ver := ⟨numT (plc (atL l i) 8).toNat, numT (plc (atL l (i + 1)) 8).toNat, numT (plc (atL l (i + 2)) 8).toNat, preT14 (plc (atL l (i + 3)) 14).toNat, bldT (plc (atL l (i + 4)) 6).toNat⟩
theorem num_cell {w : World} {B : Nat} {T : TypeId} (h : w.heap[B]? = some (.cells #[.int .i64 0, .int .i64 1, .int .i64 2, .int .i64 3, .int .i64 0, .int .i64 1, .int .i64 10, .int .i64 9999] T)) (k : Nat) (hk : k < 8) : w.cell? ⟨B, k, none⟩ = some (.int .i64 (numT k)) := by
  rw [cell_of_row w B k _ _ _ h]
  match k, hk with
  | 0, _ => rfl
  | 1, _ => rfl
  | 2, _ => rfl
  | 3, _ => rfl
  | 4, _ => rfl
  | 5, _ => rfl
  | 6, _ => rfl
  | 7, _ => rfl
theorem pre_cell {w : World} {B : Nat} {T : TypeId} (h : w.heap[B]? = some (.cells #[.string ⟨#[]⟩, .string ⟨#[]⟩, .string ⟨#[]⟩, .string ⟨#[]⟩, .string ⟨#[48]⟩, .string ⟨#[49]⟩, .string ⟨#[50]⟩, .string ⟨#[49, 49]⟩, .string ⟨#[97]⟩, .string ⟨#[97, 46, 49]⟩, .string ⟨#[97, 46, 98]⟩, .string ⟨#[98]⟩, .string ⟨#[48, 46, 48]⟩, .string ⟨#[114, 99, 46, 49]⟩] T)) (k : Nat) (hk : k < 14) : w.cell? ⟨B, k, none⟩ = some (.string (mkS (preT14 k))) := by
  rw [cell_of_row w B k _ _ _ h]
  match k, hk with
  | 0, _ => rfl
  | 1, _ => rfl
  | 2, _ => rfl
  | 3, _ => rfl
  | 4, _ => rfl
  | 5, _ => rfl
  | 6, _ => rfl
  | 7, _ => rfl
  | 8, _ => rfl
  | 9, _ => rfl
  | 10, _ => rfl
  | 11, _ => rfl
  | 12, _ => rfl
  | 13, _ => rfl
theorem bld_cell {w : World} {B : Nat} {T : TypeId} (h : w.heap[B]? = some (.cells #[.string ⟨#[]⟩, .string ⟨#[]⟩, .string ⟨#[]⟩, .string ⟨#[]⟩, .string ⟨#[48, 48, 55]⟩, .string ⟨#[120, 46, 49]⟩] T)) (k : Nat) (hk : k < 6) : w.cell? ⟨B, k, none⟩ = some (.string (mkS (bldT k))) := by
  rw [cell_of_row w B k _ _ _ h]
  match k, hk with
  | 0, _ => rfl
  | 1, _ => rfl
  | 2, _ => rfl
  | 3, _ => rfl
  | 4, _ => rfl
  | 5, _ => rfl
def GEnd (u : Ver) (w : World) (e : Ending) (w' : World) : Prop := e = .returned (verV u) ∧ Below w.heap.size w w'
end Go.Proofs.YtmlecnomdamgnaaGreat
end

section
/-
  linchpinlaw0's Version at the place 0: the version that five numbers of the list name.
-/
namespace Go.Proofs.YtmlecnomdamgnaaGreat
open Go.RowKit

set_option maxHeartbeats 4000000 in
set_option maxRecDepth 100000 in
theorem gen_at0 (v : Value) (l : List Int) (w : World) (hv : ReadsI w w.heap.size v l) (hl : l.length ≤ 9223372036854775807) :
    Calls Tryz.prog 21 #[v, .int .i64 0] w (GEnd (genV l 0) w) := by
  have B0 : Below w.heap.size w ((((w.alloc (.cells #[.int .i64 0, .int .i64 0, .int .i64 0, .string ⟨#[]⟩, .string ⟨#[]⟩] 31)).alloc (.cells #[.int .i64 0, .int .i64 1, .int .i64 2, .int .i64 3, .int .i64 0, .int .i64 1, .int .i64 10, .int .i64 9999] 51)).alloc (.cells #[.string ⟨#[]⟩, .string ⟨#[]⟩, .string ⟨#[]⟩, .string ⟨#[]⟩, .string ⟨#[48]⟩, .string ⟨#[49]⟩, .string ⟨#[50]⟩, .string ⟨#[49, 49]⟩, .string ⟨#[97]⟩, .string ⟨#[97, 46, 49]⟩, .string ⟨#[97, 46, 98]⟩, .string ⟨#[98]⟩, .string ⟨#[48, 46, 48]⟩, .string ⟨#[114, 99, 46, 49]⟩] 52)).alloc (.cells #[.string ⟨#[]⟩, .string ⟨#[]⟩, .string ⟨#[]⟩, .string ⟨#[]⟩, .string ⟨#[48, 48, 55]⟩, .string ⟨#[120, 46, 49]⟩] 53)) :=
    ((((Below.refl _ _).alloc (Nat.le_refl _) _).alloc (by simp only [size_box]; omega) _).alloc (by simp only [size_box]; omega) _).alloc (by simp only [size_box]; omega) _
  have hR : ((((w.alloc (.cells #[.int .i64 0, .int .i64 0, .int .i64 0, .string ⟨#[]⟩, .string ⟨#[]⟩] 31)).alloc (.cells #[.int .i64 0, .int .i64 1, .int .i64 2, .int .i64 3, .int .i64 0, .int .i64 1, .int .i64 10, .int .i64 9999] 51)).alloc (.cells #[.string ⟨#[]⟩, .string ⟨#[]⟩, .string ⟨#[]⟩, .string ⟨#[]⟩, .string ⟨#[48]⟩, .string ⟨#[49]⟩, .string ⟨#[50]⟩, .string ⟨#[49, 49]⟩, .string ⟨#[97]⟩, .string ⟨#[97, 46, 49]⟩, .string ⟨#[97, 46, 98]⟩, .string ⟨#[98]⟩, .string ⟨#[48, 46, 48]⟩, .string ⟨#[114, 99, 46, 49]⟩] 52)).alloc (.cells #[.string ⟨#[]⟩, .string ⟨#[]⟩, .string ⟨#[]⟩, .string ⟨#[]⟩, .string ⟨#[48, 48, 55]⟩, .string ⟨#[120, 46, 49]⟩] 53)).heap[w.heap.size]? = some (.cells #[.int .i64 0, .int .i64 0, .int .i64 0, .string ⟨#[]⟩, .string ⟨#[]⟩] 31) := by
    rw [heap_old _ _ (by simp only [size_box]; omega), heap_old _ _ (by simp only [size_box]; omega), heap_old _ _ (by simp only [size_box]; omega)]; exact heap_new w _
  have hN : ((((w.alloc (.cells #[.int .i64 0, .int .i64 0, .int .i64 0, .string ⟨#[]⟩, .string ⟨#[]⟩] 31)).alloc (.cells #[.int .i64 0, .int .i64 1, .int .i64 2, .int .i64 3, .int .i64 0, .int .i64 1, .int .i64 10, .int .i64 9999] 51)).alloc (.cells #[.string ⟨#[]⟩, .string ⟨#[]⟩, .string ⟨#[]⟩, .string ⟨#[]⟩, .string ⟨#[48]⟩, .string ⟨#[49]⟩, .string ⟨#[50]⟩, .string ⟨#[49, 49]⟩, .string ⟨#[97]⟩, .string ⟨#[97, 46, 49]⟩, .string ⟨#[97, 46, 98]⟩, .string ⟨#[98]⟩, .string ⟨#[48, 46, 48]⟩, .string ⟨#[114, 99, 46, 49]⟩] 52)).alloc (.cells #[.string ⟨#[]⟩, .string ⟨#[]⟩, .string ⟨#[]⟩, .string ⟨#[]⟩, .string ⟨#[48, 48, 55]⟩, .string ⟨#[120, 46, 49]⟩] 53)).heap[w.heap.size + 1]? = some (.cells #[.int .i64 0, .int .i64 1, .int .i64 2, .int .i64 3, .int .i64 0, .int .i64 1, .int .i64 10, .int .i64 9999] 51) := by
    rw [heap_old _ _ (by simp only [size_box]; omega), heap_old _ _ (by simp only [size_box]; omega)]; exact heap_at _ _ _ (by simp only [size_box])
  have hP : ((((w.alloc (.cells #[.int .i64 0, .int .i64 0, .int .i64 0, .string ⟨#[]⟩, .string ⟨#[]⟩] 31)).alloc (.cells #[.int .i64 0, .int .i64 1, .int .i64 2, .int .i64 3, .int .i64 0, .int .i64 1, .int .i64 10, .int .i64 9999] 51)).alloc (.cells #[.string ⟨#[]⟩, .string ⟨#[]⟩, .string ⟨#[]⟩, .string ⟨#[]⟩, .string ⟨#[48]⟩, .string ⟨#[49]⟩, .string ⟨#[50]⟩, .string ⟨#[49, 49]⟩, .string ⟨#[97]⟩, .string ⟨#[97, 46, 49]⟩, .string ⟨#[97, 46, 98]⟩, .string ⟨#[98]⟩, .string ⟨#[48, 46, 48]⟩, .string ⟨#[114, 99, 46, 49]⟩] 52)).alloc (.cells #[.string ⟨#[]⟩, .string ⟨#[]⟩, .string ⟨#[]⟩, .string ⟨#[]⟩, .string ⟨#[48, 48, 55]⟩, .string ⟨#[120, 46, 49]⟩] 53)).heap[w.heap.size + 1 + 1]? = some (.cells #[.string ⟨#[]⟩, .string ⟨#[]⟩, .string ⟨#[]⟩, .string ⟨#[]⟩, .string ⟨#[48]⟩, .string ⟨#[49]⟩, .string ⟨#[50]⟩, .string ⟨#[49, 49]⟩, .string ⟨#[97]⟩, .string ⟨#[97, 46, 49]⟩, .string ⟨#[97, 46, 98]⟩, .string ⟨#[98]⟩, .string ⟨#[48, 46, 48]⟩, .string ⟨#[114, 99, 46, 49]⟩] 52) := by
    rw [heap_old _ _ (by simp only [size_box]; omega)]; exact heap_at _ _ _ (by simp only [size_box])
  have hQ : ((((w.alloc (.cells #[.int .i64 0, .int .i64 0, .int .i64 0, .string ⟨#[]⟩, .string ⟨#[]⟩] 31)).alloc (.cells #[.int .i64 0, .int .i64 1, .int .i64 2, .int .i64 3, .int .i64 0, .int .i64 1, .int .i64 10, .int .i64 9999] 51)).alloc (.cells #[.string ⟨#[]⟩, .string ⟨#[]⟩, .string ⟨#[]⟩, .string ⟨#[]⟩, .string ⟨#[48]⟩, .string ⟨#[49]⟩, .string ⟨#[50]⟩, .string ⟨#[49, 49]⟩, .string ⟨#[97]⟩, .string ⟨#[97, 46, 49]⟩, .string ⟨#[97, 46, 98]⟩, .string ⟨#[98]⟩, .string ⟨#[48, 46, 48]⟩, .string ⟨#[114, 99, 46, 49]⟩] 52)).alloc (.cells #[.string ⟨#[]⟩, .string ⟨#[]⟩, .string ⟨#[]⟩, .string ⟨#[]⟩, .string ⟨#[48, 48, 55]⟩, .string ⟨#[120, 46, 49]⟩] 53)).heap[w.heap.size + 1 + 1 + 1]? = some (.cells #[.string ⟨#[]⟩, .string ⟨#[]⟩, .string ⟨#[]⟩, .string ⟨#[]⟩, .string ⟨#[48, 48, 55]⟩, .string ⟨#[120, 46, 49]⟩] 53) := heap_at _ _ _ (by simp only [size_box])
  have hvW := (hv.below B0).more B0.size
  obtain ⟨A, cap, rfl, hc⟩ := hv
  clear hc
  go_enter Tryz.func21, Tryz.ntmps21
  go_wp2_with fail
  generalize ((((w.alloc (.cells #[.int .i64 0, .int .i64 0, .int .i64 0, .string ⟨#[]⟩, .string ⟨#[]⟩] 31)).alloc (.cells #[.int .i64 0, .int .i64 1, .int .i64 2, .int .i64 3, .int .i64 0, .int .i64 1, .int .i64 10, .int .i64 9999] 51)).alloc (.cells #[.string ⟨#[]⟩, .string ⟨#[]⟩, .string ⟨#[]⟩, .string ⟨#[]⟩, .string ⟨#[48]⟩, .string ⟨#[49]⟩, .string ⟨#[50]⟩, .string ⟨#[49, 49]⟩, .string ⟨#[97]⟩, .string ⟨#[97, 46, 49]⟩, .string ⟨#[97, 46, 98]⟩, .string ⟨#[98]⟩, .string ⟨#[48, 46, 48]⟩, .string ⟨#[114, 99, 46, 49]⟩] 52)).alloc (.cells #[.string ⟨#[]⟩, .string ⟨#[]⟩, .string ⟨#[]⟩, .string ⟨#[]⟩, .string ⟨#[48, 48, 55]⟩, .string ⟨#[120, 46, 49]⟩] 53)) = W4 at *
  have hvD : ReadsI W4.drew W4.drew.heap.size (.slice A l.length cap) l := hvW
  obtain ⟨k0, e0⟩ : ∃ k : Nat, plc (atL l 0) 8 = (k : Int) := ⟨_, (Int.toNat_of_nonneg (plc_in _ _ (by omega)).1).symm⟩
  have q0 : k0 < 8 := by have := (plc_in (atL l 0) 8 (by omega)).2; omega
  have u0 : (plc (atL l 0) 8).toNat = k0 := by rw [e0]; rfl
  have c0 : Calls Tryz.prog 37 #[.slice A l.length cap, .int .i64 0, .int .i64 8] W4.drew fun e w' => e = .returned (.int .i64 (k0 : Int)) ∧ w' = W4.drew := by
    have h := from_any _ l 0 8 W4.drew hvD hl (by omega) (by omega) (by omega)
    rw [e0] at h
    exact h.mono fun _ _ ⟨x, y⟩ => ⟨x, y.symm⟩
  have d0 : W4.cell? ⟨w.heap.size + 1, k0, none⟩ = some (.int .i64 (numT k0)) := num_cell hN k0 q0
  have d0' : ({ W4 with drawn := W4.drawn + 1 } : World).cell? ⟨w.heap.size + 1, k0, none⟩ = some (.int .i64 (numT k0)) := d0
  have r0 : (k0 : Int) < 8 := by omega
  obtain ⟨k1, e1⟩ : ∃ k : Nat, plc (atL l 1) 8 = (k : Int) := ⟨_, (Int.toNat_of_nonneg (plc_in _ _ (by omega)).1).symm⟩
  have q1 : k1 < 8 := by have := (plc_in (atL l 1) 8 (by omega)).2; omega
  have u1 : (plc (atL l 1) 8).toNat = k1 := by rw [e1]; rfl
  have c1 : Calls Tryz.prog 37 #[.slice A l.length cap, .int .i64 1, .int .i64 8] W4.drew fun e w' => e = .returned (.int .i64 (k1 : Int)) ∧ w' = W4.drew := by
    have h := from_any _ l 1 8 W4.drew hvD hl (by omega) (by omega) (by omega)
    rw [e1] at h
    exact h.mono fun _ _ ⟨x, y⟩ => ⟨x, y.symm⟩
  have d1 : W4.cell? ⟨w.heap.size + 1, k1, none⟩ = some (.int .i64 (numT k1)) := num_cell hN k1 q1
  have d1' : ({ W4 with drawn := W4.drawn + 1 } : World).cell? ⟨w.heap.size + 1, k1, none⟩ = some (.int .i64 (numT k1)) := d1
  have r1 : (k1 : Int) < 8 := by omega
  obtain ⟨k2, e2⟩ : ∃ k : Nat, plc (atL l 2) 8 = (k : Int) := ⟨_, (Int.toNat_of_nonneg (plc_in _ _ (by omega)).1).symm⟩
  have q2 : k2 < 8 := by have := (plc_in (atL l 2) 8 (by omega)).2; omega
  have u2 : (plc (atL l 2) 8).toNat = k2 := by rw [e2]; rfl
  have c2 : Calls Tryz.prog 37 #[.slice A l.length cap, .int .i64 2, .int .i64 8] W4.drew fun e w' => e = .returned (.int .i64 (k2 : Int)) ∧ w' = W4.drew := by
    have h := from_any _ l 2 8 W4.drew hvD hl (by omega) (by omega) (by omega)
    rw [e2] at h
    exact h.mono fun _ _ ⟨x, y⟩ => ⟨x, y.symm⟩
  have d2 : W4.cell? ⟨w.heap.size + 1, k2, none⟩ = some (.int .i64 (numT k2)) := num_cell hN k2 q2
  have d2' : ({ W4 with drawn := W4.drawn + 1 } : World).cell? ⟨w.heap.size + 1, k2, none⟩ = some (.int .i64 (numT k2)) := d2
  have r2 : (k2 : Int) < 8 := by omega
  obtain ⟨k3, e3⟩ : ∃ k : Nat, plc (atL l 3) 14 = (k : Int) := ⟨_, (Int.toNat_of_nonneg (plc_in _ _ (by omega)).1).symm⟩
  have q3 : k3 < 14 := by have := (plc_in (atL l 3) 14 (by omega)).2; omega
  have u3 : (plc (atL l 3) 14).toNat = k3 := by rw [e3]; rfl
  have c3 : Calls Tryz.prog 37 #[.slice A l.length cap, .int .i64 3, .int .i64 14] W4.drew fun e w' => e = .returned (.int .i64 (k3 : Int)) ∧ w' = W4.drew := by
    have h := from_any _ l 3 14 W4.drew hvD hl (by omega) (by omega) (by omega)
    rw [e3] at h
    exact h.mono fun _ _ ⟨x, y⟩ => ⟨x, y.symm⟩
  have d3 : W4.cell? ⟨w.heap.size + 1 + 1, k3, none⟩ = some (.string (mkS (preT14 k3))) := pre_cell hP k3 q3
  have d3' : ({ W4 with drawn := W4.drawn + 1 } : World).cell? ⟨w.heap.size + 1 + 1, k3, none⟩ = some (.string (mkS (preT14 k3))) := d3
  have r3 : (k3 : Int) < 14 := by omega
  obtain ⟨k4, e4⟩ : ∃ k : Nat, plc (atL l 4) 6 = (k : Int) := ⟨_, (Int.toNat_of_nonneg (plc_in _ _ (by omega)).1).symm⟩
  have q4 : k4 < 6 := by have := (plc_in (atL l 4) 6 (by omega)).2; omega
  have u4 : (plc (atL l 4) 6).toNat = k4 := by rw [e4]; rfl
  have c4 : Calls Tryz.prog 37 #[.slice A l.length cap, .int .i64 4, .int .i64 6] W4.drew fun e w' => e = .returned (.int .i64 (k4 : Int)) ∧ w' = W4.drew := by
    have h := from_any _ l 4 6 W4.drew hvD hl (by omega) (by omega) (by omega)
    rw [e4] at h
    exact h.mono fun _ _ ⟨x, y⟩ => ⟨x, y.symm⟩
  have d4 : W4.cell? ⟨w.heap.size + 1 + 1 + 1, k4, none⟩ = some (.string (mkS (bldT k4))) := bld_cell hQ k4 q4
  have d4' : ({ W4 with drawn := W4.drawn + 1 } : World).cell? ⟨w.heap.size + 1 + 1 + 1, k4, none⟩ = some (.string (mkS (bldT k4))) := d4
  have r4 : (k4 : Int) < 6 := by omega
  have HG : Hid (genV l 0 = ⟨numT k0, numT k1, numT k2, preT14 k3, bldT k4⟩) := by show _ = _; unfold genV; rw [u0, u1, u2, u3, u4]
  have HR := Lib.hid hR
  clear e0 e1 e2 e3 e4 u0 u1 u2 u3 u4 hR hN hP hQ hvW hvD hl
  go_still_tail 30, (by kernel_rfl)
  still_call c0
  repeat still_step
  still_call c1
  repeat still_step
  still_call c2
  repeat still_step
  still_call c3
  repeat still_step
  still_call c4
  repeat still_step
  refine wpStill_nil ?_
  change wpList _ _ _ _ _ W4.drew
  have BD : Below w.heap.size w W4.drew := B0.drew
  have HR2 : Hid (W4.drew.heap[w.heap.size]? = some (.cells #[.int .i64 0, .int .i64 0, .int .i64 0, .string ⟨#[]⟩, .string ⟨#[]⟩] 31)) := HR.out
  go_wp2_with (refine wpList_store_row rfl 31 _ _ rfl w.heap.size #[.int .i64 (numT k0), .int .i64 (numT k1), .int .i64 (numT k2), .string (mkS (preT14 k3)), .string (mkS (bldT k4))] rfl rfl _ _ HR2.out (by kernel_rfl) rfl (ver_one _ _ _ _ _) ?_)
  have hr := results_cell_row (P := Tryz.prog) (fn := Tryz.f21) Tryz.results21
  refine bodyPost_ret (v := .agg #[.int .i64 (numT k0), .int .i64 (numT k1), .int .i64 (numT k2), .string (mkS (preT14 k3)), .string (mkS (bldT k4))]) (hr _ _ w.heap.size _ _ _ _ rfl (setRow_heap _ _ _ _ _ _ HR2.out) Tryz.underlying31 rfl (by kernel_rfl)) rfl ⟨?_, below_setRow BD (Nat.le_refl _) _⟩
  rw [HG.out]; rfl
end Go.Proofs.YtmlecnomdamgnaaGreat
end

section
/-
  linchpinlaw0's Version at the place 5: the version that five numbers of the list name.
-/
namespace Go.Proofs.YtmlecnomdamgnaaGreat
open Go.RowKit

set_option maxHeartbeats 4000000 in
set_option maxRecDepth 100000 in
theorem gen_at5 (v : Value) (l : List Int) (w : World) (hv : ReadsI w w.heap.size v l) (hl : l.length ≤ 9223372036854775807) :
    Calls Tryz.prog 21 #[v, .int .i64 5] w (GEnd (genV l 5) w) := by
  have B0 : Below w.heap.size w ((((w.alloc (.cells #[.int .i64 0, .int .i64 0, .int .i64 0, .string ⟨#[]⟩, .string ⟨#[]⟩] 31)).alloc (.cells #[.int .i64 0, .int .i64 1, .int .i64 2, .int .i64 3, .int .i64 0, .int .i64 1, .int .i64 10, .int .i64 9999] 51)).alloc (.cells #[.string ⟨#[]⟩, .string ⟨#[]⟩, .string ⟨#[]⟩, .string ⟨#[]⟩, .string ⟨#[48]⟩, .string ⟨#[49]⟩, .string ⟨#[50]⟩, .string ⟨#[49, 49]⟩, .string ⟨#[97]⟩, .string ⟨#[97, 46, 49]⟩, .string ⟨#[97, 46, 98]⟩, .string ⟨#[98]⟩, .string ⟨#[48, 46, 48]⟩, .string ⟨#[114, 99, 46, 49]⟩] 52)).alloc (.cells #[.string ⟨#[]⟩, .string ⟨#[]⟩, .string ⟨#[]⟩, .string ⟨#[]⟩, .string ⟨#[48, 48, 55]⟩, .string ⟨#[120, 46, 49]⟩] 53)) :=
    ((((Below.refl _ _).alloc (Nat.le_refl _) _).alloc (by simp only [size_box]; omega) _).alloc (by simp only [size_box]; omega) _).alloc (by simp only [size_box]; omega) _
  have hR : ((((w.alloc (.cells #[.int .i64 0, .int .i64 0, .int .i64 0, .string ⟨#[]⟩, .string ⟨#[]⟩] 31)).alloc (.cells #[.int .i64 0, .int .i64 1, .int .i64 2, .int .i64 3, .int .i64 0, .int .i64 1, .int .i64 10, .int .i64 9999] 51)).alloc (.cells #[.string ⟨#[]⟩, .string ⟨#[]⟩, .string ⟨#[]⟩, .string ⟨#[]⟩, .string ⟨#[48]⟩, .string ⟨#[49]⟩, .string ⟨#[50]⟩, .string ⟨#[49, 49]⟩, .string ⟨#[97]⟩, .string ⟨#[97, 46, 49]⟩, .string ⟨#[97, 46, 98]⟩, .string ⟨#[98]⟩, .string ⟨#[48, 46, 48]⟩, .string ⟨#[114, 99, 46, 49]⟩] 52)).alloc (.cells #[.string ⟨#[]⟩, .string ⟨#[]⟩, .string ⟨#[]⟩, .string ⟨#[]⟩, .string ⟨#[48, 48, 55]⟩, .string ⟨#[120, 46, 49]⟩] 53)).heap[w.heap.size]? = some (.cells #[.int .i64 0, .int .i64 0, .int .i64 0, .string ⟨#[]⟩, .string ⟨#[]⟩] 31) := by
    rw [heap_old _ _ (by simp only [size_box]; omega), heap_old _ _ (by simp only [size_box]; omega), heap_old _ _ (by simp only [size_box]; omega)]; exact heap_new w _
  have hN : ((((w.alloc (.cells #[.int .i64 0, .int .i64 0, .int .i64 0, .string ⟨#[]⟩, .string ⟨#[]⟩] 31)).alloc (.cells #[.int .i64 0, .int .i64 1, .int .i64 2, .int .i64 3, .int .i64 0, .int .i64 1, .int .i64 10, .int .i64 9999] 51)).alloc (.cells #[.string ⟨#[]⟩, .string ⟨#[]⟩, .string ⟨#[]⟩, .string ⟨#[]⟩, .string ⟨#[48]⟩, .string ⟨#[49]⟩, .string ⟨#[50]⟩, .string ⟨#[49, 49]⟩, .string ⟨#[97]⟩, .string ⟨#[97, 46, 49]⟩, .string ⟨#[97, 46, 98]⟩, .string ⟨#[98]⟩, .string ⟨#[48, 46, 48]⟩, .string ⟨#[114, 99, 46, 49]⟩] 52)).alloc (.cells #[.string ⟨#[]⟩, .string ⟨#[]⟩, .string ⟨#[]⟩, .string ⟨#[]⟩, .string ⟨#[48, 48, 55]⟩, .string ⟨#[120, 46, 49]⟩] 53)).heap[w.heap.size + 1]? = some (.cells #[.int .i64 0, .int .i64 1, .int .i64 2, .int .i64 3, .int .i64 0, .int .i64 1, .int .i64 10, .int .i64 9999] 51) := by
    rw [heap_old _ _ (by simp only [size_box]; omega), heap_old _ _ (by simp only [size_box]; omega)]; exact heap_at _ _ _ (by simp only [size_box])
  have hP : ((((w.alloc (.cells #[.int .i64 0, .int .i64 0, .int .i64 0, .string ⟨#[]⟩, .string ⟨#[]⟩] 31)).alloc (.cells #[.int .i64 0, .int .i64 1, .int .i64 2, .int .i64 3, .int .i64 0, .int .i64 1, .int .i64 10, .int .i64 9999] 51)).alloc (.cells #[.string ⟨#[]⟩, .string ⟨#[]⟩, .string ⟨#[]⟩, .string ⟨#[]⟩, .string ⟨#[48]⟩, .string ⟨#[49]⟩, .string ⟨#[50]⟩, .string ⟨#[49, 49]⟩, .string ⟨#[97]⟩, .string ⟨#[97, 46, 49]⟩, .string ⟨#[97, 46, 98]⟩, .string ⟨#[98]⟩, .string ⟨#[48, 46, 48]⟩, .string ⟨#[114, 99, 46, 49]⟩] 52)).alloc (.cells #[.string ⟨#[]⟩, .string ⟨#[]⟩, .string ⟨#[]⟩, .string ⟨#[]⟩, .string ⟨#[48, 48, 55]⟩, .string ⟨#[120, 46, 49]⟩] 53)).heap[w.heap.size + 1 + 1]? = some (.cells #[.string ⟨#[]⟩, .string ⟨#[]⟩, .string ⟨#[]⟩, .string ⟨#[]⟩, .string ⟨#[48]⟩, .string ⟨#[49]⟩, .string ⟨#[50]⟩, .string ⟨#[49, 49]⟩, .string ⟨#[97]⟩, .string ⟨#[97, 46, 49]⟩, .string ⟨#[97, 46, 98]⟩, .string ⟨#[98]⟩, .string ⟨#[48, 46, 48]⟩, .string ⟨#[114, 99, 46, 49]⟩] 52) := by
    rw [heap_old _ _ (by simp only [size_box]; omega)]; exact heap_at _ _ _ (by simp only [size_box])
  have hQ : ((((w.alloc (.cells #[.int .i64 0, .int .i64 0, .int .i64 0, .string ⟨#[]⟩, .string ⟨#[]⟩] 31)).alloc (.cells #[.int .i64 0, .int .i64 1, .int .i64 2, .int .i64 3, .int .i64 0, .int .i64 1, .int .i64 10, .int .i64 9999] 51)).alloc (.cells #[.string ⟨#[]⟩, .string ⟨#[]⟩, .string ⟨#[]⟩, .string ⟨#[]⟩, .string ⟨#[48]⟩, .string ⟨#[49]⟩, .string ⟨#[50]⟩, .string ⟨#[49, 49]⟩, .string ⟨#[97]⟩, .string ⟨#[97, 46, 49]⟩, .string ⟨#[97, 46, 98]⟩, .string ⟨#[98]⟩, .string ⟨#[48, 46, 48]⟩, .string ⟨#[114, 99, 46, 49]⟩] 52)).alloc (.cells #[.string ⟨#[]⟩, .string ⟨#[]⟩, .string ⟨#[]⟩, .string ⟨#[]⟩, .string ⟨#[48, 48, 55]⟩, .string ⟨#[120, 46, 49]⟩] 53)).heap[w.heap.size + 1 + 1 + 1]? = some (.cells #[.string ⟨#[]⟩, .string ⟨#[]⟩, .string ⟨#[]⟩, .string ⟨#[]⟩, .string ⟨#[48, 48, 55]⟩, .string ⟨#[120, 46, 49]⟩] 53) := heap_at _ _ _ (by simp only [size_box])
  have hvW := (hv.below B0).more B0.size
  obtain ⟨A, cap, rfl, hc⟩ := hv
  clear hc
  go_enter Tryz.func21, Tryz.ntmps21
  go_wp2_with fail
  generalize ((((w.alloc (.cells #[.int .i64 0, .int .i64 0, .int .i64 0, .string ⟨#[]⟩, .string ⟨#[]⟩] 31)).alloc (.cells #[.int .i64 0, .int .i64 1, .int .i64 2, .int .i64 3, .int .i64 0, .int .i64 1, .int .i64 10, .int .i64 9999] 51)).alloc (.cells #[.string ⟨#[]⟩, .string ⟨#[]⟩, .string ⟨#[]⟩, .string ⟨#[]⟩, .string ⟨#[48]⟩, .string ⟨#[49]⟩, .string ⟨#[50]⟩, .string ⟨#[49, 49]⟩, .string ⟨#[97]⟩, .string ⟨#[97, 46, 49]⟩, .string ⟨#[97, 46, 98]⟩, .string ⟨#[98]⟩, .string ⟨#[48, 46, 48]⟩, .string ⟨#[114, 99, 46, 49]⟩] 52)).alloc (.cells #[.string ⟨#[]⟩, .string ⟨#[]⟩, .string ⟨#[]⟩, .string ⟨#[]⟩, .string ⟨#[48, 48, 55]⟩, .string ⟨#[120, 46, 49]⟩] 53)) = W4 at *
  have hvD : ReadsI W4.drew W4.drew.heap.size (.slice A l.length cap) l := hvW
  obtain ⟨k0, e0⟩ : ∃ k : Nat, plc (atL l 5) 8 = (k : Int) := ⟨_, (Int.toNat_of_nonneg (plc_in _ _ (by omega)).1).symm⟩
  have q0 : k0 < 8 := by have := (plc_in (atL l 5) 8 (by omega)).2; omega
  have u0 : (plc (atL l 5) 8).toNat = k0 := by rw [e0]; rfl
  have c0 : Calls Tryz.prog 37 #[.slice A l.length cap, .int .i64 5, .int .i64 8] W4.drew fun e w' => e = .returned (.int .i64 (k0 : Int)) ∧ w' = W4.drew := by
    have h := from_any _ l 5 8 W4.drew hvD hl (by omega) (by omega) (by omega)
    rw [e0] at h
    exact h.mono fun _ _ ⟨x, y⟩ => ⟨x, y.symm⟩
  have d0 : W4.cell? ⟨w.heap.size + 1, k0, none⟩ = some (.int .i64 (numT k0)) := num_cell hN k0 q0
  have d0' : ({ W4 with drawn := W4.drawn + 1 } : World).cell? ⟨w.heap.size + 1, k0, none⟩ = some (.int .i64 (numT k0)) := d0
  have r0 : (k0 : Int) < 8 := by omega
  obtain ⟨k1, e1⟩ : ∃ k : Nat, plc (atL l 6) 8 = (k : Int) := ⟨_, (Int.toNat_of_nonneg (plc_in _ _ (by omega)).1).symm⟩
  have q1 : k1 < 8 := by have := (plc_in (atL l 6) 8 (by omega)).2; omega
  have u1 : (plc (atL l 6) 8).toNat = k1 := by rw [e1]; rfl
  have c1 : Calls Tryz.prog 37 #[.slice A l.length cap, .int .i64 6, .int .i64 8] W4.drew fun e w' => e = .returned (.int .i64 (k1 : Int)) ∧ w' = W4.drew := by
    have h := from_any _ l 6 8 W4.drew hvD hl (by omega) (by omega) (by omega)
    rw [e1] at h
    exact h.mono fun _ _ ⟨x, y⟩ => ⟨x, y.symm⟩
  have d1 : W4.cell? ⟨w.heap.size + 1, k1, none⟩ = some (.int .i64 (numT k1)) := num_cell hN k1 q1
  have d1' : ({ W4 with drawn := W4.drawn + 1 } : World).cell? ⟨w.heap.size + 1, k1, none⟩ = some (.int .i64 (numT k1)) := d1
  have r1 : (k1 : Int) < 8 := by omega
  obtain ⟨k2, e2⟩ : ∃ k : Nat, plc (atL l 7) 8 = (k : Int) := ⟨_, (Int.toNat_of_nonneg (plc_in _ _ (by omega)).1).symm⟩
  have q2 : k2 < 8 := by have := (plc_in (atL l 7) 8 (by omega)).2; omega
  have u2 : (plc (atL l 7) 8).toNat = k2 := by rw [e2]; rfl
  have c2 : Calls Tryz.prog 37 #[.slice A l.length cap, .int .i64 7, .int .i64 8] W4.drew fun e w' => e = .returned (.int .i64 (k2 : Int)) ∧ w' = W4.drew := by
    have h := from_any _ l 7 8 W4.drew hvD hl (by omega) (by omega) (by omega)
    rw [e2] at h
    exact h.mono fun _ _ ⟨x, y⟩ => ⟨x, y.symm⟩
  have d2 : W4.cell? ⟨w.heap.size + 1, k2, none⟩ = some (.int .i64 (numT k2)) := num_cell hN k2 q2
  have d2' : ({ W4 with drawn := W4.drawn + 1 } : World).cell? ⟨w.heap.size + 1, k2, none⟩ = some (.int .i64 (numT k2)) := d2
  have r2 : (k2 : Int) < 8 := by omega
  obtain ⟨k3, e3⟩ : ∃ k : Nat, plc (atL l 8) 14 = (k : Int) := ⟨_, (Int.toNat_of_nonneg (plc_in _ _ (by omega)).1).symm⟩
  have q3 : k3 < 14 := by have := (plc_in (atL l 8) 14 (by omega)).2; omega
  have u3 : (plc (atL l 8) 14).toNat = k3 := by rw [e3]; rfl
  have c3 : Calls Tryz.prog 37 #[.slice A l.length cap, .int .i64 8, .int .i64 14] W4.drew fun e w' => e = .returned (.int .i64 (k3 : Int)) ∧ w' = W4.drew := by
    have h := from_any _ l 8 14 W4.drew hvD hl (by omega) (by omega) (by omega)
    rw [e3] at h
    exact h.mono fun _ _ ⟨x, y⟩ => ⟨x, y.symm⟩
  have d3 : W4.cell? ⟨w.heap.size + 1 + 1, k3, none⟩ = some (.string (mkS (preT14 k3))) := pre_cell hP k3 q3
  have d3' : ({ W4 with drawn := W4.drawn + 1 } : World).cell? ⟨w.heap.size + 1 + 1, k3, none⟩ = some (.string (mkS (preT14 k3))) := d3
  have r3 : (k3 : Int) < 14 := by omega
  obtain ⟨k4, e4⟩ : ∃ k : Nat, plc (atL l 9) 6 = (k : Int) := ⟨_, (Int.toNat_of_nonneg (plc_in _ _ (by omega)).1).symm⟩
  have q4 : k4 < 6 := by have := (plc_in (atL l 9) 6 (by omega)).2; omega
  have u4 : (plc (atL l 9) 6).toNat = k4 := by rw [e4]; rfl
  have c4 : Calls Tryz.prog 37 #[.slice A l.length cap, .int .i64 9, .int .i64 6] W4.drew fun e w' => e = .returned (.int .i64 (k4 : Int)) ∧ w' = W4.drew := by
    have h := from_any _ l 9 6 W4.drew hvD hl (by omega) (by omega) (by omega)
    rw [e4] at h
    exact h.mono fun _ _ ⟨x, y⟩ => ⟨x, y.symm⟩
  have d4 : W4.cell? ⟨w.heap.size + 1 + 1 + 1, k4, none⟩ = some (.string (mkS (bldT k4))) := bld_cell hQ k4 q4
  have d4' : ({ W4 with drawn := W4.drawn + 1 } : World).cell? ⟨w.heap.size + 1 + 1 + 1, k4, none⟩ = some (.string (mkS (bldT k4))) := d4
  have r4 : (k4 : Int) < 6 := by omega
  have HG : Hid (genV l 5 = ⟨numT k0, numT k1, numT k2, preT14 k3, bldT k4⟩) := by show _ = _; unfold genV; rw [u0, u1, u2, u3, u4]
  have HR := Lib.hid hR
  clear e0 e1 e2 e3 e4 u0 u1 u2 u3 u4 hR hN hP hQ hvW hvD hl
  go_still_tail 30, (by kernel_rfl)
  still_call c0
  repeat still_step
  still_call c1
  repeat still_step
  still_call c2
  repeat still_step
  still_call c3
  repeat still_step
  still_call c4
  repeat still_step
  refine wpStill_nil ?_
  change wpList _ _ _ _ _ W4.drew
  have BD : Below w.heap.size w W4.drew := B0.drew
  have HR2 : Hid (W4.drew.heap[w.heap.size]? = some (.cells #[.int .i64 0, .int .i64 0, .int .i64 0, .string ⟨#[]⟩, .string ⟨#[]⟩] 31)) := HR.out
  go_wp2_with (refine wpList_store_row rfl 31 _ _ rfl w.heap.size #[.int .i64 (numT k0), .int .i64 (numT k1), .int .i64 (numT k2), .string (mkS (preT14 k3)), .string (mkS (bldT k4))] rfl rfl _ _ HR2.out (by kernel_rfl) rfl (ver_one _ _ _ _ _) ?_)
  have hr := results_cell_row (P := Tryz.prog) (fn := Tryz.f21) Tryz.results21
  refine bodyPost_ret (v := .agg #[.int .i64 (numT k0), .int .i64 (numT k1), .int .i64 (numT k2), .string (mkS (preT14 k3)), .string (mkS (bldT k4))]) (hr _ _ w.heap.size _ _ _ _ rfl (setRow_heap _ _ _ _ _ _ HR2.out) Tryz.underlying31 rfl (by kernel_rfl)) rfl ⟨?_, below_setRow BD (Nat.le_refl _) _⟩
  rw [HG.out]; rfl
end Go.Proofs.YtmlecnomdamgnaaGreat
end

section
/-
  linchpinlaw0's Version at the place 10: the version that five numbers of the list name.
-/
namespace Go.Proofs.YtmlecnomdamgnaaGreat
open Go.RowKit

set_option maxHeartbeats 4000000 in
set_option maxRecDepth 100000 in
theorem gen_at10 (v : Value) (l : List Int) (w : World) (hv : ReadsI w w.heap.size v l) (hl : l.length ≤ 9223372036854775807) :
    Calls Tryz.prog 21 #[v, .int .i64 10] w (GEnd (genV l 10) w) := by
  have B0 : Below w.heap.size w ((((w.alloc (.cells #[.int .i64 0, .int .i64 0, .int .i64 0, .string ⟨#[]⟩, .string ⟨#[]⟩] 31)).alloc (.cells #[.int .i64 0, .int .i64 1, .int .i64 2, .int .i64 3, .int .i64 0, .int .i64 1, .int .i64 10, .int .i64 9999] 51)).alloc (.cells #[.string ⟨#[]⟩, .string ⟨#[]⟩, .string ⟨#[]⟩, .string ⟨#[]⟩, .string ⟨#[48]⟩, .string ⟨#[49]⟩, .string ⟨#[50]⟩, .string ⟨#[49, 49]⟩, .string ⟨#[97]⟩, .string ⟨#[97, 46, 49]⟩, .string ⟨#[97, 46, 98]⟩, .string ⟨#[98]⟩, .string ⟨#[48, 46, 48]⟩, .string ⟨#[114, 99, 46, 49]⟩] 52)).alloc (.cells #[.string ⟨#[]⟩, .string ⟨#[]⟩, .string ⟨#[]⟩, .string ⟨#[]⟩, .string ⟨#[48, 48, 55]⟩, .string ⟨#[120, 46, 49]⟩] 53)) :=
    ((((Below.refl _ _).alloc (Nat.le_refl _) _).alloc (by simp only [size_box]; omega) _).alloc (by simp only [size_box]; omega) _).alloc (by simp only [size_box]; omega) _
  have hR : ((((w.alloc (.cells #[.int .i64 0, .int .i64 0, .int .i64 0, .string ⟨#[]⟩, .string ⟨#[]⟩] 31)).alloc (.cells #[.int .i64 0, .int .i64 1, .int .i64 2, .int .i64 3, .int .i64 0, .int .i64 1, .int .i64 10, .int .i64 9999] 51)).alloc (.cells #[.string ⟨#[]⟩, .string ⟨#[]⟩, .string ⟨#[]⟩, .string ⟨#[]⟩, .string ⟨#[48]⟩, .string ⟨#[49]⟩, .string ⟨#[50]⟩, .string ⟨#[49, 49]⟩, .string ⟨#[97]⟩, .string ⟨#[97, 46, 49]⟩, .string ⟨#[97, 46, 98]⟩, .string ⟨#[98]⟩, .string ⟨#[48, 46, 48]⟩, .string ⟨#[114, 99, 46, 49]⟩] 52)).alloc (.cells #[.string ⟨#[]⟩, .string ⟨#[]⟩, .string ⟨#[]⟩, .string ⟨#[]⟩, .string ⟨#[48, 48, 55]⟩, .string ⟨#[120, 46, 49]⟩] 53)).heap[w.heap.size]? = some (.cells #[.int .i64 0, .int .i64 0, .int .i64 0, .string ⟨#[]⟩, .string ⟨#[]⟩] 31) := by
    rw [heap_old _ _ (by simp only [size_box]; omega), heap_old _ _ (by simp only [size_box]; omega), heap_old _ _ (by simp only [size_box]; omega)]; exact heap_new w _
  have hN : ((((w.alloc (.cells #[.int .i64 0, .int .i64 0, .int .i64 0, .string ⟨#[]⟩, .string ⟨#[]⟩] 31)).alloc (.cells #[.int .i64 0, .int .i64 1, .int .i64 2, .int .i64 3, .int .i64 0, .int .i64 1, .int .i64 10, .int .i64 9999] 51)).alloc (.cells #[.string ⟨#[]⟩, .string ⟨#[]⟩, .string ⟨#[]⟩, .string ⟨#[]⟩, .string ⟨#[48]⟩, .string ⟨#[49]⟩, .string ⟨#[50]⟩, .string ⟨#[49, 49]⟩, .string ⟨#[97]⟩, .string ⟨#[97, 46, 49]⟩, .string ⟨#[97, 46, 98]⟩, .string ⟨#[98]⟩, .string ⟨#[48, 46, 48]⟩, .string ⟨#[114, 99, 46, 49]⟩] 52)).alloc (.cells #[.string ⟨#[]⟩, .string ⟨#[]⟩, .string ⟨#[]⟩, .string ⟨#[]⟩, .string ⟨#[48, 48, 55]⟩, .string ⟨#[120, 46, 49]⟩] 53)).heap[w.heap.size + 1]? = some (.cells #[.int .i64 0, .int .i64 1, .int .i64 2, .int .i64 3, .int .i64 0, .int .i64 1, .int .i64 10, .int .i64 9999] 51) := by
    rw [heap_old _ _ (by simp only [size_box]; omega), heap_old _ _ (by simp only [size_box]; omega)]; exact heap_at _ _ _ (by simp only [size_box])
  have hP : ((((w.alloc (.cells #[.int .i64 0, .int .i64 0, .int .i64 0, .string ⟨#[]⟩, .string ⟨#[]⟩] 31)).alloc (.cells #[.int .i64 0, .int .i64 1, .int .i64 2, .int .i64 3, .int .i64 0, .int .i64 1, .int .i64 10, .int .i64 9999] 51)).alloc (.cells #[.string ⟨#[]⟩, .string ⟨#[]⟩, .string ⟨#[]⟩, .string ⟨#[]⟩, .string ⟨#[48]⟩, .string ⟨#[49]⟩, .string ⟨#[50]⟩, .string ⟨#[49, 49]⟩, .string ⟨#[97]⟩, .string ⟨#[97, 46, 49]⟩, .string ⟨#[97, 46, 98]⟩, .string ⟨#[98]⟩, .string ⟨#[48, 46, 48]⟩, .string ⟨#[114, 99, 46, 49]⟩] 52)).alloc (.cells #[.string ⟨#[]⟩, .string ⟨#[]⟩, .string ⟨#[]⟩, .string ⟨#[]⟩, .string ⟨#[48, 48, 55]⟩, .string ⟨#[120, 46, 49]⟩] 53)).heap[w.heap.size + 1 + 1]? = some (.cells #[.string ⟨#[]⟩, .string ⟨#[]⟩, .string ⟨#[]⟩, .string ⟨#[]⟩, .string ⟨#[48]⟩, .string ⟨#[49]⟩, .string ⟨#[50]⟩, .string ⟨#[49, 49]⟩, .string ⟨#[97]⟩, .string ⟨#[97, 46, 49]⟩, .string ⟨#[97, 46, 98]⟩, .string ⟨#[98]⟩, .string ⟨#[48, 46, 48]⟩, .string ⟨#[114, 99, 46, 49]⟩] 52) := by
    rw [heap_old _ _ (by simp only [size_box]; omega)]; exact heap_at _ _ _ (by simp only [size_box])
  have hQ : ((((w.alloc (.cells #[.int .i64 0, .int .i64 0, .int .i64 0, .string ⟨#[]⟩, .string ⟨#[]⟩] 31)).alloc (.cells #[.int .i64 0, .int .i64 1, .int .i64 2, .int .i64 3, .int .i64 0, .int .i64 1, .int .i64 10, .int .i64 9999] 51)).alloc (.cells #[.string ⟨#[]⟩, .string ⟨#[]⟩, .string ⟨#[]⟩, .string ⟨#[]⟩, .string ⟨#[48]⟩, .string ⟨#[49]⟩, .string ⟨#[50]⟩, .string ⟨#[49, 49]⟩, .string ⟨#[97]⟩, .string ⟨#[97, 46, 49]⟩, .string ⟨#[97, 46, 98]⟩, .string ⟨#[98]⟩, .string ⟨#[48, 46, 48]⟩, .string ⟨#[114, 99, 46, 49]⟩] 52)).alloc (.cells #[.string ⟨#[]⟩, .string ⟨#[]⟩, .string ⟨#[]⟩, .string ⟨#[]⟩, .string ⟨#[48, 48, 55]⟩, .string ⟨#[120, 46, 49]⟩] 53)).heap[w.heap.size + 1 + 1 + 1]? = some (.cells #[.string ⟨#[]⟩, .string ⟨#[]⟩, .string ⟨#[]⟩, .string ⟨#[]⟩, .string ⟨#[48, 48, 55]⟩, .string ⟨#[120, 46, 49]⟩] 53) := heap_at _ _ _ (by simp only [size_box])
  have hvW := (hv.below B0).more B0.size
  obtain ⟨A, cap, rfl, hc⟩ := hv
  clear hc
  go_enter Tryz.func21, Tryz.ntmps21
  go_wp2_with fail
  generalize ((((w.alloc (.cells #[.int .i64 0, .int .i64 0, .int .i64 0, .string ⟨#[]⟩, .string ⟨#[]⟩] 31)).alloc (.cells #[.int .i64 0, .int .i64 1, .int .i64 2, .int .i64 3, .int .i64 0, .int .i64 1, .int .i64 10, .int .i64 9999] 51)).alloc (.cells #[.string ⟨#[]⟩, .string ⟨#[]⟩, .string ⟨#[]⟩, .string ⟨#[]⟩, .string ⟨#[48]⟩, .string ⟨#[49]⟩, .string ⟨#[50]⟩, .string ⟨#[49, 49]⟩, .string ⟨#[97]⟩, .string ⟨#[97, 46, 49]⟩, .string ⟨#[97, 46, 98]⟩, .string ⟨#[98]⟩, .string ⟨#[48, 46, 48]⟩, .string ⟨#[114, 99, 46, 49]⟩] 52)).alloc (.cells #[.string ⟨#[]⟩, .string ⟨#[]⟩, .string ⟨#[]⟩, .string ⟨#[]⟩, .string ⟨#[48, 48, 55]⟩, .string ⟨#[120, 46, 49]⟩] 53)) = W4 at *
  have hvD : ReadsI W4.drew W4.drew.heap.size (.slice A l.length cap) l := hvW
  obtain ⟨k0, e0⟩ : ∃ k : Nat, plc (atL l 10) 8 = (k : Int) := ⟨_, (Int.toNat_of_nonneg (plc_in _ _ (by omega)).1).symm⟩
  have q0 : k0 < 8 := by have := (plc_in (atL l 10) 8 (by omega)).2; omega
  have u0 : (plc (atL l 10) 8).toNat = k0 := by rw [e0]; rfl
  have c0 : Calls Tryz.prog 37 #[.slice A l.length cap, .int .i64 10, .int .i64 8] W4.drew fun e w' => e = .returned (.int .i64 (k0 : Int)) ∧ w' = W4.drew := by
    have h := from_any _ l 10 8 W4.drew hvD hl (by omega) (by omega) (by omega)
    rw [e0] at h
    exact h.mono fun _ _ ⟨x, y⟩ => ⟨x, y.symm⟩
  have d0 : W4.cell? ⟨w.heap.size + 1, k0, none⟩ = some (.int .i64 (numT k0)) := num_cell hN k0 q0
  have d0' : ({ W4 with drawn := W4.drawn + 1 } : World).cell? ⟨w.heap.size + 1, k0, none⟩ = some (.int .i64 (numT k0)) := d0
  have r0 : (k0 : Int) < 8 := by omega
  obtain ⟨k1, e1⟩ : ∃ k : Nat, plc (atL l 11) 8 = (k : Int) := ⟨_, (Int.toNat_of_nonneg (plc_in _ _ (by omega)).1).symm⟩
  have q1 : k1 < 8 := by have := (plc_in (atL l 11) 8 (by omega)).2; omega
  have u1 : (plc (atL l 11) 8).toNat = k1 := by rw [e1]; rfl
  have c1 : Calls Tryz.prog 37 #[.slice A l.length cap, .int .i64 11, .int .i64 8] W4.drew fun e w' => e = .returned (.int .i64 (k1 : Int)) ∧ w' = W4.drew := by
    have h := from_any _ l 11 8 W4.drew hvD hl (by omega) (by omega) (by omega)
    rw [e1] at h
    exact h.mono fun _ _ ⟨x, y⟩ => ⟨x, y.symm⟩
  have d1 : W4.cell? ⟨w.heap.size + 1, k1, none⟩ = some (.int .i64 (numT k1)) := num_cell hN k1 q1
  have d1' : ({ W4 with drawn := W4.drawn + 1 } : World).cell? ⟨w.heap.size + 1, k1, none⟩ = some (.int .i64 (numT k1)) := d1
  have r1 : (k1 : Int) < 8 := by omega
  obtain ⟨k2, e2⟩ : ∃ k : Nat, plc (atL l 12) 8 = (k : Int) := ⟨_, (Int.toNat_of_nonneg (plc_in _ _ (by omega)).1).symm⟩
  have q2 : k2 < 8 := by have := (plc_in (atL l 12) 8 (by omega)).2; omega
  have u2 : (plc (atL l 12) 8).toNat = k2 := by rw [e2]; rfl
  have c2 : Calls Tryz.prog 37 #[.slice A l.length cap, .int .i64 12, .int .i64 8] W4.drew fun e w' => e = .returned (.int .i64 (k2 : Int)) ∧ w' = W4.drew := by
    have h := from_any _ l 12 8 W4.drew hvD hl (by omega) (by omega) (by omega)
    rw [e2] at h
    exact h.mono fun _ _ ⟨x, y⟩ => ⟨x, y.symm⟩
  have d2 : W4.cell? ⟨w.heap.size + 1, k2, none⟩ = some (.int .i64 (numT k2)) := num_cell hN k2 q2
  have d2' : ({ W4 with drawn := W4.drawn + 1 } : World).cell? ⟨w.heap.size + 1, k2, none⟩ = some (.int .i64 (numT k2)) := d2
  have r2 : (k2 : Int) < 8 := by omega
  obtain ⟨k3, e3⟩ : ∃ k : Nat, plc (atL l 13) 14 = (k : Int) := ⟨_, (Int.toNat_of_nonneg (plc_in _ _ (by omega)).1).symm⟩
  have q3 : k3 < 14 := by have := (plc_in (atL l 13) 14 (by omega)).2; omega
  have u3 : (plc (atL l 13) 14).toNat = k3 := by rw [e3]; rfl
  have c3 : Calls Tryz.prog 37 #[.slice A l.length cap, .int .i64 13, .int .i64 14] W4.drew fun e w' => e = .returned (.int .i64 (k3 : Int)) ∧ w' = W4.drew := by
    have h := from_any _ l 13 14 W4.drew hvD hl (by omega) (by omega) (by omega)
    rw [e3] at h
    exact h.mono fun _ _ ⟨x, y⟩ => ⟨x, y.symm⟩
  have d3 : W4.cell? ⟨w.heap.size + 1 + 1, k3, none⟩ = some (.string (mkS (preT14 k3))) := pre_cell hP k3 q3
  have d3' : ({ W4 with drawn := W4.drawn + 1 } : World).cell? ⟨w.heap.size + 1 + 1, k3, none⟩ = some (.string (mkS (preT14 k3))) := d3
  have r3 : (k3 : Int) < 14 := by omega
  obtain ⟨k4, e4⟩ : ∃ k : Nat, plc (atL l 14) 6 = (k : Int) := ⟨_, (Int.toNat_of_nonneg (plc_in _ _ (by omega)).1).symm⟩
  have q4 : k4 < 6 := by have := (plc_in (atL l 14) 6 (by omega)).2; omega
  have u4 : (plc (atL l 14) 6).toNat = k4 := by rw [e4]; rfl
  have c4 : Calls Tryz.prog 37 #[.slice A l.length cap, .int .i64 14, .int .i64 6] W4.drew fun e w' => e = .returned (.int .i64 (k4 : Int)) ∧ w' = W4.drew := by
    have h := from_any _ l 14 6 W4.drew hvD hl (by omega) (by omega) (by omega)
    rw [e4] at h
    exact h.mono fun _ _ ⟨x, y⟩ => ⟨x, y.symm⟩
  have d4 : W4.cell? ⟨w.heap.size + 1 + 1 + 1, k4, none⟩ = some (.string (mkS (bldT k4))) := bld_cell hQ k4 q4
  have d4' : ({ W4 with drawn := W4.drawn + 1 } : World).cell? ⟨w.heap.size + 1 + 1 + 1, k4, none⟩ = some (.string (mkS (bldT k4))) := d4
  have r4 : (k4 : Int) < 6 := by omega
  have HG : Hid (genV l 10 = ⟨numT k0, numT k1, numT k2, preT14 k3, bldT k4⟩) := by show _ = _; unfold genV; rw [u0, u1, u2, u3, u4]
  have HR := Lib.hid hR
  clear e0 e1 e2 e3 e4 u0 u1 u2 u3 u4 hR hN hP hQ hvW hvD hl
  go_still_tail 30, (by kernel_rfl)
  still_call c0
  repeat still_step
  still_call c1
  repeat still_step
  still_call c2
  repeat still_step
  still_call c3
  repeat still_step
  still_call c4
  repeat still_step
  refine wpStill_nil ?_
  change wpList _ _ _ _ _ W4.drew
  have BD : Below w.heap.size w W4.drew := B0.drew
  have HR2 : Hid (W4.drew.heap[w.heap.size]? = some (.cells #[.int .i64 0, .int .i64 0, .int .i64 0, .string ⟨#[]⟩, .string ⟨#[]⟩] 31)) := HR.out
  go_wp2_with (refine wpList_store_row rfl 31 _ _ rfl w.heap.size #[.int .i64 (numT k0), .int .i64 (numT k1), .int .i64 (numT k2), .string (mkS (preT14 k3)), .string (mkS (bldT k4))] rfl rfl _ _ HR2.out (by kernel_rfl) rfl (ver_one _ _ _ _ _) ?_)
  have hr := results_cell_row (P := Tryz.prog) (fn := Tryz.f21) Tryz.results21
  refine bodyPost_ret (v := .agg #[.int .i64 (numT k0), .int .i64 (numT k1), .int .i64 (numT k2), .string (mkS (preT14 k3)), .string (mkS (bldT k4))]) (hr _ _ w.heap.size _ _ _ _ rfl (setRow_heap _ _ _ _ _ _ HR2.out) Tryz.underlying31 rfl (by kernel_rfl)) rfl ⟨?_, below_setRow BD (Nat.le_refl _) _⟩
  rw [HG.out]; rfl
end Go.Proofs.YtmlecnomdamgnaaGreat
end

section
/-
  What linchpinlaw0's Version makes is valid and short.
-/
namespace Go.Proofs.YtmlecnomdamgnaaGreat
open Go.RowKit

theorem numT_ok : ∀ k, k < 8 → numOkI (numT k) = true := by decide +kernel
theorem preT_ok : ∀ k, k < 14 → preOk (preT14 k) = true ∧ (preT14 k).length ≤ 300 := by decide +kernel
theorem bldT_ok : ∀ k, k < 6 → listOk (bldT k) = true ∧ (bldT k).length ≤ 300 := by decide +kernel
theorem plc_nat (v n : Int) (m : Nat) (hn : 0 < n) (hm : n = m) : (plc v n).toNat < m := by
  obtain ⟨h1, h2⟩ := plc_in v n hn; omega
theorem gen_may (l : List Int) (i : Nat) : (genV l i).may = true := by
  unfold genV Ver.may
  dsimp only
  rw [numT_ok _ (plc_nat _ 8 8 (by omega) rfl), numT_ok _ (plc_nat _ 8 8 (by omega) rfl), numT_ok _ (plc_nat _ 8 8 (by omega) rfl), (preT_ok _ (plc_nat _ 14 14 (by omega) rfl)).1, (bldT_ok _ (plc_nat _ 6 6 (by omega) rfl)).1]
  rfl
theorem gen_pre (l : List Int) (i : Nat) : (genV l i).pre.length ≤ 300 := (preT_ok _ (plc_nat _ 14 14 (by omega) rfl)).2
theorem gen_bld (l : List Int) (i : Nat) : (genV l i).build.length ≤ 300 := (bldT_ok _ (plc_nat _ 6 6 (by omega) rfl)).2
theorem text_long {v : Ver} (h : v.may = true) : 4 < v.print.length ∧ v.print.length ≤ 100000000 ∨ 100000000 < v.print.length := by
  rw [print_eq h]
  have p : ∀ n : Nat, 1 ≤ (Lib.decDigits n).length := fun n => by rw [Lib.decDigits_length]; exact Lib.nDigits_pos n
  have q : ∀ n : Int, 1 ≤ (Lib.itoa n).length := by
    intro n
    unfold Lib.itoa
    split
    · rw [List.length_cons]; omega
    · exact p _
  have h1 := q v.maj
  have h2 := q v.min
  have h3 := q v.pat
  have : 4 < v.text.length := by
    unfold Ver.text numsL; simp only [List.length_append, List.length_cons]; omega
  omega
end Go.Proofs.YtmlecnomdamgnaaGreat
end

section
/-
  Plain mathematics for chapter 3: cuts, their order, what stands ahead of a version, spans; and the cuts that numbers name.
-/
namespace Go.Proofs.YtmlecnomdamgnaaGreat
open Go.RowKit
set_option linter.unusedVariables false
set_option linter.unusedSimpArgs false

structure Cu where
  e : Int
  v : Ver
  aft : Bool
deriving DecidableEq

def Cu.may (c : Cu) : Bool := if c.e = 0 then c.v.may && c.v.build.isEmpty else decide (c.e = -1 ∨ c.e = 1) && decide (c.v = Ver.zero) && !c.aft
def b01 (b : Bool) : Int := if b then 1 else 0
def lex (x y : Int) : Int := if x = 0 then y else x
def cmpC (a b : Cu) : Int := if a.may && b.may then lex (Lib.compareInt a.e b.e) (lex (cmpR a.v b.v) (Lib.compareInt (b01 a.aft) (b01 b.aft))) else 0
theorem zero_may : Ver.zero.may = true := by decide
theorem may_v {c : Cu} (h : c.may = true) : c.v.may = true := by
  unfold Cu.may at h
  split at h
  · rw [Bool.and_eq_true] at h; exact h.1
  · simp only [Bool.and_eq_true, decide_eq_true_eq] at h; rw [h.1.2]; exact zero_may
theorem may_e {c : Cu} (h : c.may = true) : (c.e = 0 ∧ c.v.build = []) ∨ ((c.e = -1 ∨ c.e = 1) ∧ c.v = Ver.zero ∧ c.aft = false) := by
  unfold Cu.may at h
  split at h
  · rename_i h0; rw [Bool.and_eq_true] at h; exact .inl ⟨h0, List.isEmpty_iff.1 h.2⟩
  · simp only [Bool.and_eq_true, decide_eq_true_eq, Bool.not_eq_true'] at h; exact .inr ⟨h.1.1, h.1.2, h.2⟩
theorem may_build {c : Cu} (h : c.may = true) : c.v.build = [] := by
  rcases may_e h with h | h
  · exact h.2
  · rw [h.2.1]; rfl
theorem cmpR_range {v w : Ver} : cmpR v w = -1 ∨ cmpR v w = 0 ∨ cmpR v w = 1 := by
  by_cases hv : v.may = true
  · by_cases hw : w.may = true
    · rw [cmpR_key hv hw]; exact cmpL_range _ _
    · exact .inr (.inl (cmpR_bad (.inr (by simpa using hw))))
  · exact .inr (.inl (cmpR_bad (.inl (by simpa using hv))))
theorem ci_range (x y : Int) : Lib.compareInt x y = -1 ∨ Lib.compareInt x y = 0 ∨ Lib.compareInt x y = 1 := by
  unfold Lib.compareInt
  by_cases h : x < y
  · rw [if_pos h]; simp
  · rw [if_neg h]
    by_cases h2 : y < x
    · rw [if_pos h2]; simp
    · rw [if_neg h2]; simp
theorem cmpC_good {a b : Cu} (ha : a.may = true) (hb : b.may = true) : cmpC a b = lex (Lib.compareInt a.e b.e) (lex (cmpR a.v b.v) (Lib.compareInt (b01 a.aft) (b01 b.aft))) := by
  unfold cmpC; rw [ha, hb]; rfl
theorem cmpC_range (a b : Cu) : cmpC a b = -1 ∨ cmpC a b = 0 ∨ cmpC a b = 1 := by
  unfold cmpC lex
  have h1 := ci_range a.e b.e
  have h2 := cmpR_range (v := a.v) (w := b.v)
  have h3 := ci_range (b01 a.aft) (b01 b.aft)
  split
  · split
    · split
      · exact h3
      · exact h2
    · exact h1
  · simp

/-! ### Orders put one behind the other -/
structure Ord3 {α : Type} (c : α → α → Int) : Prop where
  anti : ∀ x y, c y x = - c x y
  on : ∀ x y z, c x y ≤ 0 → c y z ≤ 0 → c x z ≤ 0 ∧ (c x z = 0 → c x y = 0 ∧ c y z = 0)
  same : ∀ x y z, c x y = 0 → c y z = 0 → c x z = 0
theorem lex_ord {α : Type} {c d : α → α → Int} (hc : Ord3 c) (hd : Ord3 d) : Ord3 (fun x y => lex (c x y) (d x y)) := by
  refine ⟨fun x y => ?_, fun x y z h1 h2 => ?_, fun x y z h1 h2 => ?_⟩
  · have a := hc.anti x y; have b := hd.anti x y
    show lex (c y x) (d y x) = - lex (c x y) (d x y)
    unfold lex
    by_cases h : c x y = 0
    · rw [if_pos h, if_pos (by omega)]; exact b
    · rw [if_neg h, if_neg (by omega)]; exact a
  · have a := hc.on x y z; have b := hd.on x y z; have s := hc.same x y z
    show lex _ _ ≤ 0 ∧ (lex _ _ = 0 → lex _ _ = 0 ∧ lex _ _ = 0)
    replace h1 : lex (c x y) (d x y) ≤ 0 := h1
    replace h2 : lex (c y z) (d y z) ≤ 0 := h2
    unfold lex at h1 h2 ⊢
    by_cases p : c x y = 0
    · by_cases q : c y z = 0
      · rw [if_pos p] at h1 ⊢; rw [if_pos q] at h2 ⊢; rw [if_pos (s p q)]; exact b h1 h2
      · rw [if_pos p] at h1 ⊢; rw [if_neg q] at h2 ⊢
        obtain ⟨a1, a2⟩ := a (by omega) h2
        have : c x z ≠ 0 := fun e => q (a2 e).2
        rw [if_neg this]; exact ⟨a1, fun e => absurd e this⟩
    · rw [if_neg p] at h1 ⊢
      have h2' : c y z ≤ 0 := by
        by_cases q : c y z = 0
        · omega
        · rw [if_neg q] at h2; exact h2
      obtain ⟨a1, a2⟩ := a h1 h2'
      have : c x z ≠ 0 := fun e => p (a2 e).1
      rw [if_neg this]; exact ⟨a1, fun e => absurd e this⟩
  · have s := hc.same x y z; have t := hd.same x y z
    show lex _ _ = 0
    replace h1 : lex (c x y) (d x y) = 0 := h1
    replace h2 : lex (c y z) (d y z) = 0 := h2
    unfold lex at h1 h2 ⊢
    by_cases p : c x y = 0
    · by_cases q : c y z = 0
      · rw [if_pos p] at h1; rw [if_pos q] at h2; rw [if_pos (s p q)]; exact t h1 h2
      · rw [if_neg q] at h2; exact absurd h2 q
    · rw [if_neg p] at h1; exact absurd h1 p
theorem ci_ord {α : Type} (f : α → Int) : Ord3 (fun x y => Lib.compareInt (f x) (f y)) := by
  refine ⟨fun x y => ?_, fun x y z => ?_, fun x y z => ?_⟩ <;> unfold Lib.compareInt <;> (repeat' split) <;> omega
theorem cmpL_ord {α : Type} (f : α → List Nat) : Ord3 (fun x y => cmpL (f x) (f y)) := by
  refine ⟨fun x y => cmpL_anti _ _, fun x y z => cmpL_trans _ _ _, fun x y z h1 h2 => ?_⟩
  show cmpL (f x) (f z) = 0
  rw [cmpL_zero _ _ h1, cmpL_zero _ _ h2]; exact cmpL_self _
def cmpK (a b : Cu) : Int := lex (Lib.compareInt a.e b.e) (lex (cmpL a.v.key b.v.key) (Lib.compareInt (b01 a.aft) (b01 b.aft)))
theorem cmpK_ord : Ord3 cmpK := lex_ord (ci_ord (fun c : Cu => c.e)) (lex_ord (cmpL_ord (fun c : Cu => c.v.key)) (ci_ord (fun c : Cu => b01 c.aft)))
theorem cmpC_K {a b : Cu} (ha : a.may = true) (hb : b.may = true) : cmpC a b = cmpK a b := by
  rw [cmpC_good ha hb, cmpR_key (may_v ha) (may_v hb)]; rfl
theorem cmpC_bad {a b : Cu} (h : a.may = false ∨ b.may = false) : cmpC a b = 0 := by
  unfold cmpC
  rcases h with h | h <;> rw [h] <;> simp
theorem cut_anti {a b : Cu} : cmpC b a = - cmpC a b := by
  cases ha : a.may with
  | true =>
    cases hb : b.may with
    | true => rw [cmpC_K ha hb, cmpC_K hb ha]; exact cmpK_ord.anti _ _
    | false => rw [cmpC_bad (.inl hb), cmpC_bad (.inr hb)]; rfl
  | false => rw [cmpC_bad (a := a) (.inl ha), cmpC_bad (b := a) (.inr ha)]; rfl
theorem cut_on {a b c : Cu} (ha : a.may = true) (hb : b.may = true) (hc : c.may = true) (h1 : cmpC a b ≤ 0) (h2 : cmpC b c ≤ 0) : cmpC a c ≤ 0 ∧ (cmpC a c = 0 → cmpC a b = 0 ∧ cmpC b c = 0) := by
  rw [cmpC_K ha hb] at h1 ⊢; rw [cmpC_K hb hc] at h2 ⊢; rw [cmpC_K ha hc]; exact cmpK_ord.on _ _ _ h1 h2
theorem cut_same {a b c : Cu} (ha : a.may = true) (hb : b.may = true) (hc : c.may = true) (h1 : cmpC a b = 0) (h2 : cmpC b c = 0) : cmpC a c = 0 := by
  rw [cmpC_K ha hb] at h1; rw [cmpC_K hb hc] at h2; rw [cmpC_K ha hc]; exact cmpK_ord.same _ _ _ h1 h2
theorem lex_neg (x : Int) : lex (-1) x = -1 := rfl
theorem lex_pos (x : Int) : lex 1 x = 1 := rfl
theorem lex_0 (x : Int) : lex 0 x = x := rfl
theorem lex_zero {x y : Int} : lex x y = 0 ↔ x = 0 ∧ y = 0 := by
  unfold lex
  split
  · rename_i h; exact ⟨fun e => ⟨h, e⟩, fun e => e.2⟩
  · rename_i h; exact ⟨fun e => absurd e h, fun e => absurd e.1 h⟩
theorem b01_eq {a b : Bool} (h : b01 a = b01 b) : a = b := by cases a <;> cases b <;> simp [b01] at h ⊢
theorem cut_eq {a b : Cu} (ha : a.may = true) (hb : b.may = true) : cmpC a b = 0 ↔ a = b := by
  constructor
  · intro h
    rw [cmpC_good ha hb, lex_zero, lex_zero] at h
    obtain ⟨h1, h2, h3⟩ := h
    have e2 := cmpR_zero (may_v ha) (may_v hb) h2
    have e1 := compareInt_zero h1
    have e3 := b01_eq (compareInt_zero h3)
    have ba := may_build ha
    have bb := may_build hb
    obtain ⟨ae, ⟨a1, a2, a3, a4, a5⟩, aa⟩ := a
    obtain ⟨be, ⟨b1, b2, b3, b4, b5⟩, ba'⟩ := b
    unfold coreV at e2
    dsimp only at *
    simp only [Ver.mk.injEq] at e2
    obtain ⟨rfl, rfl, rfl, rfl, _⟩ := e2
    subst ba bb e1 e3
    rfl
  · rintro rfl
    have := cut_anti (a := a) (b := a)
    omega

/-! ### Ahead of a version -/
def endC (e : Int) : Cu := ⟨e, Ver.zero, false⟩
def posC (v : Ver) : Cu := ⟨0, coreV v, false⟩
theorem first_may : (endC (-1)).may = true := by decide
theorem last_may : (endC 1).may = true := by decide
theorem posC_may {v : Ver} (h : v.may = true) : (posC v).may = true := by
  unfold posC Cu.may
  rw [if_pos rfl, core_may h]; rfl
theorem first_le {a : Cu} (ha : a.may = true) : cmpC (endC (-1)) a ≤ 0 := by
  rw [cmpC_good first_may ha]
  rcases may_e ha with ⟨h, _⟩ | ⟨h | h, h2, h3⟩
  · have : Lib.compareInt (endC (-1)).e a.e = -1 := ci_lt (by show (-1 : Int) < a.e; omega)
    rw [this, lex_neg]; decide
  · rw [show (endC (-1)).e = a.e from h.symm, compareInt_self, h2, h3]; decide
  · have : Lib.compareInt (endC (-1)).e a.e = -1 := ci_lt (by show (-1 : Int) < a.e; omega)
    rw [this, lex_neg]; decide
theorem le_last {a : Cu} (ha : a.may = true) : cmpC a (endC 1) ≤ 0 := by
  rw [cmpC_good ha last_may]
  rcases may_e ha with ⟨h, _⟩ | ⟨h | h, h2, h3⟩
  · have : Lib.compareInt a.e (endC 1).e = -1 := ci_lt (by show a.e < (1 : Int); omega)
    rw [this, lex_neg]; decide
  · have : Lib.compareInt a.e (endC 1).e = -1 := ci_lt (by show a.e < (1 : Int); omega)
    rw [this, lex_neg]; decide
  · rw [show (endC 1).e = a.e from h.symm, compareInt_self, h2, h3]; decide
def aheadC (c : Cu) (v : Ver) : Bool := c.may && v.may && (if c.e = 0 then decide (cmpR c.v v < 0 ∨ (cmpR c.v v = 0 ∧ c.aft = false)) else decide (c.e < 0))
theorem cmpR_coreR {a v : Ver} (ha : a.may = true) (hv : v.may = true) : cmpR a (coreV v) = cmpR a v := by
  rw [cmpR_key ha (core_may hv), cmpR_key ha hv]; rfl
theorem ahead_pos {c : Cu} {v : Ver} (hc : c.may = true) (hv : v.may = true) : aheadC c v = decide (cmpC c (posC v) ≤ 0) := by
  rw [cmpC_good hc (posC_may hv)]
  unfold aheadC
  rw [hc, hv]
  show (true && true && _) = decide (lex (Lib.compareInt c.e 0) (lex (cmpR c.v (coreV v)) (Lib.compareInt (b01 c.aft) (b01 false))) ≤ 0)
  rw [cmpR_coreR (may_v hc) hv]
  rcases may_e hc with ⟨h, _⟩ | ⟨h, h2, h3⟩
  · rw [if_pos h, h, compareInt_self]
    unfold lex
    rw [if_pos rfl]
    rcases cmpR_range (v := c.v) (w := v) with e | e | e <;> rw [e] <;> cases c.aft <;> decide
  · rw [if_neg (by omega)]
    rcases h with h | h <;> rw [h]
    · rw [show Lib.compareInt (-1) 0 = -1 from by decide]; unfold lex; simp
    · rw [show Lib.compareInt 1 0 = 1 from by decide]; unfold lex; simp
/-- Who stands ahead of a cut that is ahead of a version is ahead of it. -/
theorem ahead_on {a b : Cu} {v : Ver} (ha : a.may = true) (hb : b.may = true) (hv : v.may = true) (h : cmpC a b ≤ 0) (h2 : aheadC b v = true) : aheadC a v = true := by
  rw [ahead_pos hb hv, decide_eq_true_eq] at h2
  rw [ahead_pos ha hv, decide_eq_true_eq]
  exact (cut_on ha hb (posC_may hv) h h2).1
theorem ahead_first {v : Ver} (hv : v.may = true) : aheadC (endC (-1)) v = true := by
  unfold aheadC; rw [first_may, hv]; rfl
theorem ahead_last {v : Ver} (_hv : v.may = true) : aheadC (endC 1) v = false := by
  unfold aheadC; rw [if_neg (by decide), show decide ((endC 1).e < 0) = false from by decide, Bool.and_false]

/-! ### The order as the code finds it -/
def lessC (a b : Cu) : Bool := if a.e = b.e then (if cmpR a.v b.v = -1 then true else if cmpR a.v b.v = 1 then false else !a.aft && b.aft) else decide (a.e < b.e)
theorem less_cmpC {a b : Cu} (ha : a.may = true) (hb : b.may = true) : cmpC a b = if lessC a b then -1 else if lessC b a then 1 else 0 := by
  rw [cmpC_good ha hb]
  have hanti := order_anti (may_v ha) (may_v hb)
  by_cases he : a.e = b.e
  · unfold lessC
    rw [if_pos he, if_pos he.symm, he, compareInt_self, hanti, lex_0]
    rcases cmpR_range (v := a.v) (w := b.v) with e | e | e <;> rw [e] <;> cases a.aft <;> cases b.aft <;> rfl
  · have l1 : lessC a b = decide (a.e < b.e) := by unfold lessC; rw [if_neg he]
    have l2 : lessC b a = decide (b.e < a.e) := by unfold lessC; rw [if_neg (fun h => he h.symm)]
    rw [l1, l2]
    rcases Int.lt_or_gt_of_ne he with h | h
    · rw [ci_lt h, lex_neg, decide_eq_true h]; rfl
    · rw [ci_gt h, lex_pos, decide_eq_true h, decide_eq_false (by omega)]; rfl
theorem ahead_less {c : Cu} {v : Ver} : aheadC c v = (c.may && v.may && !lessC ⟨0, v, false⟩ c) := by
  cases hc : c.may with
  | false => unfold aheadC; rw [hc]; rfl
  | true =>
    cases hv : v.may with
    | false => unfold aheadC; rw [hv]; simp
    | true =>
      unfold aheadC lessC
      rw [hc, hv]
      dsimp only
      rcases may_e hc with ⟨h, _⟩ | ⟨h, _⟩
      · rw [if_pos h, if_pos h.symm, order_anti (may_v hc) hv]
        rcases cmpR_range (v := c.v) (w := v) with e | e | e <;> rw [e] <;> cases c.aft <;> decide
      · rw [if_neg (by omega), if_neg (by omega)]
        rcases h with h | h <;> rw [h] <;> rfl

/-! ### Spans -/
structure Sp where
  lo : Cu
  hi : Cu
def Sp.may (s : Sp) : Bool := decide (cmpC s.lo s.hi = -1)
def holdsC (s : Sp) (v : Ver) : Bool := s.may && aheadC s.lo v && !aheadC s.hi v
theorem span_mays {s : Sp} (h : s.may = true) : s.lo.may = true ∧ s.hi.may = true := by
  unfold Sp.may at h
  rw [decide_eq_true_eq] at h
  constructor
  · cases e : s.lo.may with
    | true => rfl
    | false => rw [cmpC_bad (.inl e)] at h; omega
  · cases e : s.hi.may with
    | true => rfl
    | false => rw [cmpC_bad (.inr e)] at h; omega
theorem span_ref (s : Sp) : (s.lo.may && s.hi.may && decide (cmpC s.lo s.hi < 0)) = s.may := by
  cases h : s.may with
  | true =>
    obtain ⟨h1, h2⟩ := span_mays h
    unfold Sp.may at h
    rw [decide_eq_true_eq] at h
    rw [h1, h2, h]; rfl
  | false =>
    unfold Sp.may at h
    rw [decide_eq_false_iff_not] at h
    have : ¬ cmpC s.lo s.hi < 0 := by rcases cmpC_range s.lo s.hi with e | e | e <;> omega
    rw [decide_eq_false this, Bool.and_false]
theorem holds_ref (s : Sp) (v : Ver) : (s.may && v.may && aheadC s.lo v && !aheadC s.hi v) = holdsC s v := by
  unfold holdsC
  cases hv : v.may with
  | true => rw [Bool.and_true]
  | false =>
    have : aheadC s.lo v = false := by unfold aheadC; rw [hv]; simp
    rw [this]; simp
theorem beside {v w : Ver} (hv : v.may = true) (hw : w.may = true) : (Sp.mk ⟨0, coreV v, false⟩ ⟨0, coreV v, true⟩).may = true ∧ holdsC ⟨⟨0, coreV v, false⟩, ⟨0, coreV v, true⟩⟩ w = decide (cmpR v w = 0) := by
  have m1 : (Cu.mk 0 (coreV v) false).may = true := posC_may hv
  have m2 : (Cu.mk 0 (coreV v) true).may = true := by unfold Cu.may; rw [if_pos rfl, core_may hv]; rfl
  have hs : (Sp.mk ⟨0, coreV v, false⟩ ⟨0, coreV v, true⟩).may = true := by
    unfold Sp.may
    rw [cmpC_good m1 m2]
    dsimp only
    rw [order_self]; rfl
  refine ⟨hs, ?_⟩
  unfold holdsC aheadC
  rw [hs, m1, m2, hw]
  dsimp only
  rw [if_pos rfl, if_pos rfl, order_core hv hw]
  rcases cmpR_range (v := v) (w := w) with e | e | e <;> rw [e] <;> rfl
theorem ahead_max {a b : Cu} {v : Ver} (ha : a.may = true) (hb : b.may = true) (hv : v.may = true) : aheadC (if cmpC a b < 0 then b else a) v = (aheadC a v && aheadC b v) := by
  by_cases h : cmpC a b < 0
  · rw [if_pos h]
    cases hB : aheadC b v with
    | true => rw [ahead_on ha hb hv (by omega) hB]; rfl
    | false => rw [Bool.and_false]
  · rw [if_neg h]
    cases hA : aheadC a v with
    | true => rw [ahead_on hb ha hv (by have := cut_anti (a := a) (b := b); omega) hA]; rfl
    | false => rw [Bool.false_and]
theorem ahead_min {a b : Cu} {v : Ver} (ha : a.may = true) (hb : b.may = true) (hv : v.may = true) : (!aheadC (if 0 < cmpC a b then b else a) v) = (!aheadC a v && !aheadC b v) := by
  by_cases h : 0 < cmpC a b
  · rw [if_pos h]
    cases hA : aheadC a v with
    | true => rw [ahead_on hb ha hv (by have := cut_anti (a := a) (b := b); omega) hA]; rfl
    | false => rw [Bool.not_false, Bool.true_and]
  · rw [if_neg h]
    cases hB : aheadC b v with
    | true => rw [ahead_on ha hb hv (by omega) hB]; rfl
    | false => rw [Bool.not_false, Bool.and_true]
theorem between {a b : Cu} {v : Ver} (ha : a.may = true) (hb : b.may = true) (hv : v.may = true) (h1 : aheadC a v = true) (h2 : aheadC b v = false) : cmpC a b = -1 := by
  have h3 : ¬ cmpC b a ≤ 0 := fun h => by rw [ahead_on hb ha hv h h1] at h2; cases h2
  have := cut_anti (a := a) (b := b)
  rcases cmpC_range a b with e | e | e <;> omega
theorem meets {s t : Sp} {v : Ver} (hs : s.may = true) (ht : t.may = true) (hv : v.may = true) :
    let m : Sp := ⟨if cmpC s.lo t.lo < 0 then t.lo else s.lo, if 0 < cmpC s.hi t.hi then t.hi else s.hi⟩
    (holdsC s v && holdsC t v) = holdsC m v ∧ (m.may || !holdsC m v) = true := by
  obtain ⟨s1, s2⟩ := span_mays hs
  obtain ⟨t1, t2⟩ := span_mays ht
  intro m
  have e1 : aheadC m.lo v = (aheadC s.lo v && aheadC t.lo v) := ahead_max s1 t1 hv
  have e2 : (!aheadC m.hi v) = (!aheadC s.hi v && !aheadC t.hi v) := ahead_min s2 t2 hv
  have m1 : m.lo.may = true := by show (if _ then _ else _ : Cu).may = true; split <;> assumption
  have m2 : m.hi.may = true := by show (if _ then _ else _ : Cu).may = true; split <;> assumption
  have hm : aheadC m.lo v = true → aheadC m.hi v = false → m.may = true := fun h1 h2 => by
    unfold Sp.may; rw [between m1 m2 hv h1 h2]; rfl
  have key : holdsC m v = (aheadC m.lo v && !aheadC m.hi v) := by
    unfold holdsC
    cases h1 : aheadC m.lo v with
    | false => simp
    | true =>
      cases h2 : aheadC m.hi v with
      | true => simp
      | false => rw [hm h1 h2]; rfl
  constructor
  · rw [key, e1, e2]
    unfold holdsC
    rw [hs, ht]
    cases aheadC s.lo v <;> cases aheadC t.lo v <;> cases aheadC s.hi v <;> cases aheadC t.hi v <;> rfl
  · cases h : holdsC m v with
    | false => simp
    | true =>
      unfold holdsC at h
      simp only [Bool.and_eq_true] at h
      rw [h.1.1]; rfl

/-! ### The cuts that numbers name -/
def genC (l : List Int) (i : Nat) : Cu :=
  if plc (atL l (i + 5)) 9 < 2 then endC (2 * plc (atL l (i + 5)) 9 - 1) else ⟨0, coreV (genV l i), decide (plc (atL l (i + 5)) 2 = 1)⟩
theorem genC_may (l : List Int) (i : Nat) : (genC l i).may = true := by
  unfold genC
  have h := plc_in (atL l (i + 5)) 9 (by omega)
  split
  · have : plc (atL l (i + 5)) 9 = 0 ∨ plc (atL l (i + 5)) 9 = 1 := by omega
    rcases this with e | e <;> rw [e] <;> decide
  · unfold Cu.may; rw [if_pos rfl, core_may (gen_may l i)]; rfl
theorem genC_pre (l : List Int) (i : Nat) : (genC l i).v.pre.length ≤ 300 := by
  unfold genC
  split
  · exact Nat.zero_le _
  · exact gen_pre l i
theorem genC_bld (l : List Int) (i : Nat) : (genC l i).v.build.length ≤ 300 := by rw [may_build (genC_may l i)]; decide
end Go.Proofs.YtmlecnomdamgnaaGreat
end

section
/-
  Equality of structs, whole: versions and cuts. No condition.
-/
namespace Go.Proofs.YtmlecnomdamgnaaGreat
open Go.RowKit
set_option linter.unusedVariables false
set_option linter.unusedSimpArgs false

def EqOk (P : Program) (d : Nat) (xs ys : Array Value) : List Field → List Bool → Prop
  | [], [] => True
  | f :: fs, b :: bs => f.name ≠ "_" ∧ (∃ u v, ∀ w, (part f.type xs f.offset).run P w = .ok u w ∧ (part f.type ys f.offset).run P w = .ok v w ∧ (Op.equalIn d f.type u v).run P w = .ok b w) ∧ EqOk P d xs ys fs bs
  | _, _ => False
theorem eqF {P : Program} {d : Nat} {xs ys : Array Value} : ∀ (fs : List Field) (bs : List Bool), EqOk P d xs ys fs bs → ∀ w, (Op.eqFields d xs ys fs).run P w = .ok (bs.all id) w
  | [], [], _, w => rfl
  | f :: fs, b :: bs, h, w => by
    obtain ⟨h1, ⟨u, v, h2⟩, h3⟩ := h
    obtain ⟨e1, e2, e3⟩ := h2 w
    have ih := eqF fs bs h3 w
    unfold Op.eqFields
    rw [if_pos h1]
    simp only [Sem.run_bind, e1, e2, e3, Result.andThen_ok]
    cases b with
    | false => simp
    | true => simp [ih]
  | [], _ :: _, h, _ => h.elim
  | _ :: _, [], h, _ => h.elim
theorem eq_agg {P : Program} {d : Nat} {t : TypeId} {xs ys : Array Value} {fs : List Field} {bs : List Bool} (hu : P.underlying t = some (.struct fs.toArray)) (hp : P.stoodInHeld t = false) (h : EqOk P d xs ys fs bs) (w : World) :
    (Op.equalIn (d + 1) t (.agg xs) (.agg ys)).run P w = .ok (bs.all id) w := by
  have hf : P.fieldsOf t = fs.toArray := by unfold Program.fieldsOf; rw [hu]
  rw [run_equalIn_struct w d t xs ys (by rw [hf]; exact hu) hp, hf]
  have : fs.toArray.toList = fs := by simp
  rw [this]
  exact eqF fs bs h w
theorem run_eq_op {P : Program} {ρ : Operand → Value} {o : Oper} {t t' : TypeId} {x y : Operand} {xs ys : Array Value} {b : Bool} (ho : o.op = .binOp .eql t x y t') (hx : ρ x = .agg xs) (hy : ρ y = .agg ys) (hm : P.eqGuardType P.depth t = false)
    (h : ∀ w, (Op.equalIn 10000 t (.agg xs) (.agg ys)).run P w = .ok b w) (w : World) : (execOp ρ o).run P w = .ok (.value (.bool b)) w := by
  have h1 := run_eqGuard_agg (P := P) w .eql t x y xs ys hm
  have h2 : (binOp .eql t (.agg xs) (.agg ys)).run P w = .ok (.bool b) w := by rw [run_eql_struct, h w]; rfl
  unfold execOp
  simp only [ho, hx, hy, Sem.run_bind, h1, Result.andThen_ok, h2, Sem.run_pure]
theorem str_beq (a b : List UInt8) : ((mkS a).toList == (mkS b).toList) = decide (a = b) := by
  rw [Lib.toList_data, Lib.toList_data, mk_data, mk_data]
  by_cases h : a = b
  · subst h; simp
  · rw [decide_eq_false h]; simpa using h
theorem guard_str {P : Program} {op : BinOp} {t : TypeId} {x y : Operand} {a b : ByteArray} (w : World) : (eqGuard op t x y (.string a) (.string b)).run P w = .ok () w := by cases op <;> simp [eqGuard]
theorem run_streql {P : Program} {ρ : Operand → Value} {o : Oper} {t t' : TypeId} {x y : Operand} {a b : List UInt8} {r : Bool} (ho : o.op = .binOp .eql t x y t') (hx : ρ x = .string (mkS a)) (hy : ρ y = .string (mkS b)) (h : decide (a = b) = r) (w : World) : (execOp ρ o).run P w = .ok (.value (.bool r)) w := by
  unfold execOp
  simp only [ho, hx, hy, Sem.run_bind, guard_str, Result.andThen_ok, binOp_string_eql, Sem.run_pure, str_beq, h]
theorem binOp_string_neq' (t : TypeId) (a b : ByteArray) : binOp .neq t (.string a) (.string b) = pure (.bool (!(a.toList == b.toList))) := by simp [binOp, Op.stringOp]
theorem run_strneq {P : Program} {ρ : Operand → Value} {o : Oper} {t t' : TypeId} {x y : Operand} {a b : List UInt8} {r : Bool} (ho : o.op = .binOp .neq t x y t') (hx : ρ x = .string (mkS a)) (hy : ρ y = .string (mkS b)) (h : decide (a = b) = r) (w : World) : (execOp ρ o).run P w = .ok (.value (.bool (!r))) w := by
  unfold execOp
  simp only [ho, hx, hy, Sem.run_bind, guard_str, Result.andThen_ok, binOp_string_neq', Sem.run_pure, str_beq, h]
theorem all5 (a b c d e : Bool) : ([a, b, c, d, e].all id) = (a && (b && (c && (d && e)))) := by simp
theorem all3 (a b c : Bool) : ([a, b, c].all id) = (a && (b && c)) := by simp
theorem ver_dec (u v : Ver) : decide (u = v) = (decide (u.maj = v.maj) && (decide (u.min = v.min) && (decide (u.pat = v.pat) && (decide (u.pre = v.pre) && decide (u.build = v.build))))) := by
  obtain ⟨a, b, c, d, e⟩ := u
  obtain ⟨a', b', c', d', e'⟩ := v
  simp only [Ver.mk.injEq, Bool.decide_and]
theorem int_beq (a b : Int) : (a == b) = decide (a = b) := rfl
theorem eq_ver (u v : Ver) (d : Nat) (w : World) : (Op.equalIn (d + 1 + 1) 31 (verV u) (verV v)).run Tryz.prog w = .ok (decide (u = v)) w := by
  have h := eq_agg (P := Tryz.prog) (d := d + 1) (t := 31) (xs := (verV u).cells) (ys := (verV v).cells) (bs := [u.maj == v.maj, u.min == v.min, u.pat == v.pat, (mkS u.pre).toList == (mkS v.pre).toList, (mkS u.build).toList == (mkS v.build).toList]) Tryz.underlying31 (by kernel_rfl)
    ⟨by decide, ⟨.int .i64 u.maj, .int .i64 v.maj, fun w => ⟨by kernel_rfl, by kernel_rfl, run_equalIn_int w d _ _ _ _ _ Tryz.underlying3⟩⟩,
     by decide, ⟨.int .i64 u.min, .int .i64 v.min, fun w => ⟨by kernel_rfl, by kernel_rfl, run_equalIn_int w d _ _ _ _ _ Tryz.underlying3⟩⟩,
     by decide, ⟨.int .i64 u.pat, .int .i64 v.pat, fun w => ⟨by kernel_rfl, by kernel_rfl, run_equalIn_int w d _ _ _ _ _ Tryz.underlying3⟩⟩,
     by decide, ⟨.string (mkS u.pre), .string (mkS v.pre), fun w => ⟨by kernel_rfl, by kernel_rfl, run_equalIn_string w d _ _ _ Tryz.underlying9⟩⟩,
     by decide, ⟨.string (mkS u.build), .string (mkS v.build), fun w => ⟨by kernel_rfl, by kernel_rfl, run_equalIn_string w d _ _ _ Tryz.underlying9⟩⟩, trivial⟩ w
  rw [all5, str_beq, str_beq, int_beq, int_beq, int_beq, ← ver_dec] at h
  exact h
/-- A cut as a value. -/
def cutV (c : Cu) : Value := .agg #[.int .i64 c.e, .int .i64 c.v.maj, .int .i64 c.v.min, .int .i64 c.v.pat, .string (mkS c.v.pre), .string (mkS c.v.build), .bool c.aft]
def spanV (s : Sp) : Value := .agg #[.int .i64 s.lo.e, .int .i64 s.lo.v.maj, .int .i64 s.lo.v.min, .int .i64 s.lo.v.pat, .string (mkS s.lo.v.pre), .string (mkS s.lo.v.build), .bool s.lo.aft, .int .i64 s.hi.e, .int .i64 s.hi.v.maj, .int .i64 s.hi.v.min, .int .i64 s.hi.v.pat, .string (mkS s.hi.v.pre), .string (mkS s.hi.v.build), .bool s.hi.aft]
theorem cut_dec (u v : Cu) : decide (u = v) = (decide (u.e = v.e) && (decide (u.v = v.v) && (u.aft == v.aft))) := by
  obtain ⟨a, b, c⟩ := u
  obtain ⟨a', b', c'⟩ := v
  simp only [Cu.mk.injEq, Bool.decide_and]
  cases c <;> cases c' <;> simp
theorem eq_cut (u v : Cu) (d : Nat) (w : World) : (Op.equalIn (d + 1 + 1 + 1) 41 (cutV u) (cutV v)).run Tryz.prog w = .ok (decide (u = v)) w := by
  have h := eq_agg (P := Tryz.prog) (d := d + 1 + 1) (t := 41) (xs := (cutV u).cells) (ys := (cutV v).cells) (bs := [u.e == v.e, decide (u.v = v.v), u.aft == v.aft]) Tryz.underlying41 (by kernel_rfl)
    ⟨by decide, ⟨.int .i64 u.e, .int .i64 v.e, fun w => ⟨by kernel_rfl, by kernel_rfl, run_equalIn_int w (d + 1) _ _ _ _ _ Tryz.underlying3⟩⟩,
     by decide, ⟨verV u.v, verV v.v, fun w => ⟨by kernel_rfl, by kernel_rfl, eq_ver u.v v.v d w⟩⟩,
     by decide, ⟨.bool u.aft, .bool v.aft, fun w => ⟨by kernel_rfl, by kernel_rfl, run_equalIn_bool' w (d + 1) _ _ _ Tryz.underlying4⟩⟩, trivial⟩ w
  rw [all3, int_beq, ← cut_dec] at h
  exact h
theorem guard_ver : Tryz.prog.eqGuardType Tryz.prog.depth 31 = false := by kernel_rfl
theorem guard_cut : Tryz.prog.eqGuardType Tryz.prog.depth 41 = false := by kernel_rfl
theorem op_eq_ver {ρ : Operand → Value} {o : Oper} {t' : TypeId} {x y : Operand} {u v : Ver} {b : Bool} (ho : o.op = .binOp .eql 31 x y t') (hx : ρ x = verV u) (hy : ρ y = verV v) (hb : decide (u = v) = b) (w : World) : (execOp ρ o).run Tryz.prog w = .ok (.value (.bool b)) w :=
  run_eq_op ho hx hy guard_ver (fun w => hb ▸ eq_ver u v 9998 w) w
theorem op_eq_cut {ρ : Operand → Value} {o : Oper} {t' : TypeId} {x y : Operand} {u v : Cu} {b : Bool} (ho : o.op = .binOp .eql 41 x y t') (hx : ρ x = cutV u) (hy : ρ y = cutV v) (hb : decide (u = v) = b) (w : World) : (execOp ρ o).run Tryz.prog w = .ok (.value (.bool b)) w :=
  run_eq_op ho hx hy guard_cut (fun w => hb ▸ eq_cut u v 9997 w) w
end Go.Proofs.YtmlecnomdamgnaaGreat
end

section
/-
  Package version: compareTag, comparePre and Compare: what they return; nothing that was there is changed. Conditions: strings of at most a million bytes.
-/
namespace Go.Proofs.YtmlecnomdamgnaaGreat
open Go.RowKit

theorem ret_i64 {a b : Int} (h : a = b) : Ending.returned (.int .i64 a) = .returned (.int .i64 b) := by rw [h]
theorem below_drew {B : Nat} {a w : World} (h : Below B a w) : Below B a w.drew := h.drew
theorem empty_mk (b : List UInt8) : (mkS b).toList.isEmpty = b.isEmpty := by rw [Lib.toList_data, mk_data]

set_option maxHeartbeats 2000000 in
theorem compareTag_any (a b : List UInt8) (w : World) (ha : a.length ≤ 1000000) (hb : b.length ≤ 1000000) :
    Calls Tryz.prog 102 #[.string (mkS a), .string (mkS b)] w fun e w' => e = .returned (.int .i64 (oneP a b)) ∧ Below w.heap.size w w' := by
  have la : a.length ≤ maxLen := by unfold maxLen; omega
  have lb : b.length ≤ maxLen := by unfold maxLen; omega
  have HO : Hid (oneP a b = if numI a && numI b then Lib.compareInt (numD a) (numD b) else if numI a && !b.isEmpty then -1 else if numI b && !a.isEmpty then 1 else Lib.compareBytes a b) := rfl
  have ea := empty_mk a
  have eb := empty_mk b
  obtain ⟨na, hna⟩ : ∃ n, numD a = n := ⟨_, rfl⟩
  obtain ⟨nb, hnb⟩ : ∃ n, numD b = n := ⟨_, rfl⟩
  have cC := fun w' => Tryz.strings_Compare (mkS a) (mkS b) w'
  rw [mk_data, mk_data] at cC
  obtain ⟨x, hx⟩ : ∃ n, Lib.compareBytes a b = n := ⟨_, rfl⟩
  have cI := fun w' => Tryz.cmp_Compare_int na nb w'
  obtain ⟨y, hy⟩ : ∃ n, Lib.compareInt na nb = n := ⟨_, rfl⟩
  rw [hx] at cC HO
  rw [hna, hnb, hy] at HO
  rw [hy] at cI
  clear hx hy
  cases hi : numI a <;> cases hj : numI b <;> cases ga : a.isEmpty <;> cases gb : b.isEmpty
  all_goals
    rw [hi, hj, ga, gb] at HO
    have cA := fun w' => number_mk a _ hi w' la
    have cB := fun w' => number_mk b _ hj w' lb
    rw [hna] at cA
    rw [hnb] at cB
    rw [ga] at ea
    rw [gb] at eb
    clear hi hj ga gb
    go_enter Tryz.func102, Tryz.ntmps102
    go_wp2_with fail
    refine (cA _).mono ?_
    rintro e w1 ⟨rfl, hb1⟩
    go_wp2_with fail
    refine (cB _).mono ?_
    rintro e w2 ⟨rfl, hb2⟩
    have hbw : Below w.heap.size w w2 := hb1.trans (hb2.mono hb1.size)
    go_wp2_with (first
      | (go_at_call 85; refine (cI _).mono ?_; rintro e w3 ⟨rfl, rfl⟩)
      | (go_at_call 110; refine (cC _).mono ?_; rintro e w3 ⟨rfl, rfl⟩))
    go_ret
    exact ⟨ret_i64 (by rw [HO.out]; simp), hbw⟩

theorem lcell_get (l : List (List UInt8)) (k : Nat) (hk : k < 4) : (lcells l)[k]? = some (.string (mkS (tg l k))) := by
  match k, hk with
  | 0, _ => rfl
  | 1, _ => rfl
  | 2, _ => rfl
  | 3, _ => rfl
theorem tag_cell {w : World} {B : Nat} {l : List (List UInt8)} {T : TypeId} (h : w.heap[B]? = some (.cells (lcells l) T)) (k : Nat) (hk : k < 4) : w.cell? ⟨B, k, none⟩ = some (.string (mkS (tg l k))) := by
  rw [cell_of_row w B k _ _ _ h]; exact lcell_get l k hk
theorem seqP_on (n : Nat) (l m : List (List UInt8)) (h : oneP (tg l 0) (tg m 0) = 0) : seqP (n + 1) l m = seqP n l.tail m.tail := by
  rw [seqP, if_neg (by simpa using h)]
theorem seqP_off (n : Nat) (l m : List (List UInt8)) (h : ¬ oneP (tg l 0) (tg m 0) = 0) : seqP (n + 1) l m = oneP (tg l 0) (tg m 0) := by
  rw [seqP, if_pos h]
theorem tg_drop (l : List (List UInt8)) (k : Nat) : tg (l.drop k) 0 = tg l k := by unfold tg; simp

set_option maxHeartbeats 2000000 in
theorem cfunc_any (bx by_ : Nat) (l m : List (List UInt8)) (w : World) (hx : w.heap[bx]? = some (.cells (lcells l) 97)) (hy : w.heap[by_]? = some (.cells (lcells m) 97)) (hl : ∀ i, (tg l i).length ≤ 8) (hm : ∀ i, (tg m i).length ≤ 8) :
    Calls Tryz.prog 101 #[.slice (some ⟨bx, 0, none⟩) 4 4, .slice (some ⟨by_, 0, none⟩) 4 4, .func (.func 102) #[] #[]] w fun e w' => e = .returned (.int .i64 (seqP 4 l m)) ∧ Below w.heap.size w w' := by
  have hbx := (Array.getElem?_eq_some_iff.1 hx).1
  have hby := (Array.getElem?_eq_some_iff.1 hy).1
  have HX := Lib.hid hx
  have HY := Lib.hid hy
  have HL := Lib.hid hl
  have HM := Lib.hid hm
  clear hx hy hl hm
  go_enter Tryz.func101, Tryz.ntmps101
  go_wp2
  go_loopw [13] (fun v wr => ∃ k : Nat, k ≤ 4 ∧ v = .int .i64 k ∧ Below w.heap.size w wr ∧ Hid (seqP (4 - k) (l.drop k) (m.drop k) = seqP 4 l m)) (fun v _ => 4 - (intOf v).toNat)
  case atStart => exact ⟨0, by omega, rfl, Below.refl _ _, rfl⟩
  case round =>
    obtain ⟨k, hk, rfl, hbel, HR⟩ := hrel
    by_cases hk4 : k < 4
    · have hki : (k : Int) < 4 := by omega
      have hkn : ¬ (4 : Int) ≤ k := by omega
      have cx := tag_cell ((hbel.block bx hbx).trans HX.out) k hk4
      have cy := tag_cell ((hbel.block by_ hby).trans HY.out) k hk4
      have lx := HL.out k
      have ly := HM.out k
      obtain ⟨n, hn⟩ : ∃ n, 4 - k = n + 1 := ⟨3 - k, by omega⟩
      have cT := fun w' => compareTag_any (tg l k) (tg m k) w' (by omega) (by omega)
      obtain ⟨o, ho⟩ : ∃ o, oneP (tg l k) (tg m k) = o := ⟨_, rfl⟩
      rw [ho] at cT
      by_cases h0 : o = 0
      · have hq : seqP n (l.drop (k + 1)) (m.drop (k + 1)) = seqP 4 l m := by
          rw [← HR.out, hn, seqP_on _ _ _ (by rw [tg_drop, tg_drop, ho, h0])]; simp [List.tail_drop]
        have HQ := Lib.hid hq
        have HN := Lib.hid hn
        subst h0
        clear hq hn ho
        go_wp2_with fail
        refine (cT _).mono ?_
        rintro e w1 ⟨rfl, hb1⟩
        go_wp2
        go_roundw
        case rel => exact ⟨k + 1, by omega, by go_num, hbel.trans (hb1.mono hbel.size), by have := HN.out; rw [show 4 - (k + 1) = n from by omega]; exact HQ.out⟩
        case measure => simp [intOf]; omega
      · have hq : o = seqP 4 l m := by
          rw [← HR.out, hn, seqP_off _ _ _ (by rw [tg_drop, tg_drop, ho]; exact h0), tg_drop, tg_drop, ho]
        have HQ := Lib.hid hq
        have h0b : (o != 0) = true := by simpa using h0
        clear hq hn ho
        go_wp2_with fail
        refine (cT _).mono ?_
        rintro e w1 ⟨rfl, hb1⟩
        go_wp2
        go_ret
        exact ⟨ret_i64 HQ.out, hbel.trans (hb1.mono hbel.size)⟩
    · have hki : ¬ (k : Int) < 4 := by omega
      obtain rfl : k = 4 := by omega
      go_wp2
      go_ret
      exact ⟨ret_i64 HR.out, hbel⟩

set_option maxHeartbeats 2000000 in
theorem comparePre_go (a b : List UInt8) (w : World) (ha : a.length ≤ 1000000) (hb : b.length ≤ 1000000) (na : a ≠ []) (nb : b ≠ []) :
    Calls Tryz.prog 86 #[.string (mkS a), .string (mkS b)] w fun e w' => e = .returned (.int .i64 (seqP 4 (lst a).1 (lst b).1)) ∧ Below w.heap.size w w' := by
  have ea := empty_mk a
  have eb := empty_mk b
  rw [List.isEmpty_eq_false_iff.2 na] at ea
  rw [List.isEmpty_eq_false_iff.2 nb] at eb
  have cA := fun w' => list_lit a w' (by omega)
  have cB := fun w' => list_lit b w' (by omega)
  obtain ⟨L, hL⟩ : ∃ L, (lst a).1 = L := ⟨_, rfl⟩
  obtain ⟨M, hM⟩ : ∃ L, (lst b).1 = L := ⟨_, rfl⟩
  rw [hL] at cA
  rw [hM] at cB
  rw [hL, hM]
  have H8 := Lib.hid (tg_len a)
  have H9 := Lib.hid (tg_len b)
  rw [hL] at H8
  rw [hM] at H9
  clear hL hM na nb
  go_enter Tryz.func86, Tryz.ntmps86
  go_wp2_with fail
  refine (cA _).mono ?_
  rintro e w1 ⟨rfl, hb1⟩
  go_wp2_with fail
  refine (cB _).mono ?_
  rintro e w2 ⟨rfl, hb2⟩
  have hz1 := hb1.size
  have hz2 := hb2.size
  rw [size_box] at hz2
  have hbw : Below w.heap.size w w2 := (hb1.alloc hb1.size _).trans (hb2.mono (by rw [size_box]; omega))
  have hx := (hb2.block w1.heap.size (by rw [size_box]; omega)).trans (heap_new w1 _)
  have hy := heap_new w2 (.cells #[.string (mkS (tg M 0)), .string (mkS (tg M 1)), .string (mkS (tg M 2)), .string (mkS (tg M 3))] 97)
  have hx2 := (heap_old w2 (.cells #[.string (mkS (tg M 0)), .string (mkS (tg M 1)), .string (mkS (tg M 2)), .string (mkS (tg M 3))] 97) (by omega : w1.heap.size < w2.heap.size)).trans hx
  have cF := cfunc_any w1.heap.size w2.heap.size L M ((w2.alloc (.cells #[.string (mkS (tg M 0)), .string (mkS (tg M 1)), .string (mkS (tg M 2)), .string (mkS (tg M 3))] 97)).drew) hx2 hy H8.out H9.out
  clear hx hy hx2
  go_wp2_with fail
  go_region_with (refine cF.mono ?_; rintro e w3 ⟨rfl, hb3⟩)
  all_goals
    go_wp2
    go_ret
    exact ⟨rfl, (below_drew (hbw.alloc (by omega) _)).trans (hb3.mono (by show _ ≤ (w2.alloc _).heap.size; rw [size_box]; omega))⟩

theorem comparePre_any (a b : List UInt8) (w : World) (ha : a.length ≤ 1000000) (hb : b.length ≤ 1000000) :
    Calls Tryz.prog 86 #[.string (mkS a), .string (mkS b)] w fun e w' => e = .returned (.int .i64 (cpre a b)) ∧ Below w.heap.size w w' := by
  by_cases h1 : a = []
  · have ea := empty_mk a
    rw [List.isEmpty_iff.2 h1] at ea
    have HC : Hid (cpre a b = 1) := by show _ = _; unfold cpre; rw [if_pos h1]
    clear h1
    go_enter Tryz.func86, Tryz.ntmps86
    go_wp2
    go_ret
    exact ⟨ret_i64 HC.out.symm, Below.refl _ _⟩
  · by_cases h2 : b = []
    · have ea := empty_mk a
      rw [List.isEmpty_eq_false_iff.2 h1] at ea
      have eb := empty_mk b
      rw [List.isEmpty_iff.2 h2] at eb
      have HC : Hid (cpre a b = -1) := by show _ = _; unfold cpre; rw [if_neg h1, if_pos h2]
      clear h1 h2
      go_enter Tryz.func86, Tryz.ntmps86
      go_wp2
      go_ret
      exact ⟨ret_i64 HC.out.symm, Below.refl _ _⟩
    · have hc : cpre a b = seqP 4 (lst a).1 (lst b).1 := by unfold cpre; rw [if_neg h1, if_neg h2]
      rw [hc]
      exact comparePre_go a b w ha hb h1 h2

def or3 (x y z : Int) : Int := if x ≠ 0 then x else if y ≠ 0 then y else z
def nthI (x y z : Int) (k : Nat) : Int := if k = 0 then x else if k = 1 then y else z
set_option maxHeartbeats 2000000 in
theorem or_any (B : Nat) (x y z : Int) (w : World) (h : w.heap[B]? = some (.cells #[.int .i64 x, .int .i64 y, .int .i64 z] 3)) :
    Calls Tryz.prog 84 #[.slice (some ⟨B, 0, none⟩) 3 3] w fun e w' => e = .returned (.int .i64 (or3 x y z)) ∧ w = w' := by
  obtain ⟨c0, _⟩ := cell_row (j := 0) h (by simp)
  obtain ⟨c1, _⟩ := cell_row (j := 1) h (by simp)
  obtain ⟨c2, _⟩ := cell_row (j := 2) h (by simp)
  simp only [List.getElem_toArray, List.getElem_cons_succ, List.getElem_cons_zero] at c0 c1 c2
  have HC : Hid (∀ k, k < 3 → w.cell? ⟨B, k, none⟩ = some (.int .i64 (nthI x y z k))) := by
    intro k hk
    match k, hk with
    | 0, _ => exact c0
    | 1, _ => exact c1
    | 2, _ => exact c2
  clear c0 c1 c2 h
  go_enter Tryz.func84, Tryz.ntmps84
  go_wp2
  go_loop [8] (fun v => ∃ k : Nat, k ≤ 3 ∧ v = .int .i64 k ∧ Hid (∀ j, j < k → nthI x y z j = 0)) (fun v => 3 - (intOf v).toNat)
  case atStart => exact ⟨0, by omega, rfl, fun j hj => by omega⟩
  case round =>
    obtain ⟨k, hk, rfl, HR⟩ := hrel
    by_cases hk3 : k < 3
    · have hki : (k : Int) < 3 := by omega
      have hc := HC.out k hk3
      obtain ⟨o, ho⟩ : ∃ o, nthI x y z k = o := ⟨_, rfl⟩
      rw [ho] at hc
      by_cases h0 : o = 0
      · subst h0
        have HO := Lib.hid ho
        clear ho
        go_wp2
        go_round
        case rel => exact ⟨k + 1, by omega, by go_num, fun j hj => by
          by_cases hjk : j < k
          · exact HR.out j hjk
          · obtain rfl : j = k := by omega
            exact HO.out⟩
        case measure => simp [intOf]; omega
      · have h0b : (o != 0) = true := by simpa using h0
        have HO := Lib.hid ho
        clear ho
        go_wp2
        go_ret
        refine ⟨ret_i64 ?_, rfl⟩
        have h1 := HR.out
        have h2 := HO.out
        unfold or3
        match k, hk3 with
        | 0, _ => rw [show x = o from h2, if_pos h0]
        | 1, _ => rw [show x = 0 from h1 0 (by omega), show y = o from h2, if_neg (by simp), if_pos h0]
        | 2, _ => rw [show x = 0 from h1 0 (by omega), show y = 0 from h1 1 (by omega), show z = o from h2]; simp
    · have hki : ¬ (k : Int) < 3 := by omega
      obtain rfl : k = 3 := by omega
      go_wp2
      go_ret
      refine ⟨ret_i64 ?_, rfl⟩
      have h1 := HR.out
      unfold or3
      rw [show x = 0 from h1 0 (by omega), show y = 0 from h1 1 (by omega), show z = 0 from h1 2 (by omega)]; simp
end Go.Proofs.YtmlecnomdamgnaaGreat
end

section
/-
  Package version: Compare: the order that the document names; nothing that was there is changed. Conditions: strings of at most a million bytes.
-/
namespace Go.Proofs.YtmlecnomdamgnaaGreat
open Go.RowKit

/-- Two boxes hold two versions, and nothing that was there before has changed: so it stays behind a call that changes nothing old. -/
theorem two_keep {w w' w2 : World} {A B : Nat} {v1 v2 v3 v4 v5 u1 u2 u3 u4 u5 : Value} (hS : (w'.cell? ⟨A, 0, none⟩ = some v1 ∧ w'.cell? ⟨A, 1, none⟩ = some v2 ∧ w'.cell? ⟨A, 2, none⟩ = some v3 ∧ w'.cell? ⟨A, 3, none⟩ = some v4 ∧ w'.cell? ⟨A, 4, none⟩ = some v5) ∧ (w'.cell? ⟨B, 0, none⟩ = some u1 ∧ w'.cell? ⟨B, 1, none⟩ = some u2 ∧ w'.cell? ⟨B, 2, none⟩ = some u3 ∧ w'.cell? ⟨B, 3, none⟩ = some u4 ∧ w'.cell? ⟨B, 4, none⟩ = some u5) ∧ Below w.heap.size w w' ∧ A < w'.heap.size ∧ B < w'.heap.size) (hb : Below w'.heap.size w' w2) :
    (w2.cell? ⟨A, 0, none⟩ = some v1 ∧ w2.cell? ⟨A, 1, none⟩ = some v2 ∧ w2.cell? ⟨A, 2, none⟩ = some v3 ∧ w2.cell? ⟨A, 3, none⟩ = some v4 ∧ w2.cell? ⟨A, 4, none⟩ = some v5) ∧ (w2.cell? ⟨B, 0, none⟩ = some u1 ∧ w2.cell? ⟨B, 1, none⟩ = some u2 ∧ w2.cell? ⟨B, 2, none⟩ = some u3 ∧ w2.cell? ⟨B, 3, none⟩ = some u4 ∧ w2.cell? ⟨B, 4, none⟩ = some u5) ∧ Below w.heap.size w w2 ∧ A < w2.heap.size ∧ B < w2.heap.size := by
  obtain ⟨⟨a0, a1, a2, a3, a4⟩, ⟨b0, b1, b2, b3, b4⟩, h, hA, hB⟩ := hS
  have k : ∀ C i v, C < w'.heap.size → w'.cell? ⟨C, i, none⟩ = some v → w2.cell? ⟨C, i, none⟩ = some v := fun C i v hC e => (hb.cell (p := ⟨C, i, none⟩) hC).trans e
  exact ⟨⟨k _ _ _ hA a0, k _ _ _ hA a1, k _ _ _ hA a2, k _ _ _ hA a3, k _ _ _ hA a4⟩, ⟨k _ _ _ hB b0, k _ _ _ hB b1, k _ _ _ hB b2, k _ _ _ hB b3, k _ _ _ hB b4⟩, h.trans (hb.mono h.size), Nat.lt_of_lt_of_le hA hb.size, Nat.lt_of_lt_of_le hB hb.size⟩
theorem heap_new_drew (w : World) (o : Obj) : (w.alloc o).drew.heap[w.heap.size]? = some o := heap_new w o
theorem two_start (w : World) (v1 v2 v3 v4 v5 u1 u2 u3 u4 u5 : Value) (T : TypeId) :
    (((w.alloc (.cells #[v1, v2, v3, v4, v5] T)).alloc (.cells #[u1, u2, u3, u4, u5] T)).drew.cell? ⟨w.heap.size, 0, none⟩ = some v1 ∧ ((w.alloc (.cells #[v1, v2, v3, v4, v5] T)).alloc (.cells #[u1, u2, u3, u4, u5] T)).drew.cell? ⟨w.heap.size, 1, none⟩ = some v2 ∧ ((w.alloc (.cells #[v1, v2, v3, v4, v5] T)).alloc (.cells #[u1, u2, u3, u4, u5] T)).drew.cell? ⟨w.heap.size, 2, none⟩ = some v3 ∧ ((w.alloc (.cells #[v1, v2, v3, v4, v5] T)).alloc (.cells #[u1, u2, u3, u4, u5] T)).drew.cell? ⟨w.heap.size, 3, none⟩ = some v4 ∧ ((w.alloc (.cells #[v1, v2, v3, v4, v5] T)).alloc (.cells #[u1, u2, u3, u4, u5] T)).drew.cell? ⟨w.heap.size, 4, none⟩ = some v5) ∧ (((w.alloc (.cells #[v1, v2, v3, v4, v5] T)).alloc (.cells #[u1, u2, u3, u4, u5] T)).drew.cell? ⟨(w.heap.size + 1), 0, none⟩ = some u1 ∧ ((w.alloc (.cells #[v1, v2, v3, v4, v5] T)).alloc (.cells #[u1, u2, u3, u4, u5] T)).drew.cell? ⟨(w.heap.size + 1), 1, none⟩ = some u2 ∧ ((w.alloc (.cells #[v1, v2, v3, v4, v5] T)).alloc (.cells #[u1, u2, u3, u4, u5] T)).drew.cell? ⟨(w.heap.size + 1), 2, none⟩ = some u3 ∧ ((w.alloc (.cells #[v1, v2, v3, v4, v5] T)).alloc (.cells #[u1, u2, u3, u4, u5] T)).drew.cell? ⟨(w.heap.size + 1), 3, none⟩ = some u4 ∧ ((w.alloc (.cells #[v1, v2, v3, v4, v5] T)).alloc (.cells #[u1, u2, u3, u4, u5] T)).drew.cell? ⟨(w.heap.size + 1), 4, none⟩ = some u5) ∧ Below w.heap.size w ((w.alloc (.cells #[v1, v2, v3, v4, v5] T)).alloc (.cells #[u1, u2, u3, u4, u5] T)).drew ∧ w.heap.size < ((w.alloc (.cells #[v1, v2, v3, v4, v5] T)).alloc (.cells #[u1, u2, u3, u4, u5] T)).drew.heap.size ∧ (w.heap.size + 1) < ((w.alloc (.cells #[v1, v2, v3, v4, v5] T)).alloc (.cells #[u1, u2, u3, u4, u5] T)).drew.heap.size := by
  have h0 : ((w.alloc (.cells #[v1, v2, v3, v4, v5] T)).alloc (.cells #[u1, u2, u3, u4, u5] T)).drew.heap[w.heap.size]? = some (.cells #[v1, v2, v3, v4, v5] T) := (heap_old _ _ (by rw [size_box]; omega)).trans (heap_new w _)
  have h1 : ((w.alloc (.cells #[v1, v2, v3, v4, v5] T)).alloc (.cells #[u1, u2, u3, u4, u5] T)).drew.heap[w.heap.size + 1]? = some (.cells #[u1, u2, u3, u4, u5] T) := heap_at _ _ _ (by rw [size_box])
  have k0 : ∀ i v, (#[v1, v2, v3, v4, v5] : Array Value)[i]? = some v → ((w.alloc (.cells #[v1, v2, v3, v4, v5] T)).alloc (.cells #[u1, u2, u3, u4, u5] T)).drew.cell? ⟨w.heap.size, i, none⟩ = some v := fun i v e => (cell_of_row _ _ i _ _ _ h0).trans e
  have k1 : ∀ i v, (#[u1, u2, u3, u4, u5] : Array Value)[i]? = some v → ((w.alloc (.cells #[v1, v2, v3, v4, v5] T)).alloc (.cells #[u1, u2, u3, u4, u5] T)).drew.cell? ⟨w.heap.size + 1, i, none⟩ = some v := fun i v e => (cell_of_row _ _ i _ _ _ h1).trans e
  have hs : ((w.alloc (.cells #[v1, v2, v3, v4, v5] T)).alloc (.cells #[u1, u2, u3, u4, u5] T)).drew.heap.size = w.heap.size + 2 := by show ((w.alloc _).alloc _).heap.size = _; rw [size_box, size_box]
  exact ⟨⟨k0 0 _ rfl, k0 1 _ rfl, k0 2 _ rfl, k0 3 _ rfl, k0 4 _ rfl⟩, ⟨k1 0 _ rfl, k1 1 _ rfl, k1 2 _ rfl, k1 3 _ rfl, k1 4 _ rfl⟩, below_drew (((Below.refl _ _).alloc (Nat.le_refl _) _).alloc (by rw [size_box]; omega) _), by omega, by omega⟩

set_option maxHeartbeats 4000000 in
set_option maxRecDepth 100000 in
theorem compare_same (a1 a2 a3 : Int) (p q q' : List UInt8) (w : World) (h1 : p.length ≤ 1000000) (h2 : q.length ≤ 1000000) (h4 : q'.length ≤ 1000000) (hm : (Ver.mk a1 a2 a3 p q).may = true) (hn : (Ver.mk a1 a2 a3 p q').may = true) :
    Calls Tryz.prog 67 #[verV ⟨a1, a2, a3, p, q⟩, verV ⟨a1, a2, a3, p, q'⟩] w fun e w' => e = .returned (.int .i64 0) ∧ Below w.heap.size w w' := by
  have cM := fun w' => may_any (Ver.mk a1 a2 a3 p q) w' (by show p.length < _; omega) (by show q.length < _; omega)
  have cN := fun w' => may_any (Ver.mk a1 a2 a3 p q') w' (by show p.length < _; omega) (by show q'.length < _; omega)
  have cO := fun w' => core_any (Ver.mk a1 a2 a3 p q) w' (by show p.length ≤ _; omega)
  have cP := fun w' => core_any (Ver.mk a1 a2 a3 p q') w' (by show p.length ≤ _; omega)
  rw [hm] at cM
  rw [hn] at cN
  unfold verV at cM cN cO cP ⊢
  dsimp only at cM cN cO cP ⊢
  clear hm hn
  go_enter Tryz.func67, Tryz.ntmps67
  go_wp2_with fail
  go_region_held3 (fun w' => (w'.cell? ⟨w.heap.size, 0, none⟩ = some (.int .i64 a1) ∧ w'.cell? ⟨w.heap.size, 1, none⟩ = some (.int .i64 a2) ∧ w'.cell? ⟨w.heap.size, 2, none⟩ = some (.int .i64 a3) ∧ w'.cell? ⟨w.heap.size, 3, none⟩ = some (.string (mkS p)) ∧ w'.cell? ⟨w.heap.size, 4, none⟩ = some (.string (mkS q))) ∧ (w'.cell? ⟨(w.heap.size + 1), 0, none⟩ = some (.int .i64 a1) ∧ w'.cell? ⟨(w.heap.size + 1), 1, none⟩ = some (.int .i64 a2) ∧ w'.cell? ⟨(w.heap.size + 1), 2, none⟩ = some (.int .i64 a3) ∧ w'.cell? ⟨(w.heap.size + 1), 3, none⟩ = some (.string (mkS p)) ∧ w'.cell? ⟨(w.heap.size + 1), 4, none⟩ = some (.string (mkS q'))) ∧ Below w.heap.size w w' ∧ w.heap.size < w'.heap.size ∧ (w.heap.size + 1) < w'.heap.size)
    ((first | exact two_start w _ _ _ _ _ _ _ _ _ _ _ | exact two_keep ‹_› ‹_›))
    (first
      | (go_at_call 66; with_reducible refine (cM _).mono ?_; rintro e w1 ⟨rfl, hb1⟩)
      | (go_at_call 66; with_reducible refine (cN _).mono ?_; rintro e w2 ⟨rfl, hb2⟩)
      | (go_at_call 83; with_reducible refine (cO _).mono ?_; rintro e w3 ⟨rfl, hb3⟩)
      | (go_at_call 83; with_reducible refine (cP _).mono ?_; rintro e w4 ⟨rfl, hb4⟩))
  all_goals
    go_wp2
    go_ret
    rename_i hH
    exact ⟨rfl, hH.2.2.1⟩

set_option maxHeartbeats 8000000 in
set_option maxRecDepth 100000 in
theorem compare_diff (a1 a2 a3 b1 b2 b3 : Int) (p q p' q' : List UInt8) (w : World) (h1 : p.length ≤ 1000000) (h2 : q.length ≤ 1000000) (h3 : p'.length ≤ 1000000) (h4 : q'.length ≤ 1000000) (hm : (Ver.mk a1 a2 a3 p q).may = true) (hn : (Ver.mk b1 b2 b3 p' q').may = true)
    (hd : (a1 == b1) = false ∨ ((a1 == b1) = true ∧ (a2 == b2) = false) ∨ ((a1 == b1) = true ∧ (a2 == b2) = true ∧ (a3 == b3) = false) ∨ ((a1 == b1) = true ∧ (a2 == b2) = true ∧ (a3 == b3) = true ∧ ((mkS p).toList == (mkS p').toList) = false))
    (n : Int) (hn2 : or3 (Lib.compareInt a1 b1) (Lib.compareInt a2 b2) (Lib.compareInt a3 b3) = n) :
    Calls Tryz.prog 67 #[verV ⟨a1, a2, a3, p, q⟩, verV ⟨b1, b2, b3, p', q'⟩] w fun e w' => e = .returned (.int .i64 (if n ≠ 0 then n else cpre p p')) ∧ Below w.heap.size w w' := by
  have cM := fun w' => may_any (Ver.mk a1 a2 a3 p q) w' (by show p.length < _; omega) (by show q.length < _; omega)
  have cN := fun w' => may_any (Ver.mk b1 b2 b3 p' q') w' (by show p'.length < _; omega) (by show q'.length < _; omega)
  have cO := fun w' => core_any (Ver.mk a1 a2 a3 p q) w' (by show p.length ≤ _; omega)
  have cP := fun w' => core_any (Ver.mk b1 b2 b3 p' q') w' (by show p'.length ≤ _; omega)
  have i1 := fun w' => Tryz.cmp_Compare_int a1 b1 w'
  have i2 := fun w' => Tryz.cmp_Compare_int a2 b2 w'
  have i3 := fun w' => Tryz.cmp_Compare_int a3 b3 w'
  obtain ⟨o1, ho1⟩ : ∃ o, Lib.compareInt a1 b1 = o := ⟨_, rfl⟩
  obtain ⟨o2, ho2⟩ : ∃ o, Lib.compareInt a2 b2 = o := ⟨_, rfl⟩
  obtain ⟨o3, ho3⟩ : ∃ o, Lib.compareInt a3 b3 = o := ⟨_, rfl⟩
  rw [ho1] at i1 hn2
  rw [ho2] at i2 hn2
  rw [ho3] at i3 hn2
  have cR := fun B w' h => or_any B o1 o2 o3 w' h
  rw [hn2] at cR
  rw [hm] at cM
  rw [hn] at cN
  unfold verV at cM cN cO cP ⊢
  dsimp only at cM cN cO cP ⊢
  clear hm hn ho1 ho2 ho3 hn2
  have cQ := fun w' => comparePre_any p p' w' h1 h3
  obtain ⟨x, hx⟩ : ∃ x, cpre p p' = x := ⟨_, rfl⟩
  rw [hx] at cQ ⊢
  clear hx
  rcases hd with d1 | ⟨d1, d2⟩ | ⟨d1, d2, d3⟩ | ⟨d1, d2, d3, d4⟩
  all_goals
    go_enter Tryz.func67, Tryz.ntmps67
    go_wp2_with fail
    go_region_held3 (fun w' => (w'.cell? ⟨w.heap.size, 0, none⟩ = some (.int .i64 a1) ∧ w'.cell? ⟨w.heap.size, 1, none⟩ = some (.int .i64 a2) ∧ w'.cell? ⟨w.heap.size, 2, none⟩ = some (.int .i64 a3) ∧ w'.cell? ⟨w.heap.size, 3, none⟩ = some (.string (mkS p)) ∧ w'.cell? ⟨w.heap.size, 4, none⟩ = some (.string (mkS q))) ∧ (w'.cell? ⟨(w.heap.size + 1), 0, none⟩ = some (.int .i64 b1) ∧ w'.cell? ⟨(w.heap.size + 1), 1, none⟩ = some (.int .i64 b2) ∧ w'.cell? ⟨(w.heap.size + 1), 2, none⟩ = some (.int .i64 b3) ∧ w'.cell? ⟨(w.heap.size + 1), 3, none⟩ = some (.string (mkS p')) ∧ w'.cell? ⟨(w.heap.size + 1), 4, none⟩ = some (.string (mkS q'))) ∧ Below w.heap.size w w' ∧ w.heap.size < w'.heap.size ∧ (w.heap.size + 1) < w'.heap.size)
      ((first | exact two_start w _ _ _ _ _ _ _ _ _ _ _ | exact two_keep ‹_› ‹_›))
      (first
        | (go_at_call 66; with_reducible refine (cM _).mono ?_; rintro e w1 ⟨rfl, hb1⟩)
        | (go_at_call 66; with_reducible refine (cN _).mono ?_; rintro e w2 ⟨rfl, hb2⟩)
        | (go_at_call 83; with_reducible refine (cO _).mono ?_; rintro e w3 ⟨rfl, hb3⟩)
        | (go_at_call 83; with_reducible refine (cP _).mono ?_; rintro e w4 ⟨rfl, hb4⟩))
    all_goals
      rename_i hH
      go_wp2_with fail
      go_region_held3 (fun w' => (w'.cell? ⟨w.heap.size, 0, none⟩ = some (.int .i64 a1) ∧ w'.cell? ⟨w.heap.size, 1, none⟩ = some (.int .i64 a2) ∧ w'.cell? ⟨w.heap.size, 2, none⟩ = some (.int .i64 a3) ∧ w'.cell? ⟨w.heap.size, 3, none⟩ = some (.string (mkS p)) ∧ w'.cell? ⟨w.heap.size, 4, none⟩ = some (.string (mkS q))) ∧ (w'.cell? ⟨(w.heap.size + 1), 0, none⟩ = some (.int .i64 b1) ∧ w'.cell? ⟨(w.heap.size + 1), 1, none⟩ = some (.int .i64 b2) ∧ w'.cell? ⟨(w.heap.size + 1), 2, none⟩ = some (.int .i64 b3) ∧ w'.cell? ⟨(w.heap.size + 1), 3, none⟩ = some (.string (mkS p')) ∧ w'.cell? ⟨(w.heap.size + 1), 4, none⟩ = some (.string (mkS q'))) ∧ Below w.heap.size w w' ∧ w.heap.size < w'.heap.size ∧ (w.heap.size + 1) < w'.heap.size)
        ((first | exact hH | exact two_keep hH (below_drew (Below.refl _ _)) | assumption | exact two_keep ‹_› ((Below.refl _ _).alloc (Nat.le_refl _) _)))
        (first
          | (go_at_call 85; with_reducible refine (i1 _).mono ?_; rintro e w5 ⟨rfl, rfl⟩)
          | (go_at_call 85; with_reducible refine (i2 _).mono ?_; rintro e w6 ⟨rfl, rfl⟩)
          | (go_at_call 85; with_reducible refine (i3 _).mono ?_; rintro e w7 ⟨rfl, rfl⟩)
          | (go_at_call 84; refine (cR _ _ (heap_new_drew _ _)).mono ?_; rintro e w8 ⟨rfl, rfl⟩))
      all_goals
        rename_i hK
        obtain ⟨⟨_, _, _, k4, _⟩, ⟨_, _, _, m4, _⟩, hbk, _, _⟩ := hK
        by_cases h0 : n = 0
        · subst h0
          go_wp2_with (go_at_call 86; refine (cQ _).mono ?_; rintro e w9 ⟨rfl, hb9⟩)
          go_ret
          exact ⟨rfl, hbk.trans (hb9.mono hbk.size)⟩
        · have h0b : (n == 0) = false := by simpa using h0
          go_wp2
          go_ret
          exact ⟨rfl, hbk⟩

set_option maxHeartbeats 8000000 in
set_option maxRecDepth 100000 in
theorem compare_bad (v u : Ver) (w : World) (h1 : v.pre.length ≤ 1000000) (h2 : v.build.length ≤ 1000000) (h3 : u.pre.length ≤ 1000000) (h4 : u.build.length ≤ 1000000) (hm : v.may = false ∨ (v.may = true ∧ u.may = false)) :
    Calls Tryz.prog 67 #[verV v, verV u] w fun e w' => e = .returned (.int .i64 0) ∧ Below w.heap.size w w' := by
  have cM := fun w' => may_any v w' (by omega) (by omega)
  have cN := fun w' => may_any u w' (by omega) (by omega)
  obtain ⟨a1, a2, a3, p, q⟩ := v
  obtain ⟨b1, b2, b3, p', q'⟩ := u
  unfold verV at cM cN ⊢
  dsimp only at cM cN ⊢
  rcases hm with hm | ⟨hm, hn⟩
  · rw [hm] at cM
    clear hm
    go_enter Tryz.func67, Tryz.ntmps67
    go_wp2_with fail
    go_region_with (go_at_call 66; with_reducible refine (cM _).mono ?_; rintro e w1 ⟨rfl, hb1⟩)
    all_goals
      go_wp2
      go_ret
      exact ⟨rfl, (two_keep (two_start w _ _ _ _ _ _ _ _ _ _ _) hb1).2.2.1⟩
  · rw [hm] at cM
    rw [hn] at cN
    clear hm hn
    go_enter Tryz.func67, Tryz.ntmps67
    go_wp2_with fail
    go_region_with (first
        | (go_at_call 66; with_reducible refine (cM _).mono ?_; rintro e w1 ⟨rfl, hb1⟩; obtain ⟨⟨k1, k2, k3, k4, k5⟩, ⟨m1, m2, m3, m4, m5⟩, hbk, _, _⟩ := two_keep (two_start w _ _ _ _ _ _ _ _ _ _ _) hb1)
        | (go_at_call 66; with_reducible refine (cN _).mono ?_; rintro e w2 ⟨rfl, hb2⟩))
    all_goals
      go_wp2
      go_ret
      exact ⟨rfl, hbk.trans (hb2.mono hbk.size)⟩

theorem or3_cmpN (v u : Ver) : or3 (Lib.compareInt v.maj u.maj) (Lib.compareInt v.min u.min) (Lib.compareInt v.pat u.pat) = cmpN v u := rfl
/-- Compare, for all versions. -/
theorem vcompare_any (v u : Ver) (w : World) (h1 : v.pre.length ≤ 1000000) (h2 : v.build.length ≤ 1000000) (h3 : u.pre.length ≤ 1000000) (h4 : u.build.length ≤ 1000000) :
    Calls Tryz.prog 67 #[verV v, verV u] w fun e w' => e = .returned (.int .i64 (cmpR v u)) ∧ Below w.heap.size w w' := by
  cases hm : v.may with
  | false => rw [cmpR_bad (.inl hm)]; exact compare_bad v u w h1 h2 h3 h4 (.inl hm)
  | true =>
    cases hn : u.may with
    | false => rw [cmpR_bad (.inr hn)]; exact compare_bad v u w h1 h2 h3 h4 (.inr ⟨hm, hn⟩)
    | true =>
      by_cases hc : coreV v = coreV u
      · rw [cmpR_core hc]
        obtain ⟨a1, a2, a3, p, q⟩ := v
        obtain ⟨b1, b2, b3, p', q'⟩ := u
        unfold coreV at hc
        simp only [Ver.mk.injEq, and_true] at hc
        obtain ⟨rfl, rfl, rfl, rfl⟩ := hc
        exact compare_same a1 a2 a3 p q q' w h1 h2 h4 hm hn
      · rw [cmpR_go hm hn hc]
        obtain ⟨a1, a2, a3, p, q⟩ := v
        obtain ⟨b1, b2, b3, p', q'⟩ := u
        refine compare_diff a1 a2 a3 b1 b2 b3 p q p' q' w h1 h2 h3 h4 hm hn ?_ _ (or3_cmpN ⟨a1, a2, a3, p, q⟩ ⟨b1, b2, b3, p', q'⟩)
        by_cases g1 : a1 = b1
        · by_cases g2 : a2 = b2
          · by_cases g3 : a3 = b3
            · have g4 : p ≠ p' := fun e => hc (by unfold coreV; rw [g1, g2, g3, e])
              exact .inr (.inr (.inr ⟨by simpa using g1, by simpa using g2, by simpa using g3, mkS_ne g4⟩))
            · exact .inr (.inr (.inl ⟨by simpa using g1, by simpa using g2, by simpa using g3⟩))
          · exact .inr (.inl ⟨by simpa using g1, by simpa using g2⟩)
        · exact .inl (by simpa using g1)
end Go.Proofs.YtmlecnomdamgnaaGreat
end

section
/-
  The document's own answer for chapter 2 (linchpinref2): Numeric, tag, tags, num and May: the same plain functions as package version's. Conditions: strings of at most a million bytes.
-/
namespace Go.Proofs.YtmlecnomdamgnaaGreat
open Go.RowKit

set_option maxHeartbeats 1000000 in
theorem rnumeric_any (s : ByteArray) (w : World) (hs : s.size ≤ maxLen) :
    Calls Tryz.prog 105 #[.string s] w fun e w' => e = .returned (.bool (numer s.data.toList)) ∧ w = w' := by
  unfold maxLen at hs
  go_enter Tryz.func105, Tryz.ntmps105
  go_wp2
  go_loop [3] (fun i => ∃ k : Nat, k ≤ s.size ∧ i = .int .i64 k ∧ Hid (allDig (s.data.toList.drop k) = allDig s.data.toList)) (fun i => s.size - (intOf i).toNat)
  case atStart => exact ⟨0, Nat.zero_le _, rfl, rfl⟩
  case round =>
    obtain ⟨k, hk, rfl, HR⟩ := hrel
    by_cases hp : k < s.size
    · have HD := Lib.hid (drop_cons s k hp)
      by_cases h1 : ((s[k]'hp).toNat : Int) < 48
      · go_wp2
        go_ret
        exact ⟨ret_bool (by unfold numer; rw [← HR.out, HD.out, allDig_cons_bad _ _ (by unfold digB; simp; omega), Bool.and_false]), rfl⟩
      · by_cases h2 : (57 : Int) < (s[k]'hp).toNat
        · go_wp2
          go_ret
          exact ⟨ret_bool (by unfold numer; rw [← HR.out, HD.out, allDig_cons_bad _ _ (by unfold digB; simp; omega), Bool.and_false]), rfl⟩
        · go_wp2
          go_round
          case rel => exact ⟨k + 1, by omega, by go_num, by rw [← HR.out, HD.out, allDig_cons_ok _ _ (by unfold digB; simp; omega)]; rfl⟩
          case measure => simp [intOf]; omega
    · have HD := Lib.hid (drop_end s k hp)
      have hl : s.data.toList.length = s.size := len_data s
      by_cases h0 : s.size = 0
      · have he : s.data.toList = [] := List.eq_nil_of_length_eq_zero (by omega)
        have h0i : ¬ (0 : Int) < s.size := by omega
        have HE := Lib.hid he
        clear he h0 hl
        go_wp2
        go_ret
        exact ⟨ret_bool (by unfold numer; rw [HE.out]; simp; exact ByteArray.ext (Array.toList_inj.1 HE.out)), rfl⟩
      · have he : s.data.toList.isEmpty = false := by
          cases h : s.data.toList with
          | nil => rw [h] at hl; simp at hl; omega
          | cons _ _ => rfl
        have h0i : (0 : Int) < s.size := by omega
        have HE := Lib.hid he
        clear he h0 hl
        go_wp2
        go_ret
        exact ⟨ret_bool (by unfold numer; rw [HE.out, ← HR.out, HD.out]; simp [allDig]; omega), rfl⟩

set_option maxHeartbeats 2000000 in
theorem rtag_any (s : ByteArray) (w : World) (hs : s.size ≤ maxLen) :
    Calls Tryz.prog 103 #[.string s] w fun e w' => e = .returned (.bool (tagOk s.data.toList)) ∧ w = w' := by
  unfold maxLen at hs
  have hl : s.data.toList.length = s.size := len_data s
  by_cases h1 : s.size < 1
  · have HT : Hid (tagOk s.data.toList = false) := tagOk_short (List.eq_nil_of_length_eq_zero (by omega))
    clear hl
    go_enter Tryz.func103, Tryz.ntmps103
    go_wp2
    go_ret
    exact ⟨ret_bool HT.out.symm, rfl⟩
  · by_cases h8 : 8 < s.size
    · have HT : Hid (tagOk s.data.toList = false) := tagOk_long (by omega)
      clear hl
      go_enter Tryz.func103, Tryz.ntmps103
      go_wp2
      go_ret
      exact ⟨ret_bool HT.out.symm, rfl⟩
    · have HT : Hid (tagOk s.data.toList = s.data.toList.all tagC) := tagOk_mid (by intro e; rw [e] at hl; simp at hl; omega) (by omega)
      clear hl
      go_enter Tryz.func103, Tryz.ntmps103
      go_wp2
      go_loop [3] (fun i => ∃ k : Nat, k ≤ s.size ∧ i = .int .i64 k ∧ Hid ((s.data.toList.drop k).all tagC = s.data.toList.all tagC)) (fun i => s.size - (intOf i).toNat)
      case atStart => exact ⟨0, Nat.zero_le _, rfl, rfl⟩
      case round =>
        obtain ⟨k, hk, rfl, HR⟩ := hrel
        by_cases hp : k < s.size
        · have HD := Lib.hid (drop_cons s k hp)
          by_cases hL : (97 : Int) ≤ (s[k]'hp).toNat ∧ ((s[k]'hp).toNat : Int) ≤ 122
          · obtain ⟨hla, hlb⟩ := hL
            go_wp2
            go_round
            case rel => exact ⟨k + 1, by omega, by go_num, by rw [← HR.out, HD.out, all_ok _ _ (tagC_let _ (by unfold letB; simp; omega))]; rfl⟩
            case measure => simp [intOf]; omega
          · have hL2 : ((s[k]'hp).toNat : Int) < 97 ∨ (122 : Int) < (s[k]'hp).toNat := by omega
            by_cases hG : (48 : Int) ≤ (s[k]'hp).toNat ∧ ((s[k]'hp).toNat : Int) ≤ 57
            · obtain ⟨hga, hgb⟩ := hG
              have hL3 : ((s[k]'hp).toNat : Int) < 97 := by omega
              clear hL hL2
              go_wp2
              go_round
              case rel => exact ⟨k + 1, by omega, by go_num, by rw [← HR.out, HD.out, all_ok _ _ (tagC_dig _ (by unfold digB; simp; omega))]; rfl⟩
              case measure => simp [intOf]; omega
            · have hG2 : ((s[k]'hp).toNat : Int) < 48 ∨ (57 : Int) < (s[k]'hp).toNat := by omega
              by_cases h3 : ((s[k]'hp).toNat : Int) = 45
              · have h3b : (((s[k]'hp).toNat : Int) != 45) = false := by simp [h3]
                have hL3 : ((s[k]'hp).toNat : Int) < 97 := by omega
                have hG3 : ((s[k]'hp).toNat : Int) < 48 := by omega
                have H3 := Lib.hid h3
                clear h3 hL hL2 hG hG2
                go_wp2
                go_round
                case rel => exact ⟨k + 1, by omega, by go_num, by rw [← HR.out, HD.out, all_ok _ _ (tagC_dash _ H3.out)]; rfl⟩
                case measure => simp [intOf]; omega
              · have h3b : (((s[k]'hp).toNat : Int) != 45) = true := by simpa using h3
                have HB : Hid (s.data.toList.all tagC = false) := by
                  show _ = _
                  rw [← HR.out, HD.out, all_bad _ _ (tagC_bad _ (by unfold digB; simp; omega) (by unfold letB; simp; omega) h3)]
                clear hL hG h3
                rcases hL2 with hL2 | hL2 <;> rcases hG2 with hG2 | hG2
                · go_wp2
                  go_ret
                  exact ⟨ret_bool (by rw [HT.out, HB.out]), rfl⟩
                · have h9 : (48 : Int) ≤ (s[k]'hp).toNat := by omega
                  go_wp2
                  go_ret
                  exact ⟨ret_bool (by rw [HT.out, HB.out]), rfl⟩
                · exfalso; omega
                · have h9 : (97 : Int) ≤ (s[k]'hp).toNat := by omega
                  have h7 : (48 : Int) ≤ (s[k]'hp).toNat := by omega
                  go_wp2
                  go_ret
                  exact ⟨ret_bool (by rw [HT.out, HB.out]), rfl⟩
        · have HD := Lib.hid (drop_end s k hp)
          go_wp2
          go_ret
          exact ⟨ret_bool (by rw [HT.out, ← HR.out, HD.out]; rfl), rfl⟩

theorem rnum_any (n : Int) (w : World) :
    Calls Tryz.prog 87 #[.int .i64 n] w fun e w' => e = .returned (.bool (numOkI n)) ∧ w = w' := by
  unfold numOkI
  go_enter Tryz.func87, Tryz.ntmps87
  go_wp2
  all_goals go_ret
  all_goals exact ⟨ret_bool (by simp; try omega), rfl⟩

theorem rnumber_mk (t : List UInt8) (w : World) (ht : t.length ≤ maxLen) :
    Calls Tryz.prog 104 #[.string (mkS t)] w fun e w' => e = .returned (.tuple #[.int .i64 (numD t), .bool (numI t)]) ∧ w = w' := by
  have := rnumber_any (mkS t) w (by rw [mkS_sz]; exact ht)
  rw [numV_mk, numOk_mk] at this
  exact this
theorem rnumeric_mk (t : List UInt8) (w : World) (ht : t.length ≤ maxLen) :
    Calls Tryz.prog 105 #[.string (mkS t)] w fun e w' => e = .returned (.bool (numer t)) ∧ w = w' := by
  have := rnumeric_any (mkS t) w (by rw [mkS_sz]; exact ht)
  rw [mk_data] at this
  exact this
theorem rtag_mk (t : List UInt8) (w : World) (ht : t.length ≤ maxLen) :
    Calls Tryz.prog 103 #[.string (mkS t)] w fun e w' => e = .returned (.bool (tagOk t)) ∧ w = w' := by
  have := rtag_any (mkS t) w (by rw [mkS_sz]; exact ht)
  rw [mk_data] at this
  exact this
theorem rsplit_mk (s : List UInt8) (w : World) (hs : s.length ≤ 1000000) :
    Calls Tryz.prog 89 #[.string (mkS s), .int .u8 46] w fun e w' => ∃ v, e = .returned v ∧ w'.ownsRow w.heap.size 9 1 v (pcs s).length (strV (pcs s)) ∧ Below w.heap.size w w' := by
  have := rsplit_any (mkS s) 46 w (by rw [mkS_sz]; exact hs)
  unfold piecesOf at this
  rw [mk_data] at this
  exact this
theorem pcs_mem_len (s : List UInt8) : ∀ x ∈ pcs s, x.length ≤ s.length := by
  intro x hx
  have := split_le 46 s [] x hx
  simpa using this
theorem pcs_len (s : List UInt8) : (pcs s).length ≤ s.length + 1 := by
  unfold pcs; rw [split_len]
  have := List.length_filter_le (fun x : UInt8 => x == 46) s
  omega

/-- tags: at the flag pre. -/
def tagsB (s : List UInt8) (b : Bool) : Bool := s.isEmpty || (decide ((pcs s).length ≤ 4) && (pcs s).all fun t => tagOk t && !(b && numer t && !numI t))
theorem all_both {α : Type} (p q r : α → Bool) (h : ∀ x, r x = (p x && q x)) (l : List α) : l.all r = (l.all p && l.all q) := by
  induction l with
  | nil => rfl
  | cons a l ih =>
    rw [List.all_cons, List.all_cons, List.all_cons, ih, h]
    cases p a <;> cases q a <;> simp
theorem tagsB_pre (s : List UInt8) : tagsB s true = preOk s := by
  unfold tagsB preOk listOk preT
  cases s.isEmpty
  · simp only [Bool.false_or, Bool.true_and, Bool.and_assoc]
    congr 1
    refine all_both _ _ _ (fun t => ?_) _
    cases tagOk t <;> cases numer t <;> cases numI t <;> rfl
  · rfl
theorem tagsB_build (s : List UInt8) : tagsB s false = listOk s := by
  unfold tagsB listOk
  simp

def tagF (b : Bool) (t : List UInt8) : Bool := tagOk t && !(b && numer t && !numI t)
theorem tagsB_eq (s : List UInt8) (b : Bool) : tagsB s b = (s.isEmpty || (decide ((pcs s).length ≤ 4) && (pcs s).all (tagF b))) := rfl
theorem all_cut {l : List (List UInt8)} {p : List UInt8 → Bool} (k : Nat) (h : k < l.length) (hb : p l[k] = false) : l.all p = false := by
  rw [Bool.eq_false_iff]; intro e
  have := List.all_eq_true.1 e l[k] (List.getElem_mem h)
  rw [this] at hb; cases hb
theorem all_done {l : List (List UInt8)} {p : List UInt8 → Bool} (h : ∀ j (hj : j < l.length), p l[j] = true) : l.all p = true := by
  rw [List.all_eq_true]
  intro x hx
  obtain ⟨j, hj, rfl⟩ := List.getElem_of_mem hx
  exact h j hj

set_option maxHeartbeats 4000000 in
set_option maxRecDepth 100000 in
theorem rtags_any (s : List UInt8) (b : Bool) (w : World) (hs : s.length ≤ 1000000) :
    Calls Tryz.prog 88 #[.string (mkS s), .bool b] w fun e w' => e = .returned (.bool (tagsB s b)) ∧ Below w.heap.size w w' := by
  have es := (show (mkS s).toList.isEmpty = s.isEmpty by rw [Lib.toList_data, mk_data])
  have HT := Lib.hid (tagsB_eq s b)
  cases he : s.isEmpty with
  | true =>
    rw [he] at es HT
    clear he
    go_enter Tryz.func88, Tryz.ntmps88
    go_wp2
    go_ret
    exact ⟨ret_bool (by rw [HT.out]; rfl), Below.refl _ _⟩
  | false =>
    rw [he] at es HT
    clear he
    have HM := Lib.hid (pcs_mem_len s)
    have cS := fun w' => rsplit_mk s w' hs
    have hne : 0 < (pcs s).length := by
      have := splitL_ne 46 s []
      cases h : pcs s with
      | nil => exact absurd h this
      | cons _ _ => simp
    obtain ⟨l, hl⟩ : ∃ l, pcs s = l := ⟨_, rfl⟩
    rw [hl] at cS HM hne HT
    clear hl
    go_enter Tryz.func88, Tryz.ntmps88
    go_wp2_with fail
    refine (cS _).mono ?_
    rintro e w1 ⟨v, rfl, hown, hb1⟩
    obtain ⟨A, cap, rfl, hcell⟩ := ReadsT.of_own hown
    obtain ⟨ad, rfl, hlt, hc⟩ := hcell hne
    have HC := Lib.hid hc
    clear hc hcell hown cS
    by_cases h4 : 4 < l.length
    · have h4i : (4 : Int) < l.length := by omega
      go_wp2
      go_ret
      exact ⟨ret_bool (by rw [HT.out, decide_eq_false (by omega)]; rfl), hb1⟩
    · have h4i : ¬ (4 : Int) < l.length := by omega
      go_wp2
      go_loop [6] (fun x => ∃ k : Nat, k ≤ l.length ∧ x = .int .i64 k ∧ Hid (∀ j (hj : j < l.length), j < k → tagF b l[j] = true)) (fun x => l.length - (intOf x).toNat)
      case atStart => exact ⟨0, by omega, rfl, fun j hj h => by omega⟩
      case round =>
        obtain ⟨k, hk, rfl, HR⟩ := hrel
        by_cases hp : k < l.length
        · have hki : (k : Int) < l.length := by omega
          have hck := HC.out k hp
          have ht : l[k].length ≤ maxLen := by have := HM.out l[k] (List.getElem_mem hp); unfold maxLen; omega
          have cT := fun w' => rtag_mk l[k] w' ht
          have cN := fun w' => rnumber_mk l[k] w' ht
          have cD := fun w' => rnumeric_mk l[k] w' ht
          have HF : Hid (tagF b l[k] = (tagOk l[k] && !(b && numer l[k] && !numI l[k]))) := rfl
          obtain ⟨g1, e1⟩ : ∃ g, tagOk l[k] = g := ⟨_, rfl⟩
          obtain ⟨g2, e2⟩ : ∃ g, numer l[k] = g := ⟨_, rfl⟩
          obtain ⟨g3, e3⟩ : ∃ g, numI l[k] = g := ⟨_, rfl⟩
          rw [e1] at cT HF
          rw [e2] at cD HF
          rw [e3] at cN HF
          clear e1 e2 e3
          cases hf : (g1 && !(b && g2 && !g3)) with
          | true =>
            have HFT : Hid (tagF b l[k] = true) := by show _ = _; rw [HF.out, hf]
            clear HF
            cases g1 <;> cases b <;> cases g2 <;> cases g3 <;> simp at hf
            all_goals
              go_wp2_with (first
                | (go_at_call 103; refine (cT _).mono ?_; rintro e w2 ⟨rfl, rfl⟩)
                | (go_at_call 104; refine (cN _).mono ?_; rintro e w3 ⟨rfl, rfl⟩)
                | (go_at_call 105; refine (cD _).mono ?_; rintro e w4 ⟨rfl, rfl⟩))
              go_round
              case rel => exact ⟨k + 1, by omega, by go_num, fun j hj h => by
                by_cases hjk : j < k
                · exact HR.out j hj hjk
                · obtain rfl : j = k := by omega
                  exact HFT.out⟩
              case measure => simp [intOf]; omega
          | false =>
            have HFT : Hid (tagF b l[k] = false) := by show _ = _; rw [HF.out, hf]
            clear HF
            cases g1 <;> cases b <;> cases g2 <;> cases g3 <;> simp at hf
            all_goals
              go_wp2_with (first
                | (go_at_call 103; refine (cT _).mono ?_; rintro e w2 ⟨rfl, rfl⟩)
                | (go_at_call 104; refine (cN _).mono ?_; rintro e w3 ⟨rfl, rfl⟩)
                | (go_at_call 105; refine (cD _).mono ?_; rintro e w4 ⟨rfl, rfl⟩))
              go_ret
              exact ⟨ret_bool (by rw [HT.out, all_cut k hp HFT.out]; simp), hb1⟩
        · have hki : ¬ (k : Int) < l.length := by omega
          have hall := all_done (l := l) (p := tagF b) (fun j hj => HR.out j hj (by omega))
          have HA := Lib.hid hall
          clear hall
          go_wp2
          go_ret
          exact ⟨ret_bool (by rw [HT.out, HA.out, decide_eq_true (by omega)]; rfl), hb1⟩

set_option maxHeartbeats 4000000 in
set_option maxRecDepth 100000 in
theorem rmay_any (v : Ver) (w : World) (hp : v.pre.length ≤ 1000000) (hq : v.build.length ≤ 1000000) :
    Calls Tryz.prog 68 #[verV v] w fun e w' => e = .returned (.bool v.may) ∧ Below w.heap.size w w' := by
  have HM : Hid (v.may = (numOkI v.maj && numOkI v.min && numOkI v.pat && tagsB v.pre true && tagsB v.build false)) := by
    show _ = _
    rw [tagsB_pre, tagsB_build]; rfl
  have cP := fun w' => rtags_any v.pre true w' hp
  have cQ := fun w' => rtags_any v.build false w' hq
  have c1 := fun w' => rnum_any v.maj w'
  have c2 := fun w' => rnum_any v.min w'
  have c3 := fun w' => rnum_any v.pat w'
  obtain ⟨m, hm⟩ : ∃ m, v.may = m := ⟨_, rfl⟩
  rw [hm] at HM ⊢
  obtain ⟨g1, e1⟩ : ∃ g, numOkI v.maj = g := ⟨_, rfl⟩
  obtain ⟨g2, e2⟩ : ∃ g, numOkI v.min = g := ⟨_, rfl⟩
  obtain ⟨g3, e3⟩ : ∃ g, numOkI v.pat = g := ⟨_, rfl⟩
  obtain ⟨g4, e4⟩ : ∃ g, tagsB v.pre true = g := ⟨_, rfl⟩
  obtain ⟨g5, e5⟩ : ∃ g, tagsB v.build false = g := ⟨_, rfl⟩
  rw [e1, e2, e3, e4, e5] at HM
  rw [e1] at c1
  rw [e2] at c2
  rw [e3] at c3
  rw [e4] at cP
  rw [e5] at cQ
  clear e1 e2 e3 e4 e5 hm
  obtain ⟨a, b, c, p, q⟩ := v
  unfold verV
  dsimp only at c1 c2 c3 cP cQ ⊢
  have hcases : g1 = false ∨ (g1 = true ∧ g2 = false) ∨ (g1 = true ∧ g2 = true ∧ g3 = false) ∨ (g1 = true ∧ g2 = true ∧ g3 = true ∧ g4 = false) ∨ (g1 = true ∧ g2 = true ∧ g3 = true ∧ g4 = true) := by
    cases g1 <;> cases g2 <;> cases g3 <;> cases g4 <;> simp
  rcases hcases with rfl | ⟨rfl, rfl⟩ | ⟨rfl, rfl, rfl⟩ | ⟨rfl, rfl, rfl, rfl⟩ | ⟨rfl, rfl, rfl, rfl⟩
  · go_enter Tryz.func68, Tryz.ntmps68
    go_wp2_with fail
    refine (c1 _).mono ?_
    rintro e w1 ⟨rfl, rfl⟩
    go_wp2
    go_ret
    exact ⟨ret_bool (by rw [HM.out]; rfl), (Below.refl _ _).alloc (Nat.le_refl _) _⟩
  · go_enter Tryz.func68, Tryz.ntmps68
    go_wp2_with fail
    refine (c1 _).mono ?_
    rintro e w1 ⟨rfl, rfl⟩
    go_wp2_with fail
    refine (c2 _).mono ?_
    rintro e w1 ⟨rfl, rfl⟩
    go_wp2
    go_ret
    exact ⟨ret_bool (by rw [HM.out]; rfl), (Below.refl _ _).alloc (Nat.le_refl _) _⟩
  · go_enter Tryz.func68, Tryz.ntmps68
    go_wp2_with fail
    refine (c1 _).mono ?_
    rintro e w1 ⟨rfl, rfl⟩
    go_wp2_with fail
    refine (c2 _).mono ?_
    rintro e w1 ⟨rfl, rfl⟩
    go_wp2_with fail
    refine (c3 _).mono ?_
    rintro e w1 ⟨rfl, rfl⟩
    go_wp2
    go_ret
    exact ⟨ret_bool (by rw [HM.out]; rfl), (Below.refl _ _).alloc (Nat.le_refl _) _⟩
  · go_enter Tryz.func68, Tryz.ntmps68
    go_wp2_with fail
    refine (c1 _).mono ?_
    rintro e w1 ⟨rfl, rfl⟩
    go_wp2_with fail
    refine (c2 _).mono ?_
    rintro e w1 ⟨rfl, rfl⟩
    go_wp2_with fail
    refine (c3 _).mono ?_
    rintro e w1 ⟨rfl, rfl⟩
    go_wp2_with fail
    refine (cP _).mono ?_
    rintro e w1 ⟨rfl, hb1⟩
    go_wp2
    go_ret
    exact ⟨ret_bool (by rw [HM.out]; rfl), ((Below.refl _ _).alloc (Nat.le_refl _) _).trans (hb1.mono (by simp))⟩
  · go_enter Tryz.func68, Tryz.ntmps68
    go_wp2_with fail
    refine (c1 _).mono ?_
    rintro e w1 ⟨rfl, rfl⟩
    go_wp2_with fail
    refine (c2 _).mono ?_
    rintro e w1 ⟨rfl, rfl⟩
    go_wp2_with fail
    refine (c3 _).mono ?_
    rintro e w1 ⟨rfl, rfl⟩
    go_wp2_with fail
    refine (cP _).mono ?_
    rintro e w1 ⟨rfl, hb1⟩
    obtain ⟨k4, m4⟩ := box_cells hb1 4 (by simp)
    simp only [List.getElem_toArray, List.getElem_cons_succ, List.getElem_cons_zero] at k4
    have hbw : Below w.heap.size w w1 := ((Below.refl _ _).alloc (Nat.le_refl _) _).trans (hb1.mono (by simp))
    go_wp2_with fail
    refine (cQ _).mono ?_
    rintro e w2 ⟨rfl, hb2⟩
    go_wp2
    go_ret
    exact ⟨ret_bool (by rw [HM.out]; rfl), hbw.trans (hb2.mono hbw.size)⟩
end Go.Proofs.YtmlecnomdamgnaaGreat
end

section
/-
  The document's own answer for chapter 2 (linchpinref2): Ints, Texts, one, pres, Compare and Core. Conditions: strings of at most a million bytes.
-/
namespace Go.Proofs.YtmlecnomdamgnaaGreat
open Go.RowKit

theorem below_drew2 {B : Nat} {a w : World} (h : Below B a w) : Below B a w.drew := h.drew
theorem rints_any (a b : Int) (w : World) :
    Calls Tryz.prog 61 #[.int .i64 a, .int .i64 b] w fun e w' => e = .returned (.int .i64 (Lib.compareInt a b)) ∧ w = w' := by
  by_cases h1 : a < b
  · have HV : Hid (Lib.compareInt a b = -1) := by show _ = _; unfold Lib.compareInt; rw [if_pos h1]
    go_enter Tryz.func61, Tryz.ntmps61
    go_wp2
    go_ret
    exact ⟨ret_int HV.out.symm, rfl⟩
  · by_cases h2 : b < a
    · have HV : Hid (Lib.compareInt a b = 1) := by show _ = _; unfold Lib.compareInt; rw [if_neg h1, if_pos h2]
      go_enter Tryz.func61, Tryz.ntmps61
      go_wp2
      go_ret
      exact ⟨ret_int HV.out.symm, rfl⟩
    · have HV : Hid (Lib.compareInt a b = 0) := by show _ = _; unfold Lib.compareInt; rw [if_neg h1, if_neg h2]
      go_enter Tryz.func61, Tryz.ntmps61
      go_wp2
      go_ret
      exact ⟨ret_int HV.out.symm, rfl⟩

theorem less_cmp (a : List UInt8) : ∀ b, Op.bytesLess a b = decide (Lib.compareBytes a b = -1) := by
  induction a with
  | nil => intro b; cases b <;> simp [Op.bytesLess, Lib.compareBytes]
  | cons x l ih =>
    intro b
    cases b with
    | nil => simp [Op.bytesLess, Lib.compareBytes]
    | cons y m =>
      rw [Op.bytesLess, Lib.compareBytes, ih]
      by_cases h1 : x < y
      · simp [h1]
      · by_cases h2 : y < x
        · simp [h1, h2]
          intro e; subst e; exact absurd h2 h1
        · have e : x = y := UInt8.le_antisymm (UInt8.not_lt.1 h2) (UInt8.not_lt.1 h1)
          simp [e]
theorem cmpB_zero (a : List UInt8) : ∀ b, Lib.compareBytes a b = 0 ↔ a = b := by
  induction a with
  | nil => intro b; cases b <;> simp [Lib.compareBytes]
  | cons x l ih =>
    intro b
    cases b with
    | nil => simp [Lib.compareBytes]
    | cons y m =>
      rw [Lib.compareBytes]
      by_cases h1 : x < y
      · simp [h1]; intro e; subst e; exact absurd h1 (UInt8.lt_irrefl _)
      · by_cases h2 : y < x
        · simp [h1, h2]; intro e; subst e; exact absurd h2 (UInt8.lt_irrefl _)
        · have e : x = y := UInt8.le_antisymm (UInt8.not_lt.1 h2) (UInt8.not_lt.1 h1)
          simp [e, ih]
theorem cmpB_range (a : List UInt8) : ∀ b, Lib.compareBytes a b = -1 ∨ Lib.compareBytes a b = 0 ∨ Lib.compareBytes a b = 1 := by
  induction a with
  | nil => intro b; cases b <;> simp [Lib.compareBytes]
  | cons x l ih =>
    intro b
    cases b with
    | nil => simp [Lib.compareBytes]
    | cons y m =>
      rw [Lib.compareBytes]
      split
      · simp
      · split
        · simp
        · exact ih m
theorem rtexts_any (a b : List UInt8) (w : World) :
    Calls Tryz.prog 106 #[.string (mkS a), .string (mkS b)] w fun e w' => e = .returned (.int .i64 (Lib.compareBytes a b)) ∧ w = w' := by
  have hl := less_cmp a b
  have ha : (mkS a).toList = a := by rw [Lib.toList_data, mk_data]
  have hb : (mkS b).toList = b := by rw [Lib.toList_data, mk_data]
  have he : (a == b) = decide (Lib.compareBytes a b = 0) := by
    rw [Bool.eq_iff_iff]; simp [cmpB_zero]
  have hr := cmpB_range a b
  obtain ⟨x, hx⟩ : ∃ x, Lib.compareBytes a b = x := ⟨_, rfl⟩
  rw [hx] at hl he hr ⊢
  have hl2 : Op.bytesLess (mkS a).toList (mkS b).toList = decide (x = -1) := by rw [ha, hb]; exact hl
  have he2 : ((mkS a).toList == (mkS b).toList) = decide (x = 0) := by rw [ha, hb]; exact he
  clear ha hb hl he hx
  rcases hr with rfl | rfl | rfl
  · have a1 : Op.bytesLess (mkS a).toList (mkS b).toList = true := hl2
    have a2 : ((mkS a).toList == (mkS b).toList) = false := he2
    clear hl2 he2
    go_enter Tryz.func106, Tryz.ntmps106
    go_wp2
    go_ret
    exact ⟨rfl, rfl⟩
  · have a1 : Op.bytesLess (mkS a).toList (mkS b).toList = false := hl2
    have a2 : ((mkS a).toList == (mkS b).toList) = true := he2
    clear hl2 he2
    go_enter Tryz.func106, Tryz.ntmps106
    go_wp2
    go_ret
    exact ⟨rfl, rfl⟩
  · have a1 : Op.bytesLess (mkS a).toList (mkS b).toList = false := hl2
    have a2 : ((mkS a).toList == (mkS b).toList) = false := he2
    clear hl2 he2
    go_enter Tryz.func106, Tryz.ntmps106
    go_wp2
    go_ret
    exact ⟨rfl, rfl⟩

set_option maxHeartbeats 2000000 in
theorem rone_any (a b : List UInt8) (w : World) (ha : a.length ≤ 1000000) (hb : b.length ≤ 1000000) :
    Calls Tryz.prog 90 #[.string (mkS a), .string (mkS b)] w fun e w' => e = .returned (.int .i64 (oneR a b)) ∧ w = w' := by
  have la : a.length ≤ maxLen := by unfold maxLen; omega
  have lb : b.length ≤ maxLen := by unfold maxLen; omega
  have HO : Hid (oneR a b = if numer a && numer b then Lib.compareInt (numD a) (numD b) else if numer a then -1 else if numer b then 1 else Lib.compareBytes a b) := rfl
  obtain ⟨o, ho⟩ : ∃ o, oneR a b = o := ⟨_, rfl⟩
  rw [ho] at HO ⊢
  clear ho
  have nA := fun w' => rnumeric_mk a w' la
  have nB := fun w' => rnumeric_mk b w' lb
  have vA := fun w' => rnumber_mk a w' la
  have vB := fun w' => rnumber_mk b w' lb
  have cI := fun w' => rints_any (numD a) (numD b) w'
  have cT := fun w' => rtexts_any a b w'
  obtain ⟨g1, d1⟩ : ∃ g, numer a = g := ⟨_, rfl⟩
  obtain ⟨g2, d2⟩ : ∃ g, numer b = g := ⟨_, rfl⟩
  obtain ⟨x, dx⟩ : ∃ g, Lib.compareInt (numD a) (numD b) = g := ⟨_, rfl⟩
  obtain ⟨y, dy⟩ : ∃ g, Lib.compareBytes a b = g := ⟨_, rfl⟩
  rw [dx] at HO cI
  rw [dy] at HO cT
  rw [d1] at nA HO
  rw [d2] at nB HO
  obtain ⟨na, ea⟩ : ∃ n, numD a = n := ⟨_, rfl⟩
  obtain ⟨nb, eb⟩ : ∃ n, numD b = n := ⟨_, rfl⟩
  rw [ea] at vA cI
  rw [eb] at vB cI
  clear dx dy d1 d2 ea eb
  cases g1 <;> cases g2
  all_goals
    go_enter Tryz.func90, Tryz.ntmps90
    go_wp2_with fail
    refine (nA _).mono ?_
    rintro e w1 ⟨rfl, rfl⟩
    go_wp2_with fail
    refine (nB _).mono ?_
    rintro e w1 ⟨rfl, rfl⟩
    go_wp2_with (first
      | (go_at_call 106; refine (cT _).mono ?_; rintro e w1 ⟨rfl, rfl⟩)
      | (go_at_call 104; with_reducible refine (vA _).mono ?_; rintro e w1 ⟨rfl, rfl⟩)
      | (go_at_call 104; with_reducible refine (vB _).mono ?_; rintro e w1 ⟨rfl, rfl⟩)
      | (go_at_call 61; refine (cI _).mono ?_; rintro e w1 ⟨rfl, rfl⟩))
    go_ret
    exact ⟨ret_int (by rw [HO.out]; simp), rfl⟩

theorem presL_end (l m : List (List UInt8)) (k : Nat) (hl : k ≤ l.length) (hm : k ≤ m.length) (h : ¬ (k < l.length ∧ k < m.length)) : presL (l.drop k) (m.drop k) = Lib.compareInt l.length m.length := by
  unfold Lib.compareInt
  by_cases h1 : k < l.length
  · have h2 : ¬ k < m.length := fun h2 => h ⟨h1, h2⟩
    rw [List.drop_eq_nil_of_le (by omega : m.length ≤ k), List.drop_eq_getElem_cons h1, presL, if_neg (by omega), if_pos (by omega)]
  · by_cases h2 : k < m.length
    · rw [List.drop_eq_nil_of_le (by omega : l.length ≤ k), List.drop_eq_getElem_cons h2, presL, if_pos (by omega)]
    · rw [List.drop_eq_nil_of_le (by omega : m.length ≤ k), List.drop_eq_nil_of_le (by omega : l.length ≤ k), presL, if_neg (by omega), if_neg (by omega)]
theorem presL_on (l m : List (List UInt8)) (k : Nat) (h1 : k < l.length) (h2 : k < m.length) (h : oneR l[k] m[k] = 0) : presL (l.drop k) (m.drop k) = presL (l.drop (k + 1)) (m.drop (k + 1)) := by
  rw [List.drop_eq_getElem_cons h1, List.drop_eq_getElem_cons h2, presL, if_neg (by simpa using h)]
theorem presL_off (l m : List (List UInt8)) (k : Nat) (h1 : k < l.length) (h2 : k < m.length) (h : ¬ oneR l[k] m[k] = 0) : presL (l.drop k) (m.drop k) = oneR l[k] m[k] := by
  rw [List.drop_eq_getElem_cons h1, List.drop_eq_getElem_cons h2, presL, if_pos h]
theorem own_cells {w : World} {base : Nat} {v : Value} {l : List (List UInt8)} (h : w.ownsRow base 9 1 v l.length (strV l)) (hl : 0 < l.length) :
    ∃ g cap, v = .slice (some ⟨g, 0, none⟩) l.length cap ∧ g < w.heap.size ∧ ∀ j (hj : j < l.length), w.cell? ⟨g, j, none⟩ = some (.string (mkS l[j])) := by
  rcases h.2 with ⟨_, h0⟩ | ⟨g, cap, cur, hv, hg, hh, hn, _⟩
  · omega
  · refine ⟨g, cap, hv, (Array.getElem?_eq_some_iff.1 hh).1, fun j hj => ?_⟩
    have h := h.cells (g := g) (by rw [hv]; rfl) j (.string (mkS l[j])) (by unfold strV; rw [List.getElem?_map, List.getElem?_eq_getElem hj]; rfl)
    have ha : (⟨g, 0, none⟩ : Addr).add j = ⟨g, j, none⟩ := by unfold Addr.add; split <;> simp_all
    rwa [ha] at h
theorem pcs_pos (s : List UInt8) : 0 < (pcs s).length := by
  have := splitL_ne 46 s []
  cases h : pcs s with
  | nil => exact absurd h this
  | cons _ _ => simp

set_option maxHeartbeats 4000000 in
set_option maxRecDepth 100000 in
theorem rpres_go (a b : List UInt8) (w : World) (ha : a.length ≤ 1000000) (hb : b.length ≤ 1000000) (n0 : a ≠ b) (na : a ≠ []) (nb : b ≠ []) :
    Calls Tryz.prog 69 #[.string (mkS a), .string (mkS b)] w fun e w' => e = .returned (.int .i64 (presL (pcs a) (pcs b))) ∧ Below w.heap.size w w' := by
  have e0 : ((mkS a).toList == (mkS b).toList) = false := by rw [Lib.toList_data, Lib.toList_data, mk_data, mk_data]; simpa using n0
  have ea : (mkS a).toList.isEmpty = false := by rw [Lib.toList_data, mk_data]; exact List.isEmpty_eq_false_iff.2 na
  have eb : (mkS b).toList.isEmpty = false := by rw [Lib.toList_data, mk_data]; exact List.isEmpty_eq_false_iff.2 nb
  have cA := fun w' => rsplit_mk a w' ha
  have cB := fun w' => rsplit_mk b w' hb
  have HA := Lib.hid (pcs_mem_len a)
  have HB := Lib.hid (pcs_mem_len b)
  have pa := pcs_pos a
  have pb := pcs_pos b
  have la := pcs_len a
  have lb := pcs_len b
  obtain ⟨l, hl⟩ : ∃ l, pcs a = l := ⟨_, rfl⟩
  obtain ⟨m, hm⟩ : ∃ l, pcs b = l := ⟨_, rfl⟩
  rw [hl] at cA HA pa la ⊢
  rw [hm] at cB HB pb lb ⊢
  clear n0 na nb hl hm
  go_enter Tryz.func69, Tryz.ntmps69
  go_wp2_with fail
  refine (cA _).mono ?_
  rintro e w1 ⟨v, rfl, hown1, hb1⟩
  obtain ⟨g1, cap1, rfl, hg1, hc1⟩ := own_cells hown1 pa
  go_wp2_with fail
  refine (cB _).mono ?_
  rintro e w2 ⟨v, rfl, hown2, hb2⟩
  obtain ⟨g2, cap2, rfl, hg2, hc2⟩ := own_cells hown2 pb
  have HC1 : Hid (∀ j (hj : j < l.length), w2.cell? ⟨g1, j, none⟩ = some (.string (mkS l[j]))) := fun j hj => (hb2.cell (p := ⟨g1, j, none⟩) hg1).trans (hc1 j hj)
  have HC2 := Lib.hid hc2
  have hg12 : g1 < w2.heap.size := Nat.lt_of_lt_of_le hg1 hb2.size
  have hbw : Below w.heap.size w w2 := hb1.trans (hb2.mono hb1.size)
  clear hc1 hc2 hown1 hown2 hb1 hb2 cA cB
  go_wp2
  go_loopw [7] (fun x wr => ∃ k : Nat, k ≤ l.length ∧ k ≤ m.length ∧ x = .int .i64 k ∧ Below w2.heap.size w2 wr ∧ Hid (presL (l.drop k) (m.drop k) = presL l m)) (fun x _ => l.length - (intOf x).toNat)
  case atStart => exact ⟨0, by omega, by omega, rfl, Below.refl _ _, rfl⟩
  case round =>
    obtain ⟨k, hk1, hk2, rfl, hbel, HR⟩ := hrel
    by_cases h1 : k < l.length
    · by_cases h2 : k < m.length
      · have i1 : (k : Int) < l.length := by omega
        have i2 : (k : Int) < m.length := by omega
        have q1 := (hbel.cell (p := ⟨g1, k, none⟩) hg12).trans (HC1.out k h1)
        have q2 := (hbel.cell (p := ⟨g2, k, none⟩) hg2).trans (HC2.out k h2)
        have t1 := Nat.le_trans (HA.out l[k] (List.getElem_mem h1)) ha
        have t2 := Nat.le_trans (HB.out m[k] (List.getElem_mem h2)) hb
        have cO := fun w' => rone_any l[k] m[k] w' t1 t2
        obtain ⟨o, ho⟩ : ∃ o, oneR l[k] m[k] = o := ⟨_, rfl⟩
        rw [ho] at cO
        by_cases h0 : o = 0
        · have HQ : Hid (presL (l.drop (k + 1)) (m.drop (k + 1)) = presL l m) := by show _ = _; rw [← HR.out, presL_on l m k h1 h2 (ho.trans h0)]
          subst h0
          clear ho
          go_wp2_with fail
          go_region_with (go_at_call 90; refine (cO _).mono ?_; rintro e w4 ⟨rfl, rfl⟩)
          all_goals
            go_wp2
            go_roundw
            case rel => exact ⟨k + 1, by omega, by omega, by go_num, below_drew2 hbel, HQ.out⟩
            case measure => simp [intOf]; omega
        · have HQ : Hid (o = presL l m) := by show _ = _; rw [← HR.out, presL_off l m k h1 h2 (by rw [ho]; exact h0), ho]
          have h0b : (o != 0) = true := by simpa using h0
          clear ho
          go_wp2_with fail
          go_region_with (go_at_call 90; refine (cO _).mono ?_; rintro e w4 ⟨rfl, rfl⟩)
          all_goals
            go_wp2
            go_ret
            exact ⟨ret_int HQ.out, hbw.trans ((below_drew2 hbel).mono hbw.size)⟩
      · have i1 : (k : Int) < l.length := by omega
        have i2 : ¬ (k : Int) < m.length := by omega
        have HQ : Hid (Lib.compareInt l.length m.length = presL l m) := by show _ = _; rw [← HR.out, presL_end l m k hk1 hk2 (fun h => h2 h.2)]
        go_wp2_with (go_at_call 61; refine (rints_any _ _ _).mono ?_; rintro e w4 ⟨rfl, rfl⟩)
        go_ret
        exact ⟨ret_int HQ.out, hbw.trans (hbel.mono hbw.size)⟩
    · have i1 : ¬ (k : Int) < l.length := by omega
      have HQ : Hid (Lib.compareInt l.length m.length = presL l m) := by show _ = _; rw [← HR.out, presL_end l m k hk1 hk2 (fun h => h1 h.1)]
      go_wp2_with (go_at_call 61; refine (rints_any _ _ _).mono ?_; rintro e w4 ⟨rfl, rfl⟩)
      go_ret
      exact ⟨ret_int HQ.out, hbw.trans (hbel.mono hbw.size)⟩

theorem rpres_any (a b : List UInt8) (w : World) (ha : a.length ≤ 1000000) (hb : b.length ≤ 1000000) :
    Calls Tryz.prog 69 #[.string (mkS a), .string (mkS b)] w fun e w' => e = .returned (.int .i64 (presR a b)) ∧ Below w.heap.size w w' := by
  by_cases h0 : a = b
  · have e0 : ((mkS a).toList == (mkS b).toList) = true := by rw [h0]; simp
    have HC : Hid (presR a b = 0) := by show _ = _; unfold presR; rw [if_pos h0]
    clear h0
    go_enter Tryz.func69, Tryz.ntmps69
    go_wp2
    go_ret
    exact ⟨ret_int HC.out.symm, Below.refl _ _⟩
  · have e0 : ((mkS a).toList == (mkS b).toList) = false := by rw [Lib.toList_data, Lib.toList_data, mk_data, mk_data]; simpa using h0
    by_cases h1 : a = []
    · have ea : (mkS a).toList.isEmpty = true := by rw [Lib.toList_data, mk_data, h1]; rfl
      have HC : Hid (presR a b = 1) := by show _ = _; unfold presR; rw [if_neg h0, if_pos h1]
      clear h0 h1
      go_enter Tryz.func69, Tryz.ntmps69
      go_wp2
      go_ret
      exact ⟨ret_int HC.out.symm, Below.refl _ _⟩
    · have ea : (mkS a).toList.isEmpty = false := by rw [Lib.toList_data, mk_data]; exact List.isEmpty_eq_false_iff.2 h1
      by_cases h2 : b = []
      · have eb : (mkS b).toList.isEmpty = true := by rw [Lib.toList_data, mk_data, h2]; rfl
        have HC : Hid (presR a b = -1) := by show _ = _; unfold presR; rw [if_neg h0, if_neg h1, if_pos h2]
        clear h0 h1 h2
        go_enter Tryz.func69, Tryz.ntmps69
        go_wp2
        go_ret
        exact ⟨ret_int HC.out.symm, Below.refl _ _⟩
      · have hc : presR a b = presL (pcs a) (pcs b) := by unfold presR; rw [if_neg h0, if_neg h1, if_neg h2]
        rw [hc]
        exact rpres_go a b w ha hb h0 h1 h2

theorem cmpR_split (v u : Ver) : cmpR v u = if v.may && u.may then (if Lib.compareInt v.maj u.maj ≠ 0 then Lib.compareInt v.maj u.maj else if Lib.compareInt v.min u.min ≠ 0 then Lib.compareInt v.min u.min else if Lib.compareInt v.pat u.pat ≠ 0 then Lib.compareInt v.pat u.pat else presR v.pre u.pre) else 0 := by
  unfold cmpR cmpN
  by_cases h : (v.may && u.may) = true
  · rw [if_pos h, if_pos h]
    by_cases h1 : Lib.compareInt v.maj u.maj = 0
    · by_cases h2 : Lib.compareInt v.min u.min = 0
      · simp [h1, h2]
      · simp [h1, h2]
    · simp [h1]
  · rw [if_neg h, if_neg h]

set_option maxHeartbeats 8000000 in
set_option maxRecDepth 100000 in
theorem rcompare_any (v u : Ver) (w : World) (h1 : v.pre.length ≤ 1000000) (h2 : v.build.length ≤ 1000000) (h3 : u.pre.length ≤ 1000000) (h4 : u.build.length ≤ 1000000) :
    Calls Tryz.prog 62 #[verV v, verV u] w fun e w' => e = .returned (.int .i64 (cmpR v u)) ∧ Below w.heap.size w w' := by
  have HC := Lib.hid (cmpR_split v u)
  have cM := fun w' => rmay_any v w' h1 h2
  have cN := fun w' => rmay_any u w' h3 h4
  have i1 := fun w' => rints_any v.maj u.maj w'
  have i2 := fun w' => rints_any v.min u.min w'
  have i3 := fun w' => rints_any v.pat u.pat w'
  have cP := fun w' => rpres_any v.pre u.pre w' h1 h3
  obtain ⟨r, hr⟩ : ∃ r, cmpR v u = r := ⟨_, rfl⟩
  obtain ⟨m, hm⟩ : ∃ r, v.may = r := ⟨_, rfl⟩
  obtain ⟨n, hn⟩ : ∃ r, u.may = r := ⟨_, rfl⟩
  obtain ⟨o1, ho1⟩ : ∃ r, Lib.compareInt v.maj u.maj = r := ⟨_, rfl⟩
  obtain ⟨o2, ho2⟩ : ∃ r, Lib.compareInt v.min u.min = r := ⟨_, rfl⟩
  obtain ⟨o3, ho3⟩ : ∃ r, Lib.compareInt v.pat u.pat = r := ⟨_, rfl⟩
  obtain ⟨o4, ho4⟩ : ∃ r, presR v.pre u.pre = r := ⟨_, rfl⟩
  rw [hr, hm, hn, ho1, ho2, ho3, ho4] at HC
  rw [hr]
  rw [hm] at cM
  rw [hn] at cN
  rw [ho1] at i1
  rw [ho2] at i2
  rw [ho3] at i3
  rw [ho4] at cP
  clear hr hm hn ho1 ho2 ho3 ho4
  obtain ⟨a1, a2, a3, p, q⟩ := v
  obtain ⟨b1, b2, b3, p', q'⟩ := u
  unfold verV at cM cN ⊢
  dsimp only at cM cN i1 i2 i3 cP ⊢
  cases m with
  | false =>
    go_enter Tryz.func62, Tryz.ntmps62
    go_wp2_with (go_at_call 68; with_reducible refine (cM _).mono ?_; rintro e w1 ⟨rfl, hb1⟩)
    go_ret
    exact ⟨ret_int (by rw [HC.out]; simp), (((Below.refl _ _).alloc (Nat.le_refl _) _).alloc (by simp) _).trans (hb1.mono (by simp; omega))⟩
  | true =>
    go_enter Tryz.func62, Tryz.ntmps62
    go_wp2_with fail
    refine (cM _).mono ?_
    rintro e w1 ⟨rfl, hb1⟩
    have hz1 := hb1.size
    simp only [size_box] at hz1
    have hgA := Lib.hid ((hb1.block w.heap.size (by simp only [size_box]; omega)).trans ((heap_old _ _ (by simp only [size_box]; omega)).trans (heap_new w _)))
    have hgB := Lib.hid ((hb1.block (w.heap.size + 1) (by simp only [size_box]; omega)).trans (heap_at _ _ _ (by simp only [size_box])))
    have hbw : Below w.heap.size w w1 := (((Below.refl _ _).alloc (Nat.le_refl _) _).alloc (by simp only [size_box]; omega) _).trans (hb1.mono (by simp only [size_box]; omega))
    clear hb1 cM
    obtain ⟨y0, _⟩ := cell_row (j := 0) hgB.out (by simp)
    obtain ⟨y1, _⟩ := cell_row (j := 1) hgB.out (by simp)
    obtain ⟨y2, _⟩ := cell_row (j := 2) hgB.out (by simp)
    obtain ⟨y3, _⟩ := cell_row (j := 3) hgB.out (by simp)
    obtain ⟨y4, _⟩ := cell_row (j := 4) hgB.out (by simp)
    simp only [List.getElem_toArray, List.getElem_cons_succ, List.getElem_cons_zero] at y0 y1 y2 y3 y4
    go_wp2_with fail
    refine (cN _).mono ?_
    rintro e w2 ⟨rfl, hb2⟩
    have hbw2 : Below w.heap.size w w2 := hbw.trans (hb2.mono hbw.size)
    cases n with
    | false =>
      go_wp2
      go_ret
      exact ⟨ret_int (by rw [HC.out]; simp), hbw2⟩
    | true =>
      have hA := (hb2.block w.heap.size (by omega)).trans hgA.out
      have hB := (hb2.block (w.heap.size + 1) (by omega)).trans hgB.out
      obtain ⟨k0, _⟩ := cell_row (j := 0) hA (by simp)
      obtain ⟨k1, _⟩ := cell_row (j := 1) hA (by simp)
      obtain ⟨k2, _⟩ := cell_row (j := 2) hA (by simp)
      obtain ⟨k3, _⟩ := cell_row (j := 3) hA (by simp)
      obtain ⟨m0, _⟩ := cell_row (j := 0) hB (by simp)
      obtain ⟨m1, _⟩ := cell_row (j := 1) hB (by simp)
      obtain ⟨m2, _⟩ := cell_row (j := 2) hB (by simp)
      obtain ⟨m3, _⟩ := cell_row (j := 3) hB (by simp)
      simp only [List.getElem_toArray, List.getElem_cons_succ, List.getElem_cons_zero] at k0 k1 k2 k3 m0 m1 m2 m3
      clear hA hB hb2 cN
      by_cases z1 : o1 = 0
      · by_cases z2 : o2 = 0
        · by_cases z3 : o3 = 0
          · subst z1 z2 z3
            go_wp2_with fail
            refine (i1 _).mono ?_
            rintro e w3 ⟨rfl, rfl⟩
            go_wp2_with fail
            refine (i2 _).mono ?_
            rintro e w3 ⟨rfl, rfl⟩
            go_wp2_with fail
            refine (i3 _).mono ?_
            rintro e w3 ⟨rfl, rfl⟩
            go_wp2_with fail
            refine (cP _).mono ?_
            rintro e w3 ⟨rfl, hb3⟩
            go_wp2
            go_ret
            exact ⟨ret_int (by rw [HC.out]; simp), hbw2.trans (hb3.mono hbw2.size)⟩
          · have z3b : (o3 != 0) = true := by simpa using z3
            have Z3 := Lib.hid z3
            subst z1 z2
            clear z3
            go_wp2_with fail
            refine (i1 _).mono ?_
            rintro e w3 ⟨rfl, rfl⟩
            go_wp2_with fail
            refine (i2 _).mono ?_
            rintro e w3 ⟨rfl, rfl⟩
            go_wp2_with fail
            refine (i3 _).mono ?_
            rintro e w3 ⟨rfl, rfl⟩
            go_wp2
            go_ret
            exact ⟨ret_int (by rw [HC.out]; simp [Z3.out]), hbw2⟩
        · have z2b : (o2 != 0) = true := by simpa using z2
          have Z2 := Lib.hid z2
          subst z1
          clear z2
          go_wp2_with fail
          refine (i1 _).mono ?_
          rintro e w3 ⟨rfl, rfl⟩
          go_wp2_with fail
          refine (i2 _).mono ?_
          rintro e w3 ⟨rfl, rfl⟩
          go_wp2
          go_ret
          exact ⟨ret_int (by rw [HC.out]; simp [Z2.out]), hbw2⟩
      · have z1b : (o1 != 0) = true := by simpa using z1
        have Z1 := Lib.hid z1
        clear z1
        go_wp2_with fail
        refine (i1 _).mono ?_
        rintro e w3 ⟨rfl, rfl⟩
        go_wp2
        go_ret
        exact ⟨ret_int (by rw [HC.out]; simp [Z1.out]), hbw2⟩

end Go.Proofs.YtmlecnomdamgnaaGreat
end
