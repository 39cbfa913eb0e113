/-
  A region that draws its order, whose operations but the last ones write nothing: the first ones in the order of the text, then the last ones, one behind the other. No condition.
-/
import Derived.Test.YtjgmmeienchfnaaRx
namespace Go.Proofs.Ytjgmmeienchfnaa
open Go.RowKit
set_option linter.unusedVariables false
set_option linter.unusedSimpArgs false

def backB (md : Region.Mode) (l : List Oper) (i : Nat) : Bool :=
  match l[i]? with
  | some o => o.after.all fun e => !(Region.binds md e) || decide (e.on < i)
  | none => false
def waitB (md : Region.Mode) (l : List Oper) (t i : Nat) : Bool :=
  match l[t]? with
  | some o => o.after.any fun e => Region.binds md e && e.on == i
  | none => false
def inB (l : List Oper) (m i : Nat) : Bool :=
  match l[i]? with
  | some o => match o.guard with | some (g, _) => decide (g < m) | none => true
  | none => false
def preB (md : Region.Mode) (l : List Oper) (m : Nat) : Bool :=
  decide (m ≤ l.length) && (List.range l.length).all (fun i => backB md l i) && (List.range m).all (fun i => inB l m i && (decide (l.length ≤ m) || waitB md l m i)) && (List.range l.length).all fun t => decide (t ≤ m) || waitB md l t (t - 1)
section
variable {P : Program} {md : Region.Mode} {l : List Oper} {m : Nat}
structure PreOk (md : Region.Mode) (l : List Oper) (m : Nat) : Prop where
  le : m ≤ l.length
  back : ∀ i o, l[i]? = some o → ∀ e ∈ o.after, Region.binds md e = true → e.on < i
  inn : ∀ i o g b, i < m → l[i]? = some o → o.guard = some (g, b) → g < m
  first : ∀ i o, i < m → l[m]? = some o → ∃ e ∈ o.after, Region.binds md e = true ∧ e.on = i
  chain : ∀ t o, m < t → l[t]? = some o → ∃ e ∈ o.after, Region.binds md e = true ∧ e.on = t - 1
theorem waitB_spec {t i : Nat} {o : Oper} (ho : l[t]? = some o) (h : waitB md l t i = true) : ∃ e ∈ o.after, Region.binds md e = true ∧ e.on = i := by
  unfold waitB at h
  rw [ho] at h
  obtain ⟨e, he, hb⟩ := Array.any_eq_true'.1 h
  simp only [Bool.and_eq_true, beq_iff_eq] at hb
  exact ⟨e, he, hb.1, hb.2⟩
theorem preB_ok (h : preB md l m = true) : PreOk md l m := by
  unfold preB at h
  simp only [Bool.and_eq_true, decide_eq_true_eq, List.all_eq_true, List.mem_range, Bool.or_eq_true] at h
  obtain ⟨⟨⟨h1, h2⟩, h3⟩, h4⟩ := h
  refine ⟨h1, fun i o ho e he hb => ?_, fun i o g b hi ho hg => ?_, fun i o hi ho => ?_, fun t o ht ho => ?_⟩
  · have hi := (List.getElem?_eq_some_iff.1 ho).1
    have := h2 i hi
    unfold backB at this
    rw [ho] at this
    have := Array.all_eq_true_iff_forall_mem.1 this e he
    rw [hb] at this
    simpa using this
  · have := (h3 i hi).1
    unfold inB at this
    rw [ho] at this
    dsimp only at this
    rw [hg] at this
    simpa using this
  · have hm := (List.getElem?_eq_some_iff.1 ho).1
    rcases (h3 i hi).2 with h | h
    · omega
    · exact waitB_spec ho h
  · have hl := (List.getElem?_eq_some_iff.1 ho).1
    rcases h4 t hl with h | h
    · omega
    · exact waitB_spec ho h

/-- What has come up is the first k. -/
def Upto (n k : Nat) (listed : Array Bool) : Prop := listed.size = n ∧ ∀ i, i < n → listed[i]? = some (decide (i < k))
theorem Upto.set {n k : Nat} {listed : Array Bool} (h : Upto n k listed) : Upto n (k + 1) (listed.setIfInBounds k true) := by
  refine ⟨by rw [Array.size_setIfInBounds]; exact h.1, fun i hi => ?_⟩
  rw [Array.getElem?_setIfInBounds]
  by_cases e : k = i
  · subst e
    rw [if_pos rfl, if_pos (by rw [h.1]; exact hi)]
    simp
  · rw [if_neg e, h.2 i hi]
    congr 1
    exact decide_eq_decide.2 (by omega)
theorem at_getD {a : Array Bool} {i : Nat} {b d : Bool} (h : a[i]? = some b) : a.getD i d = b := by rw [Array.getD_eq_getD_getElem?, h]; rfl
theorem ready_upto (hp : PreOk md l m) {k : Nat} {listed : Array Bool} (hk : m ≤ k) (h : Upto l.length k listed) : ∀ i, i ∈ Region.ready md l.toArray listed ↔ (i = k ∧ k < l.length) := by
  intro i
  rw [mem_ready]
  constructor
  · rintro ⟨h1, o, ho, h2⟩
    have ho' : l[i]? = some o := by simpa using ho
    have hi := (List.getElem?_eq_some_iff.1 ho').1
    have hki : ¬ i < k := fun hlt => by
      rw [at_getD (h.2 i hi)] at h1
      simp [hlt] at h1
    refine ⟨?_, by omega⟩
    rcases Nat.lt_or_ge k i with hlt | hge
    · obtain ⟨e, he, hb, hon⟩ := hp.chain i o (by omega) ho'
      have := h2 e he hb
      rw [hon, at_getD (h.2 (i - 1) (by omega))] at this
      simp at this
      omega
    · omega
  · rintro ⟨rfl, hlt⟩
    refine ⟨by rw [at_getD (h.2 i hlt)]; simp, l[i], by simp, fun e he hb => ?_⟩
    have := hp.back i l[i] (List.getElem?_eq_getElem hlt) e he hb
    rw [at_getD (h.2 e.on (by omega))]
    simpa using this
theorem any_tail (hp : PreOk md l m) {Q : Exit → Act → World → Prop} : ∀ (d k fuel : Nat) (listed : Array Bool) (a : Act) (w : World), d = l.length - k → m ≤ k → k ≤ l.length → d ≤ fuel → Upto l.length k listed → wpList P l.toArray Q (l.drop k) a w → wpAny P md l.toArray Q fuel listed a w := by
  intro d
  induction d with
  | zero =>
    intro k fuel listed a w hd hk hkl _ hu h
    have hkn : k = l.length := by omega
    have hr : Region.ready md l.toArray listed = [] := by
      apply List.eq_nil_iff_forall_not_mem.2
      intro i hi
      have := (ready_upto hp hk hu i).1 hi
      omega
    have hq : Q .normal a w := by
      rw [hkn, List.drop_length] at h; exact h
    cases fuel with
    | zero => exact ⟨hr, hq⟩
    | succ f => exact ⟨fun _ => hq, fun i hi => by rw [hr] at hi; cases hi⟩
  | succ d ih =>
    intro k fuel listed a w hd hk hkl hf hu h
    have hlt : k < l.length := by omega
    obtain ⟨f, rfl⟩ : ∃ f, fuel = f + 1 := ⟨fuel - 1, by omega⟩
    refine ⟨fun hr => ?_, fun i hi => ?_⟩
    · have := (ready_upto hp hk hu k).2 ⟨rfl, hlt⟩
      rw [hr] at this; cases this
    · obtain ⟨rfl, _⟩ := (ready_upto hp hk hu i).1 hi
      have ho : l.toArray[i]? = some l[i] := by simp
      rw [List.drop_eq_getElem_cons hlt] at h
      have hw : wpOp P l.toArray Q i (wpList P l.toArray Q (l.drop (i + 1))) a w := by unfold wpOp; simp only [ho]; exact h
      exact wpOp_mono (fun a' w' h' => ih (i + 1) f _ a' w' (by omega) (by omega) (by omega) (by omega) hu.set h') hw

/-- The part that has come up of the first m; of the others nothing has. -/
structure Part (n m : Nat) (listed' listed : Array Bool) : Prop where
  size' : listed'.size = m
  size : listed.size = n
  same : ∀ i, i < m → listed[i]? = listed'[i]?
  rest : ∀ t, m ≤ t → t < n → listed[t]? = some false
theorem Part.get {n m : Nat} {listed' listed : Array Bool} (h : Part n m listed' listed) {i : Nat} (hi : i < m) : ∃ b, listed'[i]? = some b := ⟨_, Array.getElem?_eq_getElem (by rw [h.size']; exact hi)⟩
theorem Part.set {n m i : Nat} {listed' listed : Array Bool} (h : Part n m listed' listed) (hi : i < m) : Part n m (listed'.setIfInBounds i true) (listed.setIfInBounds i true) := by
  refine ⟨by rw [Array.size_setIfInBounds]; exact h.size', by rw [Array.size_setIfInBounds]; exact h.size, fun j hj => ?_, fun t ht htn => ?_⟩
  · rw [Array.getElem?_setIfInBounds, Array.getElem?_setIfInBounds]
    by_cases e : i = j
    · subst e
      rw [if_pos rfl, if_pos rfl, h.size']
      by_cases hin : i < listed.size
      · rw [if_pos hin, if_pos hi]
      · have h1 := h.same i hi
        rw [Array.getElem?_eq_none (by omega)] at h1
        obtain ⟨b, hb⟩ := h.get hi
        rw [← h1] at hb; cases hb
    · rw [if_neg e, if_neg e]; exact h.same j hj
  · rw [Array.getElem?_setIfInBounds, if_neg (by omega)]; exact h.rest t ht htn
theorem least_false (b : Nat → Bool) : ∀ m, (∃ i, i < m ∧ b i = false) → ∃ k, k < m ∧ b k = false ∧ ∀ j, j < k → b j = true := by
  intro m
  induction m with
  | zero => rintro ⟨i, hi, _⟩; omega
  | succ m ih =>
    rintro ⟨i, hi, hb⟩
    by_cases h : ∃ i, i < m ∧ b i = false
    · obtain ⟨k, h1, h2, h3⟩ := ih h
      exact ⟨k, by omega, h2, h3⟩
    · have : i = m := by
        rcases Nat.lt_or_ge i m with h4 | h4
        · exact absurd ⟨i, h4, hb⟩ h
        · omega
      subst this
      refine ⟨i, by omega, hb, fun j hj => ?_⟩
      cases hj2 : b j with
      | true => rfl
      | false => exact absurd ⟨j, hj, hj2⟩ h
theorem take_at {i : Nat} (hi : i < m) : (l.take m).toArray[i]? = l.toArray[i]? := by simp [List.getElem?_take, hi]
theorem part_in (hp : PreOk md l m) {listed' listed : Array Bool} (h : Part l.length m listed' listed) (hun : ∃ i, i < m ∧ listed'.getD i true = false) : ∀ i ∈ Region.ready md l.toArray listed, i < m := by
  intro i hi
  rw [mem_ready] at hi
  obtain ⟨h1, o, ho, h2⟩ := hi
  have ho' : l[i]? = some o := by simpa using ho
  have hil := (List.getElem?_eq_some_iff.1 ho').1
  rcases Nat.lt_trichotomy i m with hlt | rfl | hgt
  · exact hlt
  · obtain ⟨j, hj, hjf⟩ := hun
    obtain ⟨e, he, hb, hon⟩ := hp.first j o hj ho'
    have h3 := h2 e he hb
    obtain ⟨b, hj'⟩ := h.get hj
    rw [hon, Array.getD_eq_getD_getElem?, h.same j hj, hj'] at h3
    rw [Array.getD_eq_getD_getElem?, hj'] at hjf
    simp at h3 hjf
    rw [h3] at hjf; cases hjf
  · obtain ⟨e, he, hb, hon⟩ := hp.chain i o hgt ho'
    have h3 := h2 e he hb
    rw [hon, at_getD (h.rest (i - 1) (by omega) (by omega))] at h3
    cases h3
theorem part_ready (hp : PreOk md l m) {listed' listed : Array Bool} (h : Part l.length m listed' listed) {i : Nat} (hi : i < m) : i ∈ Region.ready md l.toArray listed ↔ i ∈ Region.ready md (l.take m).toArray listed' := by
  rw [mem_ready, mem_ready, take_at hi]
  have e1 : ∀ j d, j < m → listed.getD j d = listed'.getD j d := fun j d hj => by rw [Array.getD_eq_getD_getElem?, Array.getD_eq_getD_getElem?, h.same j hj]
  rw [e1 i true hi]
  constructor
  · rintro ⟨h1, o, ho, h2⟩
    have ho' : l[i]? = some o := by simpa using ho
    exact ⟨h1, o, ho, fun e he hb => by have := hp.back i o ho' e he hb; rw [← e1 _ _ (by omega)]; exact h2 e he hb⟩
  · rintro ⟨h1, o, ho, h2⟩
    have ho' : l[i]? = some o := by simpa using ho
    exact ⟨h1, o, ho, fun e he hb => by have := hp.back i o ho' e he hb; rw [e1 _ _ (by omega)]; exact h2 e he hb⟩
theorem want_take (hp : PreOk md l m) {i : Nat} (hi : i < m) {o : Oper} (ho : l[i]? = some o) (tmps : Array Value) : Region.wanted o (yielded (l.take m).toArray tmps) = Region.wanted o (yielded l.toArray tmps) := by
  unfold Region.wanted
  cases hg : o.guard with
  | none => rfl
  | some x =>
    obtain ⟨g, b⟩ := x
    have := hp.inn i o g b hi ho hg
    dsimp only
    unfold yielded
    rw [take_at this]
theorem qOp_take (hp : PreOk md l m) {C : World → Prop} {i : Nat} (hi : i < m) {K : Act → Prop} {a : Act} (h : qOp P (l.take m).toArray C i K a) : qOp P l.toArray C i K a := by
  unfold qOp at h ⊢
  rw [take_at hi] at h
  cases ho : l.toArray[i]? with
  | none => rw [ho] at h; exact h
  | some o =>
    rw [ho] at h
    have ho' : l[i]? = some o := by simpa using ho
    dsimp only at h ⊢
    rw [want_take hp hi ho'] at h
    exact h
theorem any_pre (hp : PreOk md l m) {C : World → Prop} {Q : Exit → Act → World → Prop} {Qq : Act → Prop} {g : Nat} (H : ∀ (fuel : Nat) (listed : Array Bool) (a : Act) (w : World), g ≤ fuel → Upto l.length m listed → C w → Qq a → wpAny P md l.toArray Q fuel listed a w) :
    ∀ (fuel : Nat) (listed' listed : Array Bool) (a : Act) (w : World), Part l.length m listed' listed → C w → wpAnyQ P md (l.take m).toArray C Qq fuel listed' a → wpAny P md l.toArray Q (fuel + g) listed a w := by
  have full : ∀ (listed' listed : Array Bool), Part l.length m listed' listed → (¬ ∃ i, i < m ∧ listed'.getD i true = false) → Upto l.length m listed := by
    intro listed' listed h hno
    refine ⟨h.size, fun i hi => ?_⟩
    by_cases him : i < m
    · rw [h.same i him, decide_eq_true him]
      obtain ⟨b, e⟩ := h.get him
      rw [e]
      cases b with
      | true => rfl
      | false => exact absurd ⟨i, him, by rw [Array.getD_eq_getD_getElem?, e]; rfl⟩ hno
    · rw [decide_eq_false him]; exact h.rest i (by omega) hi
  have some_ready : ∀ (listed' listed : Array Bool), Part l.length m listed' listed → (∃ i, i < m ∧ listed'.getD i true = false) → ∃ k, k < m ∧ k ∈ Region.ready md l.toArray listed := by
    intro listed' listed h hun
    obtain ⟨k, hk, hf, hall⟩ := least_false (fun i => listed'.getD i true) m hun
    refine ⟨k, hk, (part_ready hp h hk).2 (mem_ready.2 ⟨hf, l[k]'(by have := hp.le; omega), ?_, fun e he hb => ?_⟩)⟩
    · rw [take_at hk]; simp
    · have := hp.back k _ (List.getElem?_eq_getElem (by have := hp.le; omega)) e he hb
      have h2 := hall e.on this
      obtain ⟨b, e2⟩ := h.get (i := e.on) (by omega)
      rw [Array.getD_eq_getD_getElem?, e2] at h2 ⊢
      simpa using h2
  intro fuel
  induction fuel with
  | zero =>
    intro listed' listed a w h hw hq
    have hno : ¬ ∃ i, i < m ∧ listed'.getD i true = false := fun hun => by
      obtain ⟨k, hk, hr⟩ := some_ready _ _ h hun
      have := (part_ready hp h hk).1 hr
      rw [hq.1] at this; cases this
    exact H _ listed a w (by omega) (full _ _ h hno) hw hq.2
  | succ f ih =>
    intro listed' listed a w h hw hq
    by_cases hun : ∃ i, i < m ∧ listed'.getD i true = false
    · rw [show f + 1 + g = (f + g) + 1 from by omega]
      refine ⟨fun hr => ?_, fun i hi => ?_⟩
      · obtain ⟨k, hk, hr2⟩ := some_ready _ _ h hun
        rw [hr] at hr2; cases hr2
      · have him := part_in hp h hun i hi
        have h1 := hq.2 i ((part_ready hp h him).1 hi)
        exact wpOp_of_qOp hw (fun a' w' hw' hk => ih _ _ a' w' (h.set him) hw' hk) (qOp_take hp him h1)
    · have hr : Region.ready md (l.take m).toArray listed' = [] := by
        apply List.eq_nil_iff_forall_not_mem.2
        intro i hi
        have h1 := (mem_ready.1 hi).1
        obtain ⟨_, o, ho, _⟩ := mem_ready.1 hi
        have : i < m := by
          have := (Array.getElem?_eq_some_iff.1 ho).1
          simp at this; omega
        exact hun ⟨i, this, h1⟩
      exact H _ listed a w (by omega) (full _ _ h hun) hw (hq.1 hr)
end

section
variable {M : List Nat} {P : Program} {n : Nat} {W : World} {Q : Exit → Act → World → Prop} {L : List Blk} {f : Nat → Value}
/-- The first m operations write nothing; the others come behind them, one by one. -/
theorem ok_drawt {id : Nat} {l : List Oper} (m : Nat) (hm : P.follows .mixedOrders = true) (hB : Region.lexB .any (l.take m).toArray = true) (hP : preB .any l m = true)
    (h : QSeg M P n (l.take m).toArray W (fun L f => Seg M P n l.toArray W Q (l.drop m) L f) (l.take m) L f) : Ok M P n W Q (.region id l.toArray true) L f := ⟨fun w hO => by
  have hp := preB_ok hP
  simp only [Region.lexB, Bool.and_eq_true] at hB
  have hle : (l.take m).length = m := by rw [List.length_take]; have := hp.le; omega
  have hq := wpAnyQ_lex (md := .any) (C := fun w => Own M W w L) hB.1 (l.take m) 0 (Array.replicate (l.take m).toArray.size false) (Fr n f) (by simp) (by simpa using hB.2) h.go
  refine wp_region_any hm ?_
  have hres := any_pre (P := P) (md := .any) hp (C := fun w => Own M W w L) (Q := Q) (g := l.length - m) (fun fuel listed a w hf hu hw ⟨f', ha, hs⟩ => by
    subst ha
    exact any_tail hp (l.length - m) m fuel listed _ w rfl (Nat.le_refl _) hp.le hf hu (hs.go w hw)) (l.take m).length (Array.replicate (l.take m).toArray.size false) (Array.replicate l.toArray.size false) (Fr n f) { w with drawn := w.drawn + 1 }
    ⟨by simp [hp.le], by simp, fun i hi => by
      have := hp.le
      rw [Array.getElem?_replicate, Array.getElem?_replicate, if_pos (by simp; omega), if_pos (by simp; omega)], fun t _ ht => by rw [Array.getElem?_replicate, if_pos (by simpa using ht)]⟩ hO.drew hq
  rw [hle, show m + (l.length - m) = l.toArray.size from by have := hp.le; simp; omega] at hres
  exact hres⟩
end
/-- The address of an array variable's element. -/
theorem run_ixarr {P : Program} {ρ : Operand → Value} {o : Oper} {t e : TypeId} {x ix : Operand} {b off off' n sz : Nat} {k : IntKind} {j : Int} (ho : o.op = .indexAddr t x ix) (hx : ρ x = .pointer (some ⟨b, off, none⟩)) (hi : ρ ix = .int k j)
    (hu : P.underlying t = some (.array n e)) (hs : (P.info? e).map (·.size) = some sz) (h0 : 0 ≤ j) (h1 : j < n) (hoff : off + j.toNat * sz = off') (w : World) : (execOp ρ o).run P w = .ok (.value (.pointer (some ⟨b, off', none⟩))) w := by
  subst hoff
  cases he : P.info? e with
  | none => rw [he] at hs; cases hs
  | some i =>
    rw [he] at hs
    obtain rfl := Option.some.inj hs
    unfold execOp
    simp [ho, hx, hi, Instr.indexAt, Sem.run_bind, asIntOf, run_underlying hu, Instr.sureAddr, h0, h1, sizeOf, typeInfo, he, add_off]
theorem ret_v {P : Program} {k : FuncId} {args : Array Value} {w : World} {v v' : Value} (h : v = v') (hc : Calls P k args w fun e w' => e = .returned v ∧ Below w.heap.size w w') : Calls P k args w fun e w' => e = .returned v' ∧ Below w.heap.size w w' := by subst h; exact hc
theorem ret_b {P : Program} {k : FuncId} {args : Array Value} {w : World} {a b : Bool} (h : a = b) (hc : Calls P k args w fun e w' => e = .returned (.bool a) ∧ Below w.heap.size w w') : Calls P k args w fun e w' => e = .returned (.bool b) ∧ Below w.heap.size w w' := by subst h; exact hc
end Go.Proofs.Ytjgmmeienchfnaa
