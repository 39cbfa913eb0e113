/-
  RowAlgebra: for every input the call returns true, and each argument reads afterwards as it read before. Conditions: none but the row's own.
-/
import Derived.Test.YtmlecnomdamgnaaGreatRows
import Derived.Test.YtmlecnomdamgnaaGreatM5

section
/-
  RowAlgebra: for any two slices of spans the law returns true, and nothing that was there is changed. No condition.
-/
namespace Go.Proofs.YtmlecnomdamgnaaGreat
open Go.RowKit
set_option maxRecDepth 100000
set_option linter.unusedVariables false
set_option linter.unusedSimpArgs false
set_option maxHeartbeats 2000000

theorem if_len {p : Bool} {l : List Sp} {n : Nat} (h : p = true → l.length ≤ n) : (if p then l else []).length ≤ n := by
  cases p with
  | true => exact h rfl
  | false => exact Nat.zero_le _
set_option maxHeartbeats 8000000 in
theorem rowAlgebra.law (W : World) (A : Option Addr) (cap : Nat) (a : List Sp) (ha : Reads spanC W W.heap.size A a) (hca : a.length ≤ cap) (B : Option Addr) (capb : Nat) (b : List Sp) (hb : Reads spanC W W.heap.size B b) (hcb : b.length ≤ capb) :
    Calls Tryz.prog 3 #[.slice A a.length cap, .slice B b.length capb] W fun e w' => e = .returned (.bool true) ∧ Below W.heap.size W w' := by
  refine calls_ok (n := 55) Tryz.func3 rfl (by kernel_rfl) (by kernel_rfl) ?_
  refine ok_seq ?_
  refine ok_region ?_
  refine s_val (.bool false) (by kernel_rfl) (fun _ => by kernel_rfl) ?_
  refine s_nil ?_
  refine fin_seq ?_
  refine ok_seq ?_
  refine ok_seq ?_
  refine ok_region ?_
  refine s_val (.slice A a.length cap) (by kernel_rfl) (fun _ => by kernel_rfl) ?_
  refine s_call (k := 9) (args := #[.slice A a.length cap]) (.bool (fewL a)) (by kernel_rfl) (fun _ => by kernel_rfl) (fun w hO => few4_any A cap a w (ha.on hO.below hO.size)) ?_
  cases h1 : fewL a with
  | true =>
    refine s_val (.bool false) (by kernel_rfl) (fun _ => by kernel_rfl) ?_
    refine s_val (.bool false) (by kernel_rfl) (fun _ => by kernel_rfl) ?_
    refine s_val (.slice B b.length capb) (by kernel_rfl) (fun _ => by kernel_rfl) ?_
    refine s_call (k := 9) (args := #[.slice B b.length capb]) (.bool (fewL b)) (by kernel_rfl) (fun _ => by kernel_rfl) (fun w hO => few4_any B capb b w (hb.on hO.below hO.size)) ?_
    cases h2 : fewL b with
    | true =>
      refine s_val (.bool false) (by kernel_rfl) (fun _ => by kernel_rfl) ?_
      refine s_val (.bool false) (by kernel_rfl) (fun _ => by kernel_rfl) ?_
      refine s_nil ?_
      refine fin_seq ?_
      refine ok_false (by kernel_rfl) ?_
      refine ok_skip ?_
      refine fin_seq ?_
      refine ok_seq ?_
      refine ok_region ?_
      refine s_val (.slice A a.length cap) (by kernel_rfl) (fun _ => by kernel_rfl) ?_
      refine s_val (.slice B b.length capb) (by kernel_rfl) (fun _ => by kernel_rfl) ?_
      refine s_callo (k := 11) (args := #[.slice A a.length cap, .slice B b.length capb]) (fun v' L' => ∃ ob', L' = ob' ++ ([]) ∧ SlS v' (if rowMay a && rowMay b then orL a b else []) ob') (by kernel_rfl) (fun _ => by kernel_rfl) (fun w hO => (ror_any A B cap capb a b w (ha.on hO.below hO.size) (hb.on hO.below hO.size) (Nat.le_trans ((few_short h1).2) (by decide)) (Nat.le_trans ((few_short h2).2) (by decide)) (few_short h1).1 (few_short h2).1).mono fun e w' ⟨v', ob', k1, k2, k3⟩ => ⟨v', _, k1, ⟨ob', rfl, k2⟩, Own.joinN hO k3⟩) (fun v4 L4 hv4 => ?_)
      obtain ⟨o4, rfl, hr4⟩ := hv4
      refine s_cast (L' := o4) (List.append_nil _) ?_
      obtain ⟨V4, c4, rfl⟩ := hr4.form
      refine s_val (.slice A a.length cap) (by kernel_rfl) (fun _ => by kernel_rfl) ?_
      refine s_val (.slice B b.length capb) (by kernel_rfl) (fun _ => by kernel_rfl) ?_
      refine s_callo (k := 12) (args := #[.slice A a.length cap, .slice B b.length capb]) (fun v' L' => ∃ ob', L' = ob' ++ (o4) ∧ SlS v' (if rowMay a && rowMay b then andL a b else []) ob') (by kernel_rfl) (fun _ => by kernel_rfl) (fun w hO => (rand_any A B cap capb a b w (ha.on hO.below hO.size) (hb.on hO.below hO.size) (Nat.le_trans ((few_short h1).2) (by decide)) (Nat.le_trans ((few_short h2).2) (by decide)) (few_short h1).1 (few_short h2).1).mono fun e w' ⟨v', ob', k1, k2, k3⟩ => ⟨v', _, k1, ⟨ob', rfl, k2⟩, Own.joinN hO k3⟩) (fun v5 L5 hv5 => ?_)
      obtain ⟨o5, rfl, hr5⟩ := hv5
      obtain ⟨V5, c5, rfl⟩ := hr5.form
      refine s_val (.slice A a.length cap) (by kernel_rfl) (fun _ => by kernel_rfl) ?_
      refine s_callo (k := 13) (args := #[.slice A a.length cap]) (fun v' L' => ∃ ob', L' = ob' ++ (o5 ++ (o4)) ∧ SlS v' (if rowMay a then notL a else []) ob') (by kernel_rfl) (fun _ => by kernel_rfl) (fun w hO => (rnot_any A cap a w (ha.on hO.below hO.size) (Nat.le_trans ((few_short h1).2) (by decide)) (few_short h1).1).mono fun e w' ⟨v', ob', k1, k2, k3⟩ => ⟨v', _, k1, ⟨ob', rfl, k2⟩, Own.joinN hO k3⟩) (fun v6 L6 hv6 => ?_)
      obtain ⟨o6, rfl, hr6⟩ := hv6
      obtain ⟨V6, c6, rfl⟩ := hr6.form
      refine s_val (.slice V4 ((if rowMay a && rowMay b then orL a b else []).length) c4) (by kernel_rfl) (fun _ => by kernel_rfl) ?_
      refine s_val (.slice V5 ((if rowMay a && rowMay b then andL a b else []).length) c5) (by kernel_rfl) (fun _ => by kernel_rfl) ?_
      refine s_val (.slice V6 ((if rowMay a then notL a else []).length) c6) (by kernel_rfl) (fun _ => by kernel_rfl) ?_
      refine s_nil ?_
      refine fin_seq ?_
      refine ok_seq ?_
      refine ok_region ?_
      refine s_call (k := 10) (args := #[]) (.bool true) (by kernel_rfl) (fun _ => by kernel_rfl) (fun w _ => awake4_any w) ?_
      refine s_val (.bool true) (by kernel_rfl) (fun _ => by kernel_rfl) ?_
      refine s_val (.slice A a.length cap) (by kernel_rfl) (fun _ => by kernel_rfl) ?_
      refine s_val (.slice B b.length capb) (by kernel_rfl) (fun _ => by kernel_rfl) ?_
      refine s_callo (k := 15) (args := #[.slice A a.length cap, .slice B b.length capb]) (fun v' L' => ∃ ob', L' = ob' ++ (o6 ++ (o5 ++ (o4))) ∧ SlS v' (if rowMay a && rowMay b then orL a b else []) ob') (by kernel_rfl) (fun _ => by kernel_rfl) (fun w hO => (or4_any A B cap capb a b w (ha.on hO.below hO.size) (hb.on hO.below hO.size) (Nat.le_trans ((few_short h1).2) (by decide)) (Nat.le_trans ((few_short h2).2) (by decide)) (few_short h1).1 (few_short h2).1).mono fun e w' ⟨v', ob', k1, k2, k3⟩ => ⟨v', _, k1, ⟨ob', rfl, k2⟩, Own.joinN hO k3⟩) (fun v7 L7 hv7 => ?_)
      obtain ⟨o7, rfl, hr7⟩ := hv7
      obtain ⟨V7, c7, rfl⟩ := hr7.form
      refine s_val (.slice V4 ((if rowMay a && rowMay b then orL a b else []).length) c4) (by kernel_rfl) (fun _ => by kernel_rfl) ?_
      refine s_call (k := 14) (args := #[.slice V7 ((if rowMay a && rowMay b then orL a b else []).length) c7, .slice V4 ((if rowMay a && rowMay b then orL a b else []).length) c4]) (.bool true) (by kernel_rfl) (fun _ => by kernel_rfl) (fun w hO => ret_b (decide_eq_true (rfl)) (rsame_any V7 V4 c7 c4 (if rowMay a && rowMay b then orL a b else []) (if rowMay a && rowMay b then orL a b else []) w (Sl.reads hr7 rfl hO (fun x hx => by simp [hx])) (Sl.reads hr4 rfl hO (fun x hx => by simp [hx])) (Nat.le_trans (if_len (n := 50) fun hp => Nat.le_trans (RF.or ⟨(Bool.and_eq_true_iff.1 hp).1, (few_short h1).2⟩ ⟨(Bool.and_eq_true_iff.1 hp).2, (few_short h2).2⟩).len (by decide)) (by decide)) (Nat.le_trans (if_len (n := 50) fun hp => Nat.le_trans (RF.or ⟨(Bool.and_eq_true_iff.1 hp).1, (few_short h1).2⟩ ⟨(Bool.and_eq_true_iff.1 hp).2, (few_short h2).2⟩).len (by decide)) (by decide)))) ?_
      refine s_val (.bool true) (by kernel_rfl) (fun _ => by kernel_rfl) ?_
      refine s_val (.bool true) (by kernel_rfl) (fun _ => by kernel_rfl) ?_
      refine s_val (.slice A a.length cap) (by kernel_rfl) (fun _ => by kernel_rfl) ?_
      refine s_val (.slice B b.length capb) (by kernel_rfl) (fun _ => by kernel_rfl) ?_
      refine s_callo (k := 16) (args := #[.slice A a.length cap, .slice B b.length capb]) (fun v' L' => ∃ ob', L' = ob' ++ (o7 ++ (o6 ++ (o5 ++ (o4)))) ∧ SlS v' (if rowMay a && rowMay b then andL a b else []) ob') (by kernel_rfl) (fun _ => by kernel_rfl) (fun w hO => (and4_any A B cap capb a b w (ha.on hO.below hO.size) (hb.on hO.below hO.size) (Nat.le_trans ((few_short h1).2) (by decide)) (Nat.le_trans ((few_short h2).2) (by decide)) (few_short h1).1 (few_short h2).1 hca hcb).mono fun e w' ⟨v', ob', k1, k2, k3⟩ => ⟨v', _, k1, ⟨ob', rfl, k2⟩, Own.joinN hO k3⟩) (fun v8 L8 hv8 => ?_)
      obtain ⟨o8, rfl, hr8⟩ := hv8
      obtain ⟨V8, c8, rfl⟩ := hr8.form
      refine s_val (.slice V5 ((if rowMay a && rowMay b then andL a b else []).length) c5) (by kernel_rfl) (fun _ => by kernel_rfl) ?_
      refine s_call (k := 14) (args := #[.slice V8 ((if rowMay a && rowMay b then andL a b else []).length) c8, .slice V5 ((if rowMay a && rowMay b then andL a b else []).length) c5]) (.bool true) (by kernel_rfl) (fun _ => by kernel_rfl) (fun w hO => ret_b (decide_eq_true (rfl)) (rsame_any V8 V5 c8 c5 (if rowMay a && rowMay b then andL a b else []) (if rowMay a && rowMay b then andL a b else []) w (Sl.reads hr8 rfl hO (fun x hx => by simp [hx])) (Sl.reads hr5 rfl hO (fun x hx => by simp [hx])) (Nat.le_trans (if_len (n := 50) fun hp => Nat.le_trans (RF.and ⟨(Bool.and_eq_true_iff.1 hp).1, (few_short h1).2⟩ ⟨(Bool.and_eq_true_iff.1 hp).2, (few_short h2).2⟩).len (by decide)) (by decide)) (Nat.le_trans (if_len (n := 50) fun hp => Nat.le_trans (RF.and ⟨(Bool.and_eq_true_iff.1 hp).1, (few_short h1).2⟩ ⟨(Bool.and_eq_true_iff.1 hp).2, (few_short h2).2⟩).len (by decide)) (by decide)))) ?_
      refine s_val (.bool true) (by kernel_rfl) (fun _ => by kernel_rfl) ?_
      refine s_val (.bool true) (by kernel_rfl) (fun _ => by kernel_rfl) ?_
      refine s_val (.slice A a.length cap) (by kernel_rfl) (fun _ => by kernel_rfl) ?_
      refine s_callo (k := 17) (args := #[.slice A a.length cap]) (fun v' L' => ∃ ob', L' = ob' ++ (o8 ++ (o7 ++ (o6 ++ (o5 ++ (o4))))) ∧ SlS v' (if rowMay a then notL a else []) ob') (by kernel_rfl) (fun _ => by kernel_rfl) (fun w hO => (not4_any A cap a w (ha.on hO.below hO.size) (Nat.le_trans ((few_short h1).2) (by decide)) (few_short h1).1).mono fun e w' ⟨v', ob', k1, k2, k3⟩ => ⟨v', _, k1, ⟨ob', rfl, k2⟩, Own.joinN hO k3⟩) (fun v9 L9 hv9 => ?_)
      obtain ⟨o9, rfl, hr9⟩ := hv9
      obtain ⟨V9, c9, rfl⟩ := hr9.form
      refine s_val (.slice V6 ((if rowMay a then notL a else []).length) c6) (by kernel_rfl) (fun _ => by kernel_rfl) ?_
      refine s_call (k := 14) (args := #[.slice V9 ((if rowMay a then notL a else []).length) c9, .slice V6 ((if rowMay a then notL a else []).length) c6]) (.bool true) (by kernel_rfl) (fun _ => by kernel_rfl) (fun w hO => ret_b (decide_eq_true (rfl)) (rsame_any V9 V6 c9 c6 (if rowMay a then notL a else []) (if rowMay a then notL a else []) w (Sl.reads hr9 rfl hO (fun x hx => by simp [hx])) (Sl.reads hr6 rfl hO (fun x hx => by simp [hx])) (Nat.le_trans (if_len (n := 50) fun hp => Nat.le_trans (RF.not ⟨hp, (few_short h1).2⟩).len (by decide)) (by decide)) (Nat.le_trans (if_len (n := 50) fun hp => Nat.le_trans (RF.not ⟨hp, (few_short h1).2⟩).len (by decide)) (by decide)))) ?_
      refine s_val (.bool true) (by kernel_rfl) (fun _ => by kernel_rfl) ?_
      refine s_val (.bool true) (by kernel_rfl) (fun _ => by kernel_rfl) ?_
      refine s_val (.slice A a.length cap) (by kernel_rfl) (fun _ => by kernel_rfl) ?_
      refine s_val (.slice B b.length capb) (by kernel_rfl) (fun _ => by kernel_rfl) ?_
      refine s_call (k := 18) (args := #[.slice A a.length cap, .slice B b.length capb]) (.bool (rowMay a && rowMay b && decide (andL a b = a))) (by kernel_rfl) (fun _ => by kernel_rfl) (fun w hO => within4_any A B cap capb a b w (ha.on hO.below hO.size) (hb.on hO.below hO.size) (Nat.le_trans ((few_short h1).2) (by decide)) (Nat.le_trans ((few_short h2).2) (by decide)) (few_short h1).1 (few_short h2).1 hca hcb) ?_
      refine s_val (.slice A a.length cap) (by kernel_rfl) (fun _ => by kernel_rfl) ?_
      refine s_val (.slice B b.length capb) (by kernel_rfl) (fun _ => by kernel_rfl) ?_
      refine s_call (k := 19) (args := #[.slice A a.length cap, .slice B b.length capb]) (.bool (rowMay a && rowMay b && decide (andL a b = a))) (by kernel_rfl) (fun _ => by kernel_rfl) (fun w hO => rwithin_any A B cap capb a b w (ha.on hO.below hO.size) (hb.on hO.below hO.size) (Nat.le_trans ((few_short h1).2) (by decide)) (Nat.le_trans ((few_short h2).2) (by decide)) (few_short h1).1 (few_short h2).1) ?_
      cases h3 : rowMay a && rowMay b && decide (andL a b = a) with
      | true =>
        refine s_val (.bool true) (by kernel_rfl) (fun _ => by kernel_rfl) ?_
        refine s_val (.bool true) (by kernel_rfl) (fun _ => by kernel_rfl) ?_
        refine s_val (.bool true) (by kernel_rfl) (fun _ => by kernel_rfl) ?_
        refine s_nil ?_
        refine fin_seq ?_
        refine ok_ret ?_
        refine fin_ret (.bool true) Tryz.results3 (by kernel_rfl) ?_
        exact fun w hO => ⟨rfl, hO.below⟩
      | false =>
        refine s_val (.bool true) (by kernel_rfl) (fun _ => by kernel_rfl) ?_
        refine s_val (.bool true) (by kernel_rfl) (fun _ => by kernel_rfl) ?_
        refine s_val (.bool true) (by kernel_rfl) (fun _ => by kernel_rfl) ?_
        refine s_nil ?_
        refine fin_seq ?_
        refine ok_ret ?_
        refine fin_ret (.bool true) Tryz.results3 (by kernel_rfl) ?_
        exact fun w hO => ⟨rfl, hO.below⟩
    | false =>
      refine s_val (.bool true) (by kernel_rfl) (fun _ => by kernel_rfl) ?_
      refine s_val (.bool true) (by kernel_rfl) (fun _ => by kernel_rfl) ?_
      refine s_nil ?_
      refine fin_seq ?_
      refine ok_true (by kernel_rfl) ?_
      refine ok_seq ?_
      refine ok_region ?_
      refine s_call (k := 10) (args := #[]) (.bool true) (by kernel_rfl) (fun _ => by kernel_rfl) (fun w _ => awake4_any w) ?_
      refine s_val (.bool true) (by kernel_rfl) (fun _ => by kernel_rfl) ?_
      refine s_nil ?_
      refine fin_seq ?_
      refine ok_ret ?_
      refine fin_seq_ret ?_
      refine fin_ret (.bool true) Tryz.results3 (by kernel_rfl) ?_
      exact fun w hO => ⟨rfl, hO.below⟩
  | false =>
    refine s_val (.bool true) (by kernel_rfl) (fun _ => by kernel_rfl) ?_
    refine s_val (.bool true) (by kernel_rfl) (fun _ => by kernel_rfl) ?_
    refine s_skip (by kernel_rfl) ?_
    refine s_skip (by kernel_rfl) ?_
    refine s_skip (by kernel_rfl) ?_
    refine s_val (.bool true) (by kernel_rfl) (fun _ => by kernel_rfl) ?_
    refine s_nil ?_
    refine fin_seq ?_
    refine ok_true (by kernel_rfl) ?_
    refine ok_seq ?_
    refine ok_region ?_
    refine s_call (k := 10) (args := #[]) (.bool true) (by kernel_rfl) (fun _ => by kernel_rfl) (fun w _ => awake4_any w) ?_
    refine s_val (.bool true) (by kernel_rfl) (fun _ => by kernel_rfl) ?_
    refine s_nil ?_
    refine fin_seq ?_
    refine ok_ret ?_
    refine fin_seq_ret ?_
    refine fin_ret (.bool true) Tryz.results3 (by kernel_rfl) ?_
    exact fun w hO => ⟨rfl, hO.below⟩
end Go.Proofs.YtmlecnomdamgnaaGreat
end

section
/-
  RowAlgebra: for every input the call returns true, and each argument reads afterwards as it read before. Conditions: none but the row's own.
-/
namespace Go.Proofs.YtmlecnomdamgnaaGreat.rowAlgebra
open Go.ChangeShapes Go.WideShapes Go.ChangeAt Go.RowKit
open Go.ChangeMaps (open_string shut_string)
set_option linter.unusedVariables false

set_option maxRecDepth 100000 in
theorem contract (H : Type) (enc : TypeId × Value → H) (W : World) (base : Nat) (args : Array Value) (ds gs : List (DataW H)) (before : List MemPlace)
    (hval : ∀ (j : Nat) t v, Tryz.f3.params[j]? = some t → args[j]? = some v → Value.okWide Tryz.prog W .any base t v)
    (hW : DataW.Whole enc Tryz.prog Tryz.f3.params.toList Rows.rowAlgebraSpec.vars false W args.toList ds gs before) (hL : laidMetH Tryz.prog Rows.rowAlgebraRow.laid W) :
    Calls Tryz.prog 3 args W fun e W' => ∃ v, e = .returned v ∧ Rows.rowAlgebraSpec.post enc Tryz.prog Tryz.f3 false true false false W args v W' := by
  have hW' := hW
  obtain ⟨p, q, hA0, hV, rfl, hfz, hnd⟩ := hW
  have hA : DataW.TrodAll enc Tryz.prog W 0 (fun _ => true) true Tryz.f3.params.toList args.toList ds p := hA0
  rw [Tryz.params3] at hA hval
  obtain ⟨v0, vs0, d0, ds0, p0, q0, hargs, rfl, rfl, h0, r0⟩ := trodAll_cons hA
  obtain ⟨v1, vs1, d1, ds1, p1, q1, rfl, rfl, rfl, h1, r1⟩ := trodAll_cons r0
  obtain ⟨rfl, rfl, rfl⟩ := trodAll_nil r1
  obtain rfl : args = #[v0, v1] := by cases args; simp_all
  obtain ⟨rfl, rfl⟩ := trodVars_none hV
  clear hA0
  obtain ⟨a_A, a_c, a, rfl, a_reads, a_cap, a_max, a_w⟩ := open_spans (hval 0 22 v0 rfl rfl) h0
  obtain ⟨b_A, b_c, b, rfl, b_reads, b_cap, b_max, b_w⟩ := open_spans (hval 1 22 v1 rfl rfl) h1
  refine (rowAlgebra.law W a_A a_c a a_reads a_cap b_A b_c b b_reads b_cap ).mono fun e W' ⟨he, hb⟩ => ?_
  subst he
  exact ⟨_, rfl, law_end laidOut (fun t ht => by rw [Tryz.params3] at ht; simp at ht; subst ht; exact ⟨by kernel_rfl, of_decide_eq_true (by kernel_rfl)⟩) rfl rfl Tryz.underlying4 hW' (by rfl) hb⟩

noncomputable def laidWorld (os : Os) : World :=
  { World.holding Tryz.prog os ⟨#[], #[], []⟩ with heap := (World.holding Tryz.prog os ⟨#[], #[], []⟩).heap }
theorem laid_met (os : Os) : laidMet Tryz.prog Rows.rowAlgebraRow.laid ((laidWorld os).forCall (fun _ _ => 0) ⟨#[], #[.slice none 0 0, .slice none 0 0], []⟩).memory :=
  laidMet_of_run' 8 (by kernel_rfl) (by kernel_rfl)
theorem reads (os : Os) {H : Type} (enc : TypeId × Value → H) : ∃ places, DataW.whole enc Tryz.prog ((laidWorld os).forCall (fun _ _ => 0) ⟨#[], #[.slice none 0 0, .slice none 0 0], []⟩).memory Tryz.f3.params.toList Rows.rowAlgebraSpec.vars false (#[.slice none 0 0, .slice none 0 0] : Array Value).toList 8 = some ([.nil, .nil], [], places) :=
  ⟨[], by kernel_rfl⟩

set_option maxRecDepth 100000 in
theorem lifted (os : Os) (started : os.Started) (H : Type) (enc : TypeId × Value → H) (F : Stop.Interp) :
    ReturnsInHanded {} Tryz.checked os 3 .any ((OpenSpec.ofChange Rows.rowAlgebraSpec).preRow enc Tryz.prog Tryz.f3 Rows.rowAlgebraRow.domain false Rows.rowAlgebraRow.laid) (((OpenSpec.ofChange Rows.rowAlgebraSpec).at F).post enc Tryz.prog Tryz.f3 false true false false) := by
  obtain ⟨places, hx⟩ := reads os enc
  refine returnsInHanded_of_row (C := Tryz.checked) (s := OpenSpec.ofChange Rows.rowAlgebraSpec) own started (by kernel_rfl) Tryz.func3
    (witness_row_at (enc := enc) (C := Tryz.checked) false (laidWorld os) #[.slice none 0 0, .slice none 0 0] rfl (by kernel_rfl) (by kernel_rfl) (by kernel_rfl)
      (OpenSpec.preRow_of_cond 8 hx (by kernel_rfl) (fun k hk => by cases hk) (by kernel_rfl) (laid_met os))) ?_
  intro W base args ds gs before hval hW _ _ _ hL _ _
  exact contract H enc W base args ds gs before hval hW hL

theorem said : Rows.RowAlgebraSaid :=
  OpenClaim.holds_of_cond 3 Tryz.f3 rfl rfl rfl rfl rfl rfl rfl ⟨rfl, rfl, rfl, rfl, rfl⟩ rfl rfl rfl rfl rfl (by kernel_rfl) Tryz.func3 (by kernel_rfl)
    (of_decide_eq_true (by kernel_rfl)) (by unfold Func.isWrapper; first | (rw [if_pos (by decide +kernel)]; kernel_rfl) | (rw [if_neg (by decide +kernel)]; exact ⟨rfl, rfl⟩))
    (fun os started H enc _ F => by rw [OpenClaim.pre_eq_preRow]; exact lifted os started H enc F)

#print axioms said
end Go.Proofs.YtmlecnomdamgnaaGreat.rowAlgebra
end
