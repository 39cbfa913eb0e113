/-
  RowLent: for every input the call returns true, and each argument reads afterwards as it read before. Conditions: none but the row's own.
-/
import Derived.Test.YtmlecnomdamgnaaGreatRows
import Derived.Test.YtmlecnomdamgnaaGreatM5

section
/-
  RowLent: for any lists of numbers the law returns true, and nothing that was there is changed. No condition.
-/
namespace Go.Proofs.YtmlecnomdamgnaaGreat
open Go.RowKit
set_option maxRecDepth 100000
set_option linter.unusedVariables false
set_option linter.unusedSimpArgs false
set_option maxHeartbeats 2000000

theorem rowG_rf (l : List Int) (i : Nat) : RF (rowG l i) 10 := by
  have h := plc_in (atL l i) (4 + 1 : Nat) (by omega)
  have h2 := spansG_len l i (plc (atL l i) (4 + 1 : Nat)).toNat
  exact RF.make (n := 4) (spansG_may l i _) (by omega)
set_option maxHeartbeats 8000000 in
theorem rowLent.law (W : World) (x : Value) (xl : List Int) (hxl : ReadsI W W.heap.size x xl) (lxl : xl.length ≤ maxLen) (y : Value) (yl : List Int) (hyl : ReadsI W W.heap.size y yl) (lyl : yl.length ≤ maxLen) :
    Calls Tryz.prog 6 #[x, y] W fun e w' => e = .returned (.bool true) ∧ Below W.heap.size W w' := by
  obtain ⟨a, ea⟩ : ∃ q, q = rowG xl 0 := ⟨_, rfl⟩
  have fa : RF a 10 := ea ▸ rowG_rf xl 0
  obtain ⟨q, eq⟩ : ∃ q, q = spansG yl 0 (plc (atL yl 0) (4 + 1 : Nat)).toNat := ⟨_, rfl⟩
  have hqm : ∀ s ∈ q, s.may = true := eq ▸ spansG_may yl 0 _
  have hqs : ShortL q := eq ▸ spansG_short yl 0 _
  have hqa : allMay q = true := allMay_mem.2 hqm
  have hqn : q.length ≤ 4 := by rw [eq]; have := spansG_len yl 0 (plc (atL yl 0) (4 + 1 : Nat)).toNat; have := plc_in (atL yl 0) (4 + 1 : Nat) (by omega); omega
  refine calls_ok (n := 45) Tryz.func6 rfl (by kernel_rfl) (by kernel_rfl) ?_
  refine ok_seq ?_
  refine ok_region ?_
  refine s_val (.bool false) (by kernel_rfl) (fun _ => by kernel_rfl) ?_
  refine s_nil ?_
  refine fin_seq ?_
  refine ok_seq ?_
  refine ok_region ?_
  refine s_val (x) (by kernel_rfl) (fun _ => by kernel_rfl) ?_
  refine s_callo (k := 20) (args := #[x, .int .i64 0]) (fun v' L' => ∃ ob', L' = ob' ++ ([]) ∧ SlS v' (a) ob') (by kernel_rfl) (fun _ => by kernel_rfl) (fun w hO => (row_any x xl 0 w ((hxl.below hO.below).more hO.below.size) (by unfold maxLen at lxl; omega) (by omega)).mono fun e w' ⟨v', ob', k1, k2, k3⟩ => ⟨v', _, k1, ⟨ob', rfl, by rw [← ea] at k2; exact k2⟩, Own.joinN hO k3⟩) (fun v7 L7 hv7 => ?_)
  obtain ⟨o7, rfl, hr7⟩ := hv7
  refine s_cast (L' := o7) (List.append_nil _) ?_
  obtain ⟨V7, c7, rfl⟩ := hr7.form
  refine s_val (y) (by kernel_rfl) (fun _ => by kernel_rfl) ?_
  refine s_callo (k := 24) (args := #[y, .int .i64 0, .int .i64 4]) (fun v' L' => ∃ ob', L' = ob' ++ (o7) ∧ SlS v' (q) ob') (by kernel_rfl) (fun _ => by kernel_rfl) (fun w hO => (spans_any y yl 0 4 w ((hyl.below hO.below).more hO.below.size) (by unfold maxLen at lyl; omega) (by omega) (by omega)).mono fun e w' ⟨v', ob', k1, k2, k3⟩ => ⟨v', _, k1, ⟨ob', rfl, by rw [← eq] at k2; exact k2⟩, Own.joinN hO k3⟩) (fun v8 L8 hv8 => ?_)
  obtain ⟨o8, rfl, hr8⟩ := hv8
  obtain ⟨V8, c8, rfl⟩ := hr8.form
  refine s_val (.slice V7 ((a).length) c7) (by kernel_rfl) (fun _ => by kernel_rfl) ?_
  refine s_val (.slice V8 ((q).length) c8) (by kernel_rfl) (fun _ => by kernel_rfl) ?_
  refine s_nil ?_
  refine fin_seq ?_
  refine ok_seq ?_
  refine ok_region ?_
  refine s_val (.slice V7 ((a).length) c7) (by kernel_rfl) (fun _ => by kernel_rfl) ?_
  refine s_callo (k := 25) (args := #[.slice V7 ((a).length) c7]) (fun v' L' => ∃ ob', L' = ob' ++ (o8 ++ (o7)) ∧ SlS v' (a) ob') (by kernel_rfl) (fun _ => by kernel_rfl) (fun w hO => (copyrow_any V7 c7 a w (Sl.reads hr7 rfl hO (fun x hx => by simp [hx])) (Nat.le_trans ((fa).len) (by decide))).mono fun e w' ⟨v', ob', k1, k2, k3⟩ => ⟨v', _, k1, ⟨ob', rfl, k2⟩, Own.joinN hO k3⟩) (fun v9 L9 hv9 => ?_)
  obtain ⟨o9, rfl, hr9⟩ := hv9
  obtain ⟨V9, c9, rfl⟩ := hr9.form
  refine s_val (.slice V8 ((q).length) c8) (by kernel_rfl) (fun _ => by kernel_rfl) ?_
  refine s_callo (k := 25) (args := #[.slice V8 ((q).length) c8]) (fun v' L' => ∃ ob', L' = ob' ++ (o9 ++ (o8 ++ (o7))) ∧ SlS v' (q) ob') (by kernel_rfl) (fun _ => by kernel_rfl) (fun w hO => (copyrow_any V8 c8 q w (Sl.reads hr8 rfl hO (fun x hx => by simp [hx])) (Nat.le_trans hqn (by decide))).mono fun e w' ⟨v', ob', k1, k2, k3⟩ => ⟨v', _, k1, ⟨ob', rfl, k2⟩, Own.joinN hO k3⟩) (fun v10 L10 hv10 => ?_)
  obtain ⟨o10, rfl, hr10⟩ := hv10
  obtain ⟨V10, c10, rfl⟩ := hr10.form
  refine s_val (.slice V9 ((a).length) c9) (by kernel_rfl) (fun _ => by kernel_rfl) ?_
  refine s_val (.slice V10 ((q).length) c10) (by kernel_rfl) (fun _ => by kernel_rfl) ?_
  refine s_nil ?_
  refine fin_seq ?_
  refine ok_seq ?_
  refine ok_region ?_
  refine s_val (.slice V8 ((q).length) c8) (by kernel_rfl) (fun _ => by kernel_rfl) ?_
  refine s_callo (k := 26) (args := #[.slice V8 ((q).length) c8]) (fun v' L' => ∃ mv ob', v' = .tuple #[mv, .bool true] ∧ L' = ob' ++ (o10 ++ (o9 ++ (o8 ++ (o7)))) ∧ SlS mv (makeL q) ob') (by kernel_rfl) (fun _ => by kernel_rfl) (fun w hO => (make4_any V8 c8 q w (Sl.reads hr8 rfl hO (fun x hx => by simp [hx])) (Nat.le_trans hqn (by decide)) hqs).mono fun e w' ⟨v', ob', k1, k2, k3⟩ => ⟨_, _, k1, ⟨v', ob', by rw [hqa], rfl, by rw [if_pos hqa] at k2; exact k2⟩, Own.joinN hO k3⟩) (fun tv11 L11 hv11 => ?_)
  obtain ⟨v11, o11, rfl, rfl, hr11⟩ := hv11
  obtain ⟨V11, c11, rfl⟩ := hr11.form
  refine s_nil ?_
  refine fin_seq ?_
  refine ok_seq ?_
  refine ok_region ?_
  refine s_val (.slice V8 ((q).length) c8) (by kernel_rfl) (fun _ => by kernel_rfl) ?_
  refine s_callo (k := 26) (args := #[.slice V8 ((q).length) c8]) (fun v' L' => ∃ mv ob', v' = .tuple #[mv, .bool true] ∧ L' = ob' ++ (o11 ++ (o10 ++ (o9 ++ (o8 ++ (o7))))) ∧ SlS mv (makeL q) ob') (by kernel_rfl) (fun _ => by kernel_rfl) (fun w hO => (make4_any V8 c8 q w (Sl.reads hr8 rfl hO (fun x hx => by simp [hx])) (Nat.le_trans hqn (by decide)) hqs).mono fun e w' ⟨v', ob', k1, k2, k3⟩ => ⟨_, _, k1, ⟨v', ob', by rw [hqa], rfl, by rw [if_pos hqa] at k2; exact k2⟩, Own.joinN hO k3⟩) (fun tv12 L12 hv12 => ?_)
  obtain ⟨v12, o12, rfl, rfl, hr12⟩ := hv12
  obtain ⟨V12, c12, rfl⟩ := hr12.form
  refine s_val (.tuple #[.slice V12 ((makeL q).length) c12, .bool true]) (by kernel_rfl) (fun _ => by kernel_rfl) ?_
  refine s_val (.slice V12 ((makeL q).length) c12) (by kernel_rfl) (fun _ => by kernel_rfl) ?_
  refine s_val (.bool true) (by kernel_rfl) (fun _ => by kernel_rfl) ?_
  refine s_val (.slice V12 ((makeL q).length) c12) (by kernel_rfl) (fun _ => by kernel_rfl) ?_
  refine s_val (.bool true) (by kernel_rfl) (fun _ => by kernel_rfl) ?_
  refine s_nil ?_
  refine fin_seq ?_
  refine ok_seq ?_
  refine ok_region ?_
  refine s_val (.slice V7 ((a).length) c7) (by kernel_rfl) (fun _ => by kernel_rfl) ?_
  refine s_val (.slice V12 ((makeL q).length) c12) (by kernel_rfl) (fun _ => by kernel_rfl) ?_
  refine s_callo (k := 15) (args := #[.slice V7 ((a).length) c7, .slice V12 ((makeL q).length) c12]) (fun v' L' => ∃ ob', L' = ob' ++ (o12 ++ (o11 ++ (o10 ++ (o9 ++ (o8 ++ (o7)))))) ∧ SlS v' (orL a (makeL q)) ob') (by kernel_rfl) (fun _ => by kernel_rfl) (fun w hO => (or4_any V7 V12 c7 c12 a (makeL q) w (Sl.reads hr7 rfl hO (fun x hx => by simp [hx])) (Sl.reads hr12 rfl hO (fun x hx => by simp [hx])) (Nat.le_trans ((fa).len) (by decide)) (Nat.le_trans (((RF.make (allMay_mem.1 hqa) hqn)).len) (by decide)) (fa).short ((RF.make (allMay_mem.1 hqa) hqn)).short).mono fun e w' ⟨v', ob', k1, k2, k3⟩ => ⟨v', _, k1, ⟨ob', rfl, by rw [if_pos (by rw [(fa).may, ((RF.make (allMay_mem.1 hqa) hqn)).may]; rfl)] at k2; exact k2⟩, Own.joinN hO k3⟩) (fun v13 L13 hv13 => ?_)
  obtain ⟨o13, rfl, hr13⟩ := hv13
  obtain ⟨V13, c13, rfl⟩ := hr13.form
  refine s_nil ?_
  refine fin_seq ?_
  refine ok_seq ?_
  refine ok_region ?_
  refine s_val (.slice V7 ((a).length) c7) (by kernel_rfl) (fun _ => by kernel_rfl) ?_
  refine s_val (.slice V12 ((makeL q).length) c12) (by kernel_rfl) (fun _ => by kernel_rfl) ?_
  refine s_callo (k := 16) (args := #[.slice V7 ((a).length) c7, .slice V12 ((makeL q).length) c12]) (fun v' L' => ∃ ob', L' = ob' ++ (o13 ++ (o12 ++ (o11 ++ (o10 ++ (o9 ++ (o8 ++ (o7))))))) ∧ SlS v' (andL a (makeL q)) ob') (by kernel_rfl) (fun _ => by kernel_rfl) (fun w hO => (and4_any V7 V12 c7 c12 a (makeL q) w (Sl.reads hr7 rfl hO (fun x hx => by simp [hx])) (Sl.reads hr12 rfl hO (fun x hx => by simp [hx])) (Nat.le_trans ((fa).len) (by decide)) (Nat.le_trans (((RF.make (allMay_mem.1 hqa) hqn)).len) (by decide)) (fa).short ((RF.make (allMay_mem.1 hqa) hqn)).short (SlS.cap hr7) (SlS.cap hr12)).mono fun e w' ⟨v', ob', k1, k2, k3⟩ => ⟨v', _, k1, ⟨ob', rfl, by rw [if_pos (by rw [(fa).may, ((RF.make (allMay_mem.1 hqa) hqn)).may]; rfl)] at k2; exact k2⟩, Own.joinN hO k3⟩) (fun v14 L14 hv14 => ?_)
  obtain ⟨o14, rfl, hr14⟩ := hv14
  obtain ⟨V14, c14, rfl⟩ := hr14.form
  refine s_nil ?_
  refine fin_seq ?_
  refine ok_seq ?_
  refine ok_region ?_
  refine s_val (.slice V7 ((a).length) c7) (by kernel_rfl) (fun _ => by kernel_rfl) ?_
  refine s_callo (k := 17) (args := #[.slice V7 ((a).length) c7]) (fun v' L' => ∃ ob', L' = ob' ++ (o14 ++ (o13 ++ (o12 ++ (o11 ++ (o10 ++ (o9 ++ (o8 ++ (o7)))))))) ∧ SlS v' (notL a) ob') (by kernel_rfl) (fun _ => by kernel_rfl) (fun w hO => (not4_any V7 c7 a w (Sl.reads hr7 rfl hO (fun x hx => by simp [hx])) (Nat.le_trans ((fa).len) (by decide)) (fa).short).mono fun e w' ⟨v', ob', k1, k2, k3⟩ => ⟨v', _, k1, ⟨ob', rfl, by rw [if_pos (fa).may] at k2; exact k2⟩, Own.joinN hO k3⟩) (fun v15 L15 hv15 => ?_)
  obtain ⟨o15, rfl, hr15⟩ := hv15
  obtain ⟨V15, c15, rfl⟩ := hr15.form
  refine s_nil ?_
  refine fin_seq ?_
  refine ok_seq ?_
  refine ok_region ?_
  refine s_call (k := 10) (args := #[]) (.bool true) (by kernel_rfl) (fun _ => by kernel_rfl) (fun w _ => awake4_any w) ?_
  refine s_val (.bool true) (by kernel_rfl) (fun _ => by kernel_rfl) ?_
  refine s_val (.slice V7 ((a).length) c7) (by kernel_rfl) (fun _ => by kernel_rfl) ?_
  refine s_val (.slice V9 ((a).length) c9) (by kernel_rfl) (fun _ => by kernel_rfl) ?_
  refine s_call (k := 14) (args := #[.slice V7 ((a).length) c7, .slice V9 ((a).length) c9]) (.bool true) (by kernel_rfl) (fun _ => by kernel_rfl) (fun w hO => ret_b (decide_eq_true (rfl)) (rsame_any V7 V9 c7 c9 a a w (Sl.reads hr7 rfl hO (fun x hx => by simp [hx])) (Sl.reads hr9 rfl hO (fun x hx => by simp [hx])) (Nat.le_trans ((fa).len) (by decide)) (Nat.le_trans ((fa).len) (by decide)))) ?_
  refine s_val (.bool true) (by kernel_rfl) (fun _ => by kernel_rfl) ?_
  refine s_val (.bool true) (by kernel_rfl) (fun _ => by kernel_rfl) ?_
  refine s_val (.slice V8 ((q).length) c8) (by kernel_rfl) (fun _ => by kernel_rfl) ?_
  refine s_val (.slice V10 ((q).length) c10) (by kernel_rfl) (fun _ => by kernel_rfl) ?_
  refine s_call (k := 14) (args := #[.slice V8 ((q).length) c8, .slice V10 ((q).length) c10]) (.bool true) (by kernel_rfl) (fun _ => by kernel_rfl) (fun w hO => ret_b (decide_eq_true (rfl)) (rsame_any V8 V10 c8 c10 q q w (Sl.reads hr8 rfl hO (fun x hx => by simp [hx])) (Sl.reads hr10 rfl hO (fun x hx => by simp [hx])) (Nat.le_trans hqn (by decide)) (Nat.le_trans hqn (by decide)))) ?_
  refine s_val (.bool true) (by kernel_rfl) (fun _ => by kernel_rfl) ?_
  refine s_val (.bool true) (by kernel_rfl) (fun _ => by kernel_rfl) ?_
  refine s_nil ?_
  refine fin_seq ?_
  refine ok_ret ?_
  refine fin_ret (.bool true) Tryz.results6 (by kernel_rfl) ?_
  exact fun w hO => ⟨rfl, hO.below⟩
end Go.Proofs.YtmlecnomdamgnaaGreat
end

section
/-
  RowLent: for every input the call returns true, and each argument reads afterwards as it read before. Conditions: none but the row's own.
-/
namespace Go.Proofs.YtmlecnomdamgnaaGreat.rowLent
open Go.ChangeShapes Go.WideShapes Go.ChangeAt Go.RowKit
open Go.ChangeMaps (open_string shut_string)
set_option linter.unusedVariables false

set_option maxRecDepth 100000 in
theorem contract (H : Type) (enc : TypeId × Value → H) (W : World) (base : Nat) (args : Array Value) (ds gs : List (DataW H)) (before : List MemPlace)
    (hval : ∀ (j : Nat) t v, Tryz.f6.params[j]? = some t → args[j]? = some v → Value.okWide Tryz.prog W .any base t v)
    (hW : DataW.Whole enc Tryz.prog Tryz.f6.params.toList Rows.rowLentSpec.vars false W args.toList ds gs before) (hL : laidMetH Tryz.prog Rows.rowLentRow.laid W) :
    Calls Tryz.prog 6 args W fun e W' => ∃ v, e = .returned v ∧ Rows.rowLentSpec.post enc Tryz.prog Tryz.f6 false true false false W args v W' := by
  have hW' := hW
  obtain ⟨p, q, hA0, hV, rfl, hfz, hnd⟩ := hW
  have hA : DataW.TrodAll enc Tryz.prog W 0 (fun _ => true) true Tryz.f6.params.toList args.toList ds p := hA0
  rw [Tryz.params6] at hA hval
  obtain ⟨v0, vs0, d0, ds0, p0, q0, hargs, rfl, rfl, h0, r0⟩ := trodAll_cons hA
  obtain ⟨v1, vs1, d1, ds1, p1, q1, rfl, rfl, rfl, h1, r1⟩ := trodAll_cons r0
  obtain ⟨rfl, rfl, rfl⟩ := trodAll_nil r1
  obtain rfl : args = #[v0, v1] := by cases args; simp_all
  obtain ⟨rfl, rfl⟩ := trodVars_none hV
  clear hA0
  obtain ⟨l, l_reads, l_len⟩ := open_nums (hval 0 28 v0 rfl rfl) h0
  obtain ⟨m, m_reads, m_len⟩ := open_nums (hval 1 28 v1 rfl rfl) h1
  refine (rowLent.law W v0 l l_reads l_len v1 m m_reads m_len ).mono fun e W' ⟨he, hb⟩ => ?_
  subst he
  exact ⟨_, rfl, law_end laidOut (fun t ht => by rw [Tryz.params6] at ht; simp at ht; subst ht; exact ⟨by kernel_rfl, of_decide_eq_true (by kernel_rfl)⟩) rfl rfl Tryz.underlying4 hW' (by rfl) hb⟩

noncomputable def laidWorld (os : Os) : World :=
  { World.holding Tryz.prog os ⟨#[], #[], []⟩ with heap := (World.holding Tryz.prog os ⟨#[], #[], []⟩).heap }
theorem laid_met (os : Os) : laidMet Tryz.prog Rows.rowLentRow.laid ((laidWorld os).forCall (fun _ _ => 0) ⟨#[], #[.slice none 0 0, .slice none 0 0], []⟩).memory :=
  laidMet_of_run' 8 (by kernel_rfl) (by kernel_rfl)
theorem reads (os : Os) {H : Type} (enc : TypeId × Value → H) : ∃ places, DataW.whole enc Tryz.prog ((laidWorld os).forCall (fun _ _ => 0) ⟨#[], #[.slice none 0 0, .slice none 0 0], []⟩).memory Tryz.f6.params.toList Rows.rowLentSpec.vars false (#[.slice none 0 0, .slice none 0 0] : Array Value).toList 8 = some ([.nil, .nil], [], places) :=
  ⟨[], by kernel_rfl⟩

set_option maxRecDepth 100000 in
theorem lifted (os : Os) (started : os.Started) (H : Type) (enc : TypeId × Value → H) (F : Stop.Interp) :
    ReturnsInHanded {} Tryz.checked os 6 .any ((OpenSpec.ofChange Rows.rowLentSpec).preRow enc Tryz.prog Tryz.f6 Rows.rowLentRow.domain false Rows.rowLentRow.laid) (((OpenSpec.ofChange Rows.rowLentSpec).at F).post enc Tryz.prog Tryz.f6 false true false false) := by
  obtain ⟨places, hx⟩ := reads os enc
  refine returnsInHanded_of_row (C := Tryz.checked) (s := OpenSpec.ofChange Rows.rowLentSpec) own started (by kernel_rfl) Tryz.func6
    (witness_row_at (enc := enc) (C := Tryz.checked) false (laidWorld os) #[.slice none 0 0, .slice none 0 0] rfl (by kernel_rfl) (by kernel_rfl) (by kernel_rfl)
      (OpenSpec.preRow_of_cond 8 hx (by kernel_rfl) (fun k hk => by cases hk) (by kernel_rfl) (laid_met os))) ?_
  intro W base args ds gs before hval hW _ _ _ hL _ _
  exact contract H enc W base args ds gs before hval hW hL

theorem said : Rows.RowLentSaid :=
  OpenClaim.holds_of_cond 6 Tryz.f6 rfl rfl rfl rfl rfl rfl rfl ⟨rfl, rfl, rfl, rfl, rfl⟩ rfl rfl rfl rfl rfl (by kernel_rfl) Tryz.func6 (by kernel_rfl)
    (of_decide_eq_true (by kernel_rfl)) (by unfold Func.isWrapper; first | (rw [if_pos (by decide +kernel)]; kernel_rfl) | (rw [if_neg (by decide +kernel)]; exact ⟨rfl, rfl⟩))
    (fun os started H enc _ F => by rw [OpenClaim.pre_eq_preRow]; exact lifted os started H enc F)

#print axioms said
end Go.Proofs.YtmlecnomdamgnaaGreat.rowLent
end
