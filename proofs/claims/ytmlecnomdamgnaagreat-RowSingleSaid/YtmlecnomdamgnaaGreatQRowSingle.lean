/-
  RowSingle: for every input the call returns true, and each argument reads afterwards as it read before. Conditions: none but the row's own.
-/
import Derived.Test.YtmlecnomdamgnaaGreatRows
import Derived.Test.YtmlecnomdamgnaaGreatM5

section
/-
  RowSingle: for any list of numbers the law returns true, and nothing that was there is changed. No condition.
-/
namespace Go.Proofs.YtmlecnomdamgnaaGreat
open Go.RowKit
set_option maxRecDepth 100000
set_option linter.unusedVariables false
set_option linter.unusedSimpArgs false
set_option maxHeartbeats 2000000

theorem rowG_rf (l : List Int) (i : Nat) : RF (rowG l i) 10 := by
  have h := plc_in (atL l i) (4 + 1 : Nat) (by omega)
  have h2 := spansG_len l i (plc (atL l i) (4 + 1 : Nat)).toNat
  exact RF.make (n := 4) (spansG_may l i _) (by omega)
set_option maxHeartbeats 8000000 in
theorem rowSingle.law (W : World) (x : Value) (xl : List Int) (hxl : ReadsI W W.heap.size x xl) (lxl : xl.length ≤ maxLen) :
    Calls Tryz.prog 7 #[x] W fun e w' => e = .returned (.bool true) ∧ Below W.heap.size W w' := by
  obtain ⟨a, ea⟩ : ∃ q, q = rowG xl 0 := ⟨_, rfl⟩
  have fa : RF a 10 := ea ▸ rowG_rf xl 0
  have hn10 := fa.len
  refine calls_ok (n := 45) Tryz.func7 rfl (by kernel_rfl) (by kernel_rfl) ?_
  refine ok_seq ?_
  refine ok_region ?_
  refine s_val (.bool false) (by kernel_rfl) (fun _ => by kernel_rfl) ?_
  refine s_nil ?_
  refine fin_seq ?_
  refine ok_seq ?_
  refine ok_region ?_
  refine s_val (x) (by kernel_rfl) (fun _ => by kernel_rfl) ?_
  refine s_callo (k := 20) (args := #[x, .int .i64 0]) (fun v' L' => ∃ ob', L' = ob' ++ ([]) ∧ SlS v' (a) ob') (by kernel_rfl) (fun _ => by kernel_rfl) (fun w hO => (row_any x xl 0 w ((hxl.below hO.below).more hO.below.size) (by unfold maxLen at lxl; omega) (by omega)).mono fun e w' ⟨v', ob', k1, k2, k3⟩ => ⟨v', _, k1, ⟨ob', rfl, by rw [← ea] at k2; exact k2⟩, Own.joinN hO k3⟩) (fun v1 L1 hv1 => ?_)
  obtain ⟨o1, rfl, hr1⟩ := hv1
  refine s_cast (L' := o1) (List.append_nil _) ?_
  obtain ⟨V1, c1, rfl⟩ := hr1.form
  refine s_val (.slice V1 ((a).length) c1) (by kernel_rfl) (fun _ => by kernel_rfl) ?_
  refine s_nil ?_
  refine fin_seq ?_
  refine ok_seq ?_
  refine ok_region ?_
  refine s_val (.slice none 0 0) (by kernel_rfl) (fun _ => by kernel_rfl) ?_
  refine s_nil ?_
  refine fin_seq ?_
  refine ok_seq ?_
  refine ok_seq ?_
  refine ok_region ?_
  refine s_val (.int .i64 0) (by kernel_rfl) (fun _ => by kernel_rfl) ?_
  refine s_nil ?_
  refine fin_seq ?_
  refine ok_block ?_
  refine ok_cast (L' := [] ++ o1) rfl ?_
  refine ok_loop (fun L f m => ∃ (k : Nat) (V : Option Addr) (q : Nat) (cv : Nat) (ob : List Blk) (j : Nat → Value), (q = (a.take k).length ∧ k ≤ a.length ∧ SlS (.slice V q cv) (a.take k) ob) ∧ L = ob ++ o1 ∧ f = upds j [(3, .slice V1 a.length c1), (4, .slice V q cv), (5, .int .i64 (k : Int))] ∧ m = a.length - k) (a.length - 0) ⟨0, none, 0, 0, [], _, ⟨by rw [List.take_zero]; rfl, Nat.zero_le _, by rw [List.take_zero]; exact Sl.nil _ _⟩, rfl, upds_self _ ⟨by kernel_rfl, by kernel_rfl, by kernel_rfl, trivial⟩, rfl⟩ ?_
  rintro L f m ⟨k, V, q, cv, ob, j, hrel, rfl, rfl, rfl⟩
  obtain ⟨hq, hkl, hsl⟩ := hrel; subst hq
  refine ok_seq ?_
  refine ok_seq ?_
  refine ok_region ?_
  refine s_val (.int .i64 (k : Int)) (by kernel_rfl) (fun _ => by kernel_rfl) ?_
  refine s_val (.slice V1 a.length c1) (by kernel_rfl) (fun _ => by kernel_rfl) ?_
  refine s_val (.int .i64 (a.length : Int)) (by kernel_rfl) (fun _ => by kernel_rfl) ?_
  by_cases h1 : (k : Int) < (a.length : Int)
  · skip
    have hk : k < a.length := by omega
    obtain ⟨g1, cur1, hA1, _, hcap1, hmax1, _, _⟩ := Sl.block hr1 (by omega)
    obtain ⟨s, hs⟩ : ∃ s, a[k] = s := ⟨_, rfl⟩
    refine s_dec (p := (k : Int) < (a.length : Int)) true (by kernel_rfl) (fun _ => by kernel_rfl) (decide_eq_true (h1)) ?_
    refine s_nil ?_
    refine fin_seq ?_
    refine ok_true (by kernel_rfl) ?_
    refine ok_skip ?_
    refine fin_seq ?_
    refine ok_seq ?_
    refine ok_block ?_
    refine ok_seq ?_
    refine ok_region ?_
    refine s_val (.slice V1 a.length c1) (by kernel_rfl) (fun _ => by kernel_rfl) ?_
    refine s_val (.int .i64 (k : Int)) (by kernel_rfl) (fun _ => by kernel_rfl) ?_
    refine s_val (.int .i64 (k : Int)) (by kernel_rfl) (fun _ => by kernel_rfl) ?_
    refine s_sum (k := .i64) (((k + 1 : Nat) : Int)) (by kernel_rfl) (fun _ => by kernel_rfl) (IntWalk.i64_in _ (by omega)) ?_
    refine s_val (.slice (some ⟨g1, 0 + (if c1 = k then 0 else k * 14), none⟩) (([s] : List Sp).length) (c1 - k)) (by kernel_rfl) (run_sl1 (n := a.length) (c := c1) (k := k) (e := 43) (sz := 14) rfl (by kernel_rfl) hA1 (by kernel_rfl) (by kernel_rfl) (by kernel_rfl) (by kernel_rfl) (by omega)) ?_
    refine s_val (.slice (some ⟨g1, 0 + (if c1 = k then 0 else k * 14), none⟩) (([s] : List Sp).length) (c1 - k)) (by kernel_rfl) (fun _ => by kernel_rfl) ?_
    refine s_nil ?_
    refine fin_seq ?_
    refine ok_seq ?_
    refine ok_seq ?_
    refine ok_region ?_
    refine s_val (.slice (some ⟨g1, 0 + (if c1 = k then 0 else k * 14), none⟩) (([s] : List Sp).length) (c1 - k)) (by kernel_rfl) (fun _ => by kernel_rfl) ?_
    refine s_call (k := 23) (args := #[.slice (some ⟨g1, 0 + (if c1 = k then 0 else k * 14), none⟩) (([s] : List Sp).length) (c1 - k)]) (.bool true) (by kernel_rfl) (fun _ => by kernel_rfl) (fun w hO => ret_b ((one_rf fa hk hs)).may (may4_any ((some ⟨g1, 0 + (if c1 = k then 0 else k * 14), none⟩)) (c1 - k) [s] w (by rw [← hs]; exact Reads.one (i := (k : Int)) spanC_len (Sl.reads hr1 rfl hO (fun x hx => by simp [hx])) hA1 hk hcap1 rfl) (Nat.le_trans (((one_rf fa hk hs)).len) (by decide)) ((one_rf fa hk hs)).short)) ?_
    refine s_val (.bool false) (by kernel_rfl) (fun _ => by kernel_rfl) ?_
    refine s_val (.bool false) (by kernel_rfl) (fun _ => by kernel_rfl) ?_
    refine s_val (.slice (some ⟨g1, 0 + (if c1 = k then 0 else k * 14), none⟩) (([s] : List Sp).length) (c1 - k)) (by kernel_rfl) (fun _ => by kernel_rfl) ?_
    refine s_val (.slice V1 a.length c1) (by kernel_rfl) (fun _ => by kernel_rfl) ?_
    refine s_call (k := 18) (args := #[.slice (some ⟨g1, 0 + (if c1 = k then 0 else k * 14), none⟩) (([s] : List Sp).length) (c1 - k), .slice V1 a.length c1]) (.bool true) (by kernel_rfl) (fun _ => by kernel_rfl) (fun w hO => ret_b (by rw [((one_rf fa hk hs)).may, (fa).may, decide_eq_true (one_in4 fa.may hk hs)]; rfl) (within4_any ((some ⟨g1, 0 + (if c1 = k then 0 else k * 14), none⟩)) V1 (c1 - k) c1 [s] a w (by rw [← hs]; exact Reads.one (i := (k : Int)) spanC_len (Sl.reads hr1 rfl hO (fun x hx => by simp [hx])) hA1 hk hcap1 rfl) (Sl.reads hr1 rfl hO (fun x hx => by simp [hx])) (Nat.le_trans (((one_rf fa hk hs)).len) (by decide)) (Nat.le_trans ((fa).len) (by decide)) ((one_rf fa hk hs)).short (fa).short (show 1 ≤ c1 - k by omega) (SlS.cap hr1))) ?_
    refine s_val (.bool false) (by kernel_rfl) (fun _ => by kernel_rfl) ?_
    refine s_val (.bool false) (by kernel_rfl) (fun _ => by kernel_rfl) ?_
    refine s_val (.bool false) (by kernel_rfl) (fun _ => by kernel_rfl) ?_
    refine s_val (.slice V ((a.take k).length) cv) (by kernel_rfl) (fun _ => by kernel_rfl) ?_
    refine s_val (.slice (some ⟨g1, 0 + (if c1 = k then 0 else k * 14), none⟩) (([s] : List Sp).length) (c1 - k)) (by kernel_rfl) (fun _ => by kernel_rfl) ?_
    refine s_callo (k := 16) (args := #[.slice V ((a.take k).length) cv, .slice (some ⟨g1, 0 + (if c1 = k then 0 else k * 14), none⟩) (([s] : List Sp).length) (c1 - k)]) (fun v' L' => ∃ ob', L' = ob' ++ (ob ++ (o1)) ∧ SlS v' (andL (a.take k) [s]) ob') (by kernel_rfl) (fun _ => by kernel_rfl) (fun w hO => (and4_any V ((some ⟨g1, 0 + (if c1 = k then 0 else k * 14), none⟩)) cv (c1 - k) (a.take k) [s] w (Sl.reads hsl rfl hO (fun x hx => by simp [hx])) (by rw [← hs]; exact Reads.one (i := (k : Int)) spanC_len (Sl.reads hr1 rfl hO (fun x hx => by simp [hx])) hA1 hk hcap1 rfl) (Nat.le_trans (((take_rf fa k)).len) (by decide)) (Nat.le_trans (((one_rf fa hk hs)).len) (by decide)) ((take_rf fa k)).short ((one_rf fa hk hs)).short (SlS.cap hsl) (show 1 ≤ c1 - k by omega)).mono fun e w' ⟨v', ob', k1, k2, k3⟩ => ⟨v', _, k1, ⟨ob', rfl, by rw [if_pos (by rw [((take_rf fa k)).may, ((one_rf fa hk hs)).may]; rfl)] at k2; exact k2⟩, Own.joinN hO k3⟩) (fun v2 L2 hv2 => ?_)
    obtain ⟨o2, rfl, hr2⟩ := hv2
    obtain ⟨V2, c2, rfl⟩ := hr2.form
    refine s_val (.int .i64 ((andL (a.take k) [s]).length : Int)) (by kernel_rfl) (fun _ => by kernel_rfl) ?_
    refine s_dec (p := (0 : Int) < ((andL (a.take k) [s]).length : Int)) false (by kernel_rfl) (fun _ => by kernel_rfl) (decide_eq_false (fun h0 => by rw [apart4 fa.may hk hs] at h0; exact absurd h0 (by decide))) ?_
    refine s_val (.bool false) (by kernel_rfl) (fun _ => by kernel_rfl) ?_
    refine s_nil ?_
    refine fin_seq ?_
    refine ok_false (by kernel_rfl) ?_
    refine ok_skip ?_
    refine fin_seq ?_
    refine ok_region ?_
    refine s_val (.slice V ((a.take k).length) cv) (by kernel_rfl) (fun _ => by kernel_rfl) ?_
    refine s_val (.slice (some ⟨g1, 0 + (if c1 = k then 0 else k * 14), none⟩) (([s] : List Sp).length) (c1 - k)) (by kernel_rfl) (fun _ => by kernel_rfl) ?_
    refine s_callo (k := 15) (args := #[.slice V ((a.take k).length) cv, .slice (some ⟨g1, 0 + (if c1 = k then 0 else k * 14), none⟩) (([s] : List Sp).length) (c1 - k)]) (fun v' L' => ∃ ob', L' = ob' ++ (o2 ++ (ob ++ (o1))) ∧ SlS v' (orL (a.take k) [s]) ob') (by kernel_rfl) (fun _ => by kernel_rfl) (fun w hO => (or4_any V ((some ⟨g1, 0 + (if c1 = k then 0 else k * 14), none⟩)) cv (c1 - k) (a.take k) [s] w (Sl.reads hsl rfl hO (fun x hx => by simp [hx])) (by rw [← hs]; exact Reads.one (i := (k : Int)) spanC_len (Sl.reads hr1 rfl hO (fun x hx => by simp [hx])) hA1 hk hcap1 rfl) (Nat.le_trans (((take_rf fa k)).len) (by decide)) (Nat.le_trans (((one_rf fa hk hs)).len) (by decide)) ((take_rf fa k)).short ((one_rf fa hk hs)).short).mono fun e w' ⟨v', ob', k1, k2, k3⟩ => ⟨v', _, k1, ⟨ob', rfl, by rw [if_pos (by rw [((take_rf fa k)).may, ((one_rf fa hk hs)).may]; rfl)] at k2; exact k2⟩, Own.joinN hO k3⟩) (fun v3 L3 hv3 => ?_)
    obtain ⟨o3, rfl, hr3⟩ := hv3
    obtain ⟨V3, c3, rfl⟩ := hr3.form
    refine s_val (.slice V3 ((orL (a.take k) [s]).length) c3) (by kernel_rfl) (fun _ => by kernel_rfl) ?_
    refine s_nil ?_
    refine fin_block ?_
    refine fin_seq ?_
    refine ok_region ?_
    refine s_val (.int .i64 (k : Int)) (by kernel_rfl) (fun _ => by kernel_rfl) ?_
    refine s_sum (k := .i64) (((k + 1 : Nat) : Int)) (by kernel_rfl) (fun _ => by kernel_rfl) (IntWalk.i64_in _ (by omega)) ?_
    refine s_val (.int .i64 ((k + 1 : Nat) : Int)) (by kernel_rfl) (fun _ => by kernel_rfl) ?_
    refine s_nil ?_
    refine fin_take (L' := o3 ++ o1) (fun w hO => Own.sublist hO ((List.Sublist.refl _).append ((List.sublist_append_right _ _).trans (List.sublist_append_right _ _)))) ?_
    exact fin_round (m' := a.length - (k + 1)) (by omega) ⟨k + 1, V3, (orL (a.take k) [s]).length, c3, o3, _, ⟨by rw [next4 fa.may hk hs], by omega, by rw [← next4 fa.may hk hs]; exact hr3⟩, rfl, upds_self _ ⟨by kernel_rfl, by kernel_rfl, by kernel_rfl, trivial⟩, rfl⟩
  · skip
    refine s_dec (p := (k : Int) < (a.length : Int)) false (by kernel_rfl) (fun _ => by kernel_rfl) (decide_eq_false (h1)) ?_
    refine s_nil ?_
    refine fin_seq ?_
    refine ok_false (by kernel_rfl) ?_
    refine ok_exit ?_
    refine fin_seq_exit ?_
    refine fin_round_exit ?_
    refine fin_block_exit ?_
    refine fin_seq ?_
    refine ok_seq ?_
    refine ok_region ?_
    refine s_call (k := 10) (args := #[]) (.bool true) (by kernel_rfl) (fun _ => by kernel_rfl) (fun w _ => awake4_any w) ?_
    refine s_val (.bool true) (by kernel_rfl) (fun _ => by kernel_rfl) ?_
    refine s_val (.slice V ((a.take k).length) cv) (by kernel_rfl) (fun _ => by kernel_rfl) ?_
    refine s_val (.slice V1 a.length c1) (by kernel_rfl) (fun _ => by kernel_rfl) ?_
    refine s_call (k := 14) (args := #[.slice V ((a.take k).length) cv, .slice V1 a.length c1]) (.bool true) (by kernel_rfl) (fun _ => by kernel_rfl) (fun w hO => ret_b (decide_eq_true (List.take_of_length_le (by omega))) (rsame_any V V1 cv c1 (a.take k) a w (Sl.reads hsl rfl hO (fun x hx => by simp [hx])) (Sl.reads hr1 rfl hO (fun x hx => by simp [hx])) (Nat.le_trans (((take_rf fa k)).len) (by decide)) (Nat.le_trans ((fa).len) (by decide)))) ?_
    refine s_val (.bool true) (by kernel_rfl) (fun _ => by kernel_rfl) ?_
    refine s_val (.bool true) (by kernel_rfl) (fun _ => by kernel_rfl) ?_
    refine s_nil ?_
    refine fin_seq ?_
    refine ok_ret ?_
    refine fin_ret (.bool true) Tryz.results7 (by kernel_rfl) ?_
    exact fun w hO => ⟨rfl, hO.below⟩
end Go.Proofs.YtmlecnomdamgnaaGreat
end

section
/-
  RowSingle: for every input the call returns true, and each argument reads afterwards as it read before. Conditions: none but the row's own.
-/
namespace Go.Proofs.YtmlecnomdamgnaaGreat.rowSingle
open Go.ChangeShapes Go.WideShapes Go.ChangeAt Go.RowKit
open Go.ChangeMaps (open_string shut_string)
set_option linter.unusedVariables false

set_option maxRecDepth 100000 in
theorem contract (H : Type) (enc : TypeId × Value → H) (W : World) (base : Nat) (args : Array Value) (ds gs : List (DataW H)) (before : List MemPlace)
    (hval : ∀ (j : Nat) t v, Tryz.f7.params[j]? = some t → args[j]? = some v → Value.okWide Tryz.prog W .any base t v)
    (hW : DataW.Whole enc Tryz.prog Tryz.f7.params.toList Rows.rowSingleSpec.vars false W args.toList ds gs before) (hL : laidMetH Tryz.prog Rows.rowSingleRow.laid W) :
    Calls Tryz.prog 7 args W fun e W' => ∃ v, e = .returned v ∧ Rows.rowSingleSpec.post enc Tryz.prog Tryz.f7 false true false false W args v W' := by
  have hW' := hW
  obtain ⟨p, q, hA0, hV, rfl, hfz, hnd⟩ := hW
  have hA : DataW.TrodAll enc Tryz.prog W 0 (fun _ => true) true Tryz.f7.params.toList args.toList ds p := hA0
  rw [Tryz.params7] at hA hval
  obtain ⟨v0, vs0, d0, ds0, p0, q0, hargs, rfl, rfl, h0, r0⟩ := trodAll_cons hA
  obtain ⟨rfl, rfl, rfl⟩ := trodAll_nil r0
  obtain rfl : args = #[v0] := by cases args; simp_all
  obtain ⟨rfl, rfl⟩ := trodVars_none hV
  clear hA0
  obtain ⟨l, l_reads, l_len⟩ := open_nums (hval 0 28 v0 rfl rfl) h0
  refine (rowSingle.law W v0 l l_reads l_len ).mono fun e W' ⟨he, hb⟩ => ?_
  subst he
  exact ⟨_, rfl, law_end laidOut (fun t ht => by rw [Tryz.params7] at ht; simp at ht; subst ht; exact ⟨by kernel_rfl, of_decide_eq_true (by kernel_rfl)⟩) rfl rfl Tryz.underlying4 hW' (by rfl) hb⟩

noncomputable def laidWorld (os : Os) : World :=
  { World.holding Tryz.prog os ⟨#[], #[], []⟩ with heap := (World.holding Tryz.prog os ⟨#[], #[], []⟩).heap }
theorem laid_met (os : Os) : laidMet Tryz.prog Rows.rowSingleRow.laid ((laidWorld os).forCall (fun _ _ => 0) ⟨#[], #[.slice none 0 0], []⟩).memory :=
  laidMet_of_run' 8 (by kernel_rfl) (by kernel_rfl)
theorem reads (os : Os) {H : Type} (enc : TypeId × Value → H) : ∃ places, DataW.whole enc Tryz.prog ((laidWorld os).forCall (fun _ _ => 0) ⟨#[], #[.slice none 0 0], []⟩).memory Tryz.f7.params.toList Rows.rowSingleSpec.vars false (#[.slice none 0 0] : Array Value).toList 8 = some ([.nil], [], places) :=
  ⟨[], by kernel_rfl⟩

set_option maxRecDepth 100000 in
theorem lifted (os : Os) (started : os.Started) (H : Type) (enc : TypeId × Value → H) (F : Stop.Interp) :
    ReturnsInHanded {} Tryz.checked os 7 .any ((OpenSpec.ofChange Rows.rowSingleSpec).preRow enc Tryz.prog Tryz.f7 Rows.rowSingleRow.domain false Rows.rowSingleRow.laid) (((OpenSpec.ofChange Rows.rowSingleSpec).at F).post enc Tryz.prog Tryz.f7 false true false false) := by
  obtain ⟨places, hx⟩ := reads os enc
  refine returnsInHanded_of_row (C := Tryz.checked) (s := OpenSpec.ofChange Rows.rowSingleSpec) own started (by kernel_rfl) Tryz.func7
    (witness_row_at (enc := enc) (C := Tryz.checked) false (laidWorld os) #[.slice none 0 0] rfl (by kernel_rfl) (by kernel_rfl) (by kernel_rfl)
      (OpenSpec.preRow_of_cond 8 hx (by kernel_rfl) (fun k hk => by cases hk) (by kernel_rfl) (laid_met os))) ?_
  intro W base args ds gs before hval hW _ _ _ hL _ _
  exact contract H enc W base args ds gs before hval hW hL

theorem said : Rows.RowSingleSaid :=
  OpenClaim.holds_of_cond 7 Tryz.f7 rfl rfl rfl rfl rfl rfl rfl ⟨rfl, rfl, rfl, rfl, rfl⟩ rfl rfl rfl rfl rfl (by kernel_rfl) Tryz.func7 (by kernel_rfl)
    (of_decide_eq_true (by kernel_rfl)) (by unfold Func.isWrapper; first | (rw [if_pos (by decide +kernel)]; kernel_rfl) | (rw [if_neg (by decide +kernel)]; exact ⟨rfl, rfl⟩))
    (fun os started H enc _ F => by rw [OpenClaim.pre_eq_preRow]; exact lifted os started H enc F)

#print axioms said
end Go.Proofs.YtmlecnomdamgnaaGreat.rowSingle
end
