/-
  RowMeans: for every input the call returns true, and each argument reads afterwards as it read before. Conditions: none but the row's own.
-/
import Derived.Test.YtmlecnomdamgnaaGreatRows
import Derived.Test.YtmlecnomdamgnaaGreatM5

section
/-
  RowMeans: for any lists of numbers the law returns true, and nothing that was there is changed. No condition.
-/
namespace Go.Proofs.YtmlecnomdamgnaaGreat
open Go.RowKit
set_option maxRecDepth 100000
set_option linter.unusedVariables false
set_option linter.unusedSimpArgs false
set_option maxHeartbeats 2000000

theorem rowG_rf (l : List Int) (i : Nat) : RF (rowG l i) 10 := by
  have h := plc_in (atL l i) (4 + 1 : Nat) (by omega)
  have h2 := spansG_len l i (plc (atL l i) (4 + 1 : Nat)).toNat
  exact RF.make (n := 4) (spansG_may l i _) (by omega)
set_option maxHeartbeats 8000000 in
theorem rowMeans.law (W : World) (x : Value) (xl : List Int) (hxl : ReadsI W W.heap.size x xl) (lxl : xl.length ≤ maxLen) (y : Value) (yl : List Int) (hyl : ReadsI W W.heap.size y yl) (lyl : yl.length ≤ maxLen) :
    Calls Tryz.prog 4 #[x, y] W fun e w' => e = .returned (.bool true) ∧ Below W.heap.size W w' := by
  obtain ⟨a, ea⟩ : ∃ q, q = rowG xl 0 := ⟨_, rfl⟩
  have fa : RF a 10 := ea ▸ rowG_rf xl 0
  obtain ⟨b, eb⟩ : ∃ q, q = rowG yl 0 := ⟨_, rfl⟩
  have fb : RF b 10 := eb ▸ rowG_rf yl 0
  obtain ⟨u, eu⟩ : ∃ q, q = genV xl 49 := ⟨_, rfl⟩
  have mu : u.may = true := eu ▸ gen_may xl 49
  have su : u.short := eu ▸ ⟨Nat.le_trans (gen_pre xl 49) (by decide), Nat.le_trans (gen_bld xl 49) (by decide)⟩
  refine calls_ok (n := 74) Tryz.func4 rfl (by kernel_rfl) (by kernel_rfl) ?_
  refine ok_seq ?_
  refine ok_region ?_
  refine s_val (.bool false) (by kernel_rfl) (fun _ => by kernel_rfl) ?_
  refine s_nil ?_
  refine fin_seq ?_
  refine ok_seq ?_
  refine ok_region ?_
  refine s_val (x) (by kernel_rfl) (fun _ => by kernel_rfl) ?_
  refine s_callo (k := 20) (args := #[x, .int .i64 0]) (fun v' L' => ∃ ob', L' = ob' ++ ([]) ∧ SlS v' (a) ob') (by kernel_rfl) (fun _ => by kernel_rfl) (fun w hO => (row_any x xl 0 w ((hxl.below hO.below).more hO.below.size) (by unfold maxLen at lxl; omega) (by omega)).mono fun e w' ⟨v', ob', k1, k2, k3⟩ => ⟨v', _, k1, ⟨ob', rfl, by rw [← ea] at k2; exact k2⟩, Own.joinN hO k3⟩) (fun v5 L5 hv5 => ?_)
  obtain ⟨o5, rfl, hr5⟩ := hv5
  refine s_cast (L' := o5) (List.append_nil _) ?_
  obtain ⟨V5, c5, rfl⟩ := hr5.form
  refine s_val (y) (by kernel_rfl) (fun _ => by kernel_rfl) ?_
  refine s_callo (k := 20) (args := #[y, .int .i64 0]) (fun v' L' => ∃ ob', L' = ob' ++ (o5) ∧ SlS v' (b) ob') (by kernel_rfl) (fun _ => by kernel_rfl) (fun w hO => (row_any y yl 0 w ((hyl.below hO.below).more hO.below.size) (by unfold maxLen at lyl; omega) (by omega)).mono fun e w' ⟨v', ob', k1, k2, k3⟩ => ⟨v', _, k1, ⟨ob', rfl, by rw [← eb] at k2; exact k2⟩, Own.joinN hO k3⟩) (fun v6 L6 hv6 => ?_)
  obtain ⟨o6, rfl, hr6⟩ := hv6
  obtain ⟨V6, c6, rfl⟩ := hr6.form
  refine s_val (x) (by kernel_rfl) (fun _ => by kernel_rfl) ?_
  refine s_call (k := 21) (args := #[x, .int .i64 49]) (verV u) (by kernel_rfl) (fun _ => by kernel_rfl) (fun w hO => ret_v (by rw [eu]) (gen_any x xl 49 w ((hxl.below hO.below).more hO.below.size) (by unfold maxLen at lxl; omega) (by omega))) ?_
  refine s_alloc_at (.agg #[.int .i64 0, .int .i64 0, .int .i64 0, .string ⟨#[]⟩, .string ⟨#[]⟩]) (by kernel_rfl) rfl (by kernel_rfl) (fun b1 => ?_)
  refine s_val (.slice V5 ((a).length) c5) (by kernel_rfl) (fun _ => by kernel_rfl) ?_
  refine s_val (.slice V6 ((b).length) c6) (by kernel_rfl) (fun _ => by kernel_rfl) ?_
  refine s_store_at 0 ⟨b1, #[.int .i64 0, .int .i64 0, .int .i64 0, .string ⟨#[]⟩, .string ⟨#[]⟩], 31⟩ (off := 0) (verV u) (by kernel_rfl) rfl rfl (by kernel_rfl) (by kernel_rfl) (by kernel_rfl) (by kernel_rfl) (by kernel_rfl) ?_
  refine s_nil ?_
  refine fin_seq ?_
  refine ok_seq ?_
  refine ok_draw (by kernel_rfl) (by kernel_rfl) ?_
  refine q_val (.slice V5 ((a).length) c5) (by kernel_rfl) (fun _ => by kernel_rfl) ?_
  refine q_load 0 ⟨b1, (verV u).cells, 31⟩ (off := 0) (verV u) (by kernel_rfl) rfl (by kernel_rfl) (by kernel_rfl) (by kernel_rfl) ?_
  cases h1 : rowHas a u with
  | true =>
    refine q_call (k := 22) (args := #[.slice V5 ((a).length) c5, verV u]) (.bool true) (by kernel_rfl) (fun _ => by kernel_rfl) (fun w hO => ret_b (h1) (has4_any V5 c5 a u w (Sl.reads hr5 rfl hO (fun x hx => by simp [hx])) (Nat.le_trans ((fa).len) (by decide)) (fa).short su)) ?_
    refine q_val (.slice V6 ((b).length) c6) (by kernel_rfl) (fun _ => by kernel_rfl) ?_
    refine q_load 0 ⟨b1, (verV u).cells, 31⟩ (off := 0) (verV u) (by kernel_rfl) rfl (by kernel_rfl) (by kernel_rfl) (by kernel_rfl) ?_
    cases h2 : rowHas b u with
    | true =>
      refine q_call (k := 22) (args := #[.slice V6 ((b).length) c6, verV u]) (.bool true) (by kernel_rfl) (fun _ => by kernel_rfl) (fun w hO => ret_b (h2) (has4_any V6 c6 b u w (Sl.reads hr6 rfl hO (fun x hx => by simp [hx])) (Nat.le_trans ((fb).len) (by decide)) (fb).short su)) ?_
      refine q_val (.bool true) (by kernel_rfl) (fun _ => by kernel_rfl) ?_
      refine q_val (.bool true) (by kernel_rfl) (fun _ => by kernel_rfl) ?_
      refine q_nil ?_
      refine fin_seq ?_
      refine ok_seq ?_
      refine ok_region ?_
      refine s_val (.slice V5 ((a).length) c5) (by kernel_rfl) (fun _ => by kernel_rfl) ?_
      refine s_val (.slice V6 ((b).length) c6) (by kernel_rfl) (fun _ => by kernel_rfl) ?_
      refine s_callo (k := 15) (args := #[.slice V5 ((a).length) c5, .slice V6 ((b).length) c6]) (fun v' L' => ∃ ob', L' = ob' ++ (⟨b1, (verV u).cells, 31⟩ :: (o6 ++ (o5))) ∧ SlS v' (orL a b) ob') (by kernel_rfl) (fun _ => by kernel_rfl) (fun w hO => (or4_any V5 V6 c5 c6 a b w (Sl.reads hr5 rfl hO (fun x hx => by simp [hx])) (Sl.reads hr6 rfl hO (fun x hx => by simp [hx])) (Nat.le_trans ((fa).len) (by decide)) (Nat.le_trans ((fb).len) (by decide)) (fa).short (fb).short).mono fun e w' ⟨v', ob', k1, k2, k3⟩ => ⟨v', _, k1, ⟨ob', rfl, by rw [if_pos (by rw [(fa).may, (fb).may]; rfl)] at k2; exact k2⟩, Own.joinN hO k3⟩) (fun v7 L7 hv7 => ?_)
      obtain ⟨o7, rfl, hr7⟩ := hv7
      obtain ⟨V7, c7, rfl⟩ := hr7.form
      refine s_val (.slice V5 ((a).length) c5) (by kernel_rfl) (fun _ => by kernel_rfl) ?_
      refine s_val (.slice V6 ((b).length) c6) (by kernel_rfl) (fun _ => by kernel_rfl) ?_
      refine s_callo (k := 16) (args := #[.slice V5 ((a).length) c5, .slice V6 ((b).length) c6]) (fun v' L' => ∃ ob', L' = ob' ++ (o7 ++ (⟨b1, (verV u).cells, 31⟩ :: (o6 ++ (o5)))) ∧ SlS v' (andL a b) ob') (by kernel_rfl) (fun _ => by kernel_rfl) (fun w hO => (and4_any V5 V6 c5 c6 a b w (Sl.reads hr5 rfl hO (fun x hx => by simp [hx])) (Sl.reads hr6 rfl hO (fun x hx => by simp [hx])) (Nat.le_trans ((fa).len) (by decide)) (Nat.le_trans ((fb).len) (by decide)) (fa).short (fb).short (SlS.cap hr5) (SlS.cap hr6)).mono fun e w' ⟨v', ob', k1, k2, k3⟩ => ⟨v', _, k1, ⟨ob', rfl, by rw [if_pos (by rw [(fa).may, (fb).may]; rfl)] at k2; exact k2⟩, Own.joinN hO k3⟩) (fun v8 L8 hv8 => ?_)
      obtain ⟨o8, rfl, hr8⟩ := hv8
      obtain ⟨V8, c8, rfl⟩ := hr8.form
      refine s_val (.slice V5 ((a).length) c5) (by kernel_rfl) (fun _ => by kernel_rfl) ?_
      refine s_callo (k := 17) (args := #[.slice V5 ((a).length) c5]) (fun v' L' => ∃ ob', L' = ob' ++ (o8 ++ (o7 ++ (⟨b1, (verV u).cells, 31⟩ :: (o6 ++ (o5))))) ∧ SlS v' (notL a) ob') (by kernel_rfl) (fun _ => by kernel_rfl) (fun w hO => (not4_any V5 c5 a w (Sl.reads hr5 rfl hO (fun x hx => by simp [hx])) (Nat.le_trans ((fa).len) (by decide)) (fa).short).mono fun e w' ⟨v', ob', k1, k2, k3⟩ => ⟨v', _, k1, ⟨ob', rfl, by rw [if_pos (fa).may] at k2; exact k2⟩, Own.joinN hO k3⟩) (fun v9 L9 hv9 => ?_)
      obtain ⟨o9, rfl, hr9⟩ := hv9
      obtain ⟨V9, c9, rfl⟩ := hr9.form
      refine s_val (.slice V7 ((orL a b).length) c7) (by kernel_rfl) (fun _ => by kernel_rfl) ?_
      refine s_val (.slice V8 ((andL a b).length) c8) (by kernel_rfl) (fun _ => by kernel_rfl) ?_
      refine s_val (.slice V9 ((notL a).length) c9) (by kernel_rfl) (fun _ => by kernel_rfl) ?_
      refine s_nil ?_
      refine fin_seq ?_
      refine ok_seq ?_
      refine ok_region ?_
      refine s_call (k := 10) (args := #[]) (.bool true) (by kernel_rfl) (fun _ => by kernel_rfl) (fun w _ => awake4_any w) ?_
      refine s_val (.bool true) (by kernel_rfl) (fun _ => by kernel_rfl) ?_
      refine s_val (.slice V7 ((orL a b).length) c7) (by kernel_rfl) (fun _ => by kernel_rfl) ?_
      refine s_loadm ⟨b1, (verV u).cells, 31⟩ (off := 0) (verV u) (by kernel_rfl) rfl (by simp) (by kernel_rfl) (by kernel_rfl) ?_
      refine s_call (k := 22) (args := #[.slice V7 ((orL a b).length) c7, verV u]) (.bool true) (by kernel_rfl) (fun _ => by kernel_rfl) (fun w hO => ret_b (by rw [has_or4 fa.may fb.may mu, h1, h2]; rfl) (has4_any V7 c7 (orL a b) u w (Sl.reads hr7 rfl hO (fun x hx => by simp [hx])) (Nat.le_trans (((fa).or (fb)).len) (by decide)) ((fa).or (fb)).short su)) ?_
      refine s_val (.bool true) (by kernel_rfl) (fun _ => by kernel_rfl) ?_
      refine s_val (.bool true) (by kernel_rfl) (fun _ => by kernel_rfl) ?_
      refine s_skip (by kernel_rfl) ?_
      refine s_val (.bool true) (by kernel_rfl) (fun _ => by kernel_rfl) ?_
      refine s_val (.bool true) (by kernel_rfl) (fun _ => by kernel_rfl) ?_
      refine s_val (.bool true) (by kernel_rfl) (fun _ => by kernel_rfl) ?_
      refine s_val (.bool true) (by kernel_rfl) (fun _ => by kernel_rfl) ?_
      refine s_val (.slice V8 ((andL a b).length) c8) (by kernel_rfl) (fun _ => by kernel_rfl) ?_
      refine s_loadm ⟨b1, (verV u).cells, 31⟩ (off := 0) (verV u) (by kernel_rfl) rfl (by simp) (by kernel_rfl) (by kernel_rfl) ?_
      refine s_call (k := 22) (args := #[.slice V8 ((andL a b).length) c8, verV u]) (.bool true) (by kernel_rfl) (fun _ => by kernel_rfl) (fun w hO => ret_b (by rw [has_and4 fa.may fb.may mu, h1, h2]; rfl) (has4_any V8 c8 (andL a b) u w (Sl.reads hr8 rfl hO (fun x hx => by simp [hx])) (Nat.le_trans (((fa).and (fb)).len) (by decide)) ((fa).and (fb)).short su)) ?_
      refine s_val (.bool true) (by kernel_rfl) (fun _ => by kernel_rfl) ?_
      refine s_val (.bool true) (by kernel_rfl) (fun _ => by kernel_rfl) ?_
      refine s_val (.bool true) (by kernel_rfl) (fun _ => by kernel_rfl) ?_
      refine s_val (.bool true) (by kernel_rfl) (fun _ => by kernel_rfl) ?_
      refine s_val (.bool true) (by kernel_rfl) (fun _ => by kernel_rfl) ?_
      refine s_val (.bool true) (by kernel_rfl) (fun _ => by kernel_rfl) ?_
      refine s_val (.bool true) (by kernel_rfl) (fun _ => by kernel_rfl) ?_
      refine s_val (.slice V9 ((notL a).length) c9) (by kernel_rfl) (fun _ => by kernel_rfl) ?_
      refine s_loadm ⟨b1, (verV u).cells, 31⟩ (off := 0) (verV u) (by kernel_rfl) rfl (by simp) (by kernel_rfl) (by kernel_rfl) ?_
      refine s_call (k := 22) (args := #[.slice V9 ((notL a).length) c9, verV u]) (.bool false) (by kernel_rfl) (fun _ => by kernel_rfl) (fun w hO => ret_b (by rw [has_not4 fa.may mu, h1]; rfl) (has4_any V9 c9 (notL a) u w (Sl.reads hr9 rfl hO (fun x hx => by simp [hx])) (Nat.le_trans (((fa).not).len) (by decide)) ((fa).not).short su)) ?_
      refine s_val (.bool true) (by kernel_rfl) (fun _ => by kernel_rfl) ?_
      refine s_val (.bool false) (by kernel_rfl) (fun _ => by kernel_rfl) ?_
      refine s_val (.bool true) (by kernel_rfl) (fun _ => by kernel_rfl) ?_
      refine s_val (.bool true) (by kernel_rfl) (fun _ => by kernel_rfl) ?_
      refine s_val (.bool true) (by kernel_rfl) (fun _ => by kernel_rfl) ?_
      refine s_val (.slice V7 ((orL a b).length) c7) (by kernel_rfl) (fun _ => by kernel_rfl) ?_
      refine s_call (k := 23) (args := #[.slice V7 ((orL a b).length) c7]) (.bool true) (by kernel_rfl) (fun _ => by kernel_rfl) (fun w hO => ret_b ((fa).or (fb)).may (may4_any V7 c7 (orL a b) w (Sl.reads hr7 rfl hO (fun x hx => by simp [hx])) (Nat.le_trans (((fa).or (fb)).len) (by decide)) ((fa).or (fb)).short)) ?_
      refine s_val (.bool true) (by kernel_rfl) (fun _ => by kernel_rfl) ?_
      refine s_val (.bool true) (by kernel_rfl) (fun _ => by kernel_rfl) ?_
      refine s_val (.slice V8 ((andL a b).length) c8) (by kernel_rfl) (fun _ => by kernel_rfl) ?_
      refine s_call (k := 23) (args := #[.slice V8 ((andL a b).length) c8]) (.bool true) (by kernel_rfl) (fun _ => by kernel_rfl) (fun w hO => ret_b ((fa).and (fb)).may (may4_any V8 c8 (andL a b) w (Sl.reads hr8 rfl hO (fun x hx => by simp [hx])) (Nat.le_trans (((fa).and (fb)).len) (by decide)) ((fa).and (fb)).short)) ?_
      refine s_val (.bool true) (by kernel_rfl) (fun _ => by kernel_rfl) ?_
      refine s_val (.bool true) (by kernel_rfl) (fun _ => by kernel_rfl) ?_
      refine s_val (.slice V9 ((notL a).length) c9) (by kernel_rfl) (fun _ => by kernel_rfl) ?_
      refine s_call (k := 23) (args := #[.slice V9 ((notL a).length) c9]) (.bool true) (by kernel_rfl) (fun _ => by kernel_rfl) (fun w hO => ret_b ((fa).not).may (may4_any V9 c9 (notL a) w (Sl.reads hr9 rfl hO (fun x hx => by simp [hx])) (Nat.le_trans (((fa).not).len) (by decide)) ((fa).not).short)) ?_
      refine s_val (.bool true) (by kernel_rfl) (fun _ => by kernel_rfl) ?_
      refine s_val (.bool true) (by kernel_rfl) (fun _ => by kernel_rfl) ?_
      refine s_nil ?_
      refine fin_seq ?_
      refine ok_ret ?_
      refine fin_ret (.bool true) Tryz.results4 (by kernel_rfl) ?_
      exact fun w hO => ⟨rfl, hO.below⟩
    | false =>
      refine q_call (k := 22) (args := #[.slice V6 ((b).length) c6, verV u]) (.bool false) (by kernel_rfl) (fun _ => by kernel_rfl) (fun w hO => ret_b (h2) (has4_any V6 c6 b u w (Sl.reads hr6 rfl hO (fun x hx => by simp [hx])) (Nat.le_trans ((fb).len) (by decide)) (fb).short su)) ?_
      refine q_val (.bool true) (by kernel_rfl) (fun _ => by kernel_rfl) ?_
      refine q_val (.bool false) (by kernel_rfl) (fun _ => by kernel_rfl) ?_
      refine q_nil ?_
      refine fin_seq ?_
      refine ok_seq ?_
      refine ok_region ?_
      refine s_val (.slice V5 ((a).length) c5) (by kernel_rfl) (fun _ => by kernel_rfl) ?_
      refine s_val (.slice V6 ((b).length) c6) (by kernel_rfl) (fun _ => by kernel_rfl) ?_
      refine s_callo (k := 15) (args := #[.slice V5 ((a).length) c5, .slice V6 ((b).length) c6]) (fun v' L' => ∃ ob', L' = ob' ++ (⟨b1, (verV u).cells, 31⟩ :: (o6 ++ (o5))) ∧ SlS v' (orL a b) ob') (by kernel_rfl) (fun _ => by kernel_rfl) (fun w hO => (or4_any V5 V6 c5 c6 a b w (Sl.reads hr5 rfl hO (fun x hx => by simp [hx])) (Sl.reads hr6 rfl hO (fun x hx => by simp [hx])) (Nat.le_trans ((fa).len) (by decide)) (Nat.le_trans ((fb).len) (by decide)) (fa).short (fb).short).mono fun e w' ⟨v', ob', k1, k2, k3⟩ => ⟨v', _, k1, ⟨ob', rfl, by rw [if_pos (by rw [(fa).may, (fb).may]; rfl)] at k2; exact k2⟩, Own.joinN hO k3⟩) (fun v10 L10 hv10 => ?_)
      obtain ⟨o10, rfl, hr10⟩ := hv10
      obtain ⟨V10, c10, rfl⟩ := hr10.form
      refine s_val (.slice V5 ((a).length) c5) (by kernel_rfl) (fun _ => by kernel_rfl) ?_
      refine s_val (.slice V6 ((b).length) c6) (by kernel_rfl) (fun _ => by kernel_rfl) ?_
      refine s_callo (k := 16) (args := #[.slice V5 ((a).length) c5, .slice V6 ((b).length) c6]) (fun v' L' => ∃ ob', L' = ob' ++ (o10 ++ (⟨b1, (verV u).cells, 31⟩ :: (o6 ++ (o5)))) ∧ SlS v' (andL a b) ob') (by kernel_rfl) (fun _ => by kernel_rfl) (fun w hO => (and4_any V5 V6 c5 c6 a b w (Sl.reads hr5 rfl hO (fun x hx => by simp [hx])) (Sl.reads hr6 rfl hO (fun x hx => by simp [hx])) (Nat.le_trans ((fa).len) (by decide)) (Nat.le_trans ((fb).len) (by decide)) (fa).short (fb).short (SlS.cap hr5) (SlS.cap hr6)).mono fun e w' ⟨v', ob', k1, k2, k3⟩ => ⟨v', _, k1, ⟨ob', rfl, by rw [if_pos (by rw [(fa).may, (fb).may]; rfl)] at k2; exact k2⟩, Own.joinN hO k3⟩) (fun v11 L11 hv11 => ?_)
      obtain ⟨o11, rfl, hr11⟩ := hv11
      obtain ⟨V11, c11, rfl⟩ := hr11.form
      refine s_val (.slice V5 ((a).length) c5) (by kernel_rfl) (fun _ => by kernel_rfl) ?_
      refine s_callo (k := 17) (args := #[.slice V5 ((a).length) c5]) (fun v' L' => ∃ ob', L' = ob' ++ (o11 ++ (o10 ++ (⟨b1, (verV u).cells, 31⟩ :: (o6 ++ (o5))))) ∧ SlS v' (notL a) ob') (by kernel_rfl) (fun _ => by kernel_rfl) (fun w hO => (not4_any V5 c5 a w (Sl.reads hr5 rfl hO (fun x hx => by simp [hx])) (Nat.le_trans ((fa).len) (by decide)) (fa).short).mono fun e w' ⟨v', ob', k1, k2, k3⟩ => ⟨v', _, k1, ⟨ob', rfl, by rw [if_pos (fa).may] at k2; exact k2⟩, Own.joinN hO k3⟩) (fun v12 L12 hv12 => ?_)
      obtain ⟨o12, rfl, hr12⟩ := hv12
      obtain ⟨V12, c12, rfl⟩ := hr12.form
      refine s_val (.slice V10 ((orL a b).length) c10) (by kernel_rfl) (fun _ => by kernel_rfl) ?_
      refine s_val (.slice V11 ((andL a b).length) c11) (by kernel_rfl) (fun _ => by kernel_rfl) ?_
      refine s_val (.slice V12 ((notL a).length) c12) (by kernel_rfl) (fun _ => by kernel_rfl) ?_
      refine s_nil ?_
      refine fin_seq ?_
      refine ok_seq ?_
      refine ok_region ?_
      refine s_call (k := 10) (args := #[]) (.bool true) (by kernel_rfl) (fun _ => by kernel_rfl) (fun w _ => awake4_any w) ?_
      refine s_val (.bool true) (by kernel_rfl) (fun _ => by kernel_rfl) ?_
      refine s_val (.slice V10 ((orL a b).length) c10) (by kernel_rfl) (fun _ => by kernel_rfl) ?_
      refine s_loadm ⟨b1, (verV u).cells, 31⟩ (off := 0) (verV u) (by kernel_rfl) rfl (by simp) (by kernel_rfl) (by kernel_rfl) ?_
      refine s_call (k := 22) (args := #[.slice V10 ((orL a b).length) c10, verV u]) (.bool true) (by kernel_rfl) (fun _ => by kernel_rfl) (fun w hO => ret_b (by rw [has_or4 fa.may fb.may mu, h1, h2]; rfl) (has4_any V10 c10 (orL a b) u w (Sl.reads hr10 rfl hO (fun x hx => by simp [hx])) (Nat.le_trans (((fa).or (fb)).len) (by decide)) ((fa).or (fb)).short su)) ?_
      refine s_val (.bool true) (by kernel_rfl) (fun _ => by kernel_rfl) ?_
      refine s_val (.bool true) (by kernel_rfl) (fun _ => by kernel_rfl) ?_
      refine s_skip (by kernel_rfl) ?_
      refine s_val (.bool true) (by kernel_rfl) (fun _ => by kernel_rfl) ?_
      refine s_val (.bool true) (by kernel_rfl) (fun _ => by kernel_rfl) ?_
      refine s_val (.bool true) (by kernel_rfl) (fun _ => by kernel_rfl) ?_
      refine s_val (.bool true) (by kernel_rfl) (fun _ => by kernel_rfl) ?_
      refine s_val (.slice V11 ((andL a b).length) c11) (by kernel_rfl) (fun _ => by kernel_rfl) ?_
      refine s_loadm ⟨b1, (verV u).cells, 31⟩ (off := 0) (verV u) (by kernel_rfl) rfl (by simp) (by kernel_rfl) (by kernel_rfl) ?_
      refine s_call (k := 22) (args := #[.slice V11 ((andL a b).length) c11, verV u]) (.bool false) (by kernel_rfl) (fun _ => by kernel_rfl) (fun w hO => ret_b (by rw [has_and4 fa.may fb.may mu, h1, h2]; rfl) (has4_any V11 c11 (andL a b) u w (Sl.reads hr11 rfl hO (fun x hx => by simp [hx])) (Nat.le_trans (((fa).and (fb)).len) (by decide)) ((fa).and (fb)).short su)) ?_
      refine s_val (.bool true) (by kernel_rfl) (fun _ => by kernel_rfl) ?_
      refine s_val (.bool true) (by kernel_rfl) (fun _ => by kernel_rfl) ?_
      refine s_val (.bool false) (by kernel_rfl) (fun _ => by kernel_rfl) ?_
      refine s_val (.bool false) (by kernel_rfl) (fun _ => by kernel_rfl) ?_
      refine s_val (.bool true) (by kernel_rfl) (fun _ => by kernel_rfl) ?_
      refine s_val (.bool true) (by kernel_rfl) (fun _ => by kernel_rfl) ?_
      refine s_val (.bool true) (by kernel_rfl) (fun _ => by kernel_rfl) ?_
      refine s_val (.slice V12 ((notL a).length) c12) (by kernel_rfl) (fun _ => by kernel_rfl) ?_
      refine s_loadm ⟨b1, (verV u).cells, 31⟩ (off := 0) (verV u) (by kernel_rfl) rfl (by simp) (by kernel_rfl) (by kernel_rfl) ?_
      refine s_call (k := 22) (args := #[.slice V12 ((notL a).length) c12, verV u]) (.bool false) (by kernel_rfl) (fun _ => by kernel_rfl) (fun w hO => ret_b (by rw [has_not4 fa.may mu, h1]; rfl) (has4_any V12 c12 (notL a) u w (Sl.reads hr12 rfl hO (fun x hx => by simp [hx])) (Nat.le_trans (((fa).not).len) (by decide)) ((fa).not).short su)) ?_
      refine s_val (.bool true) (by kernel_rfl) (fun _ => by kernel_rfl) ?_
      refine s_val (.bool false) (by kernel_rfl) (fun _ => by kernel_rfl) ?_
      refine s_val (.bool true) (by kernel_rfl) (fun _ => by kernel_rfl) ?_
      refine s_val (.bool true) (by kernel_rfl) (fun _ => by kernel_rfl) ?_
      refine s_val (.bool true) (by kernel_rfl) (fun _ => by kernel_rfl) ?_
      refine s_val (.slice V10 ((orL a b).length) c10) (by kernel_rfl) (fun _ => by kernel_rfl) ?_
      refine s_call (k := 23) (args := #[.slice V10 ((orL a b).length) c10]) (.bool true) (by kernel_rfl) (fun _ => by kernel_rfl) (fun w hO => ret_b ((fa).or (fb)).may (may4_any V10 c10 (orL a b) w (Sl.reads hr10 rfl hO (fun x hx => by simp [hx])) (Nat.le_trans (((fa).or (fb)).len) (by decide)) ((fa).or (fb)).short)) ?_
      refine s_val (.bool true) (by kernel_rfl) (fun _ => by kernel_rfl) ?_
      refine s_val (.bool true) (by kernel_rfl) (fun _ => by kernel_rfl) ?_
      refine s_val (.slice V11 ((andL a b).length) c11) (by kernel_rfl) (fun _ => by kernel_rfl) ?_
      refine s_call (k := 23) (args := #[.slice V11 ((andL a b).length) c11]) (.bool true) (by kernel_rfl) (fun _ => by kernel_rfl) (fun w hO => ret_b ((fa).and (fb)).may (may4_any V11 c11 (andL a b) w (Sl.reads hr11 rfl hO (fun x hx => by simp [hx])) (Nat.le_trans (((fa).and (fb)).len) (by decide)) ((fa).and (fb)).short)) ?_
      refine s_val (.bool true) (by kernel_rfl) (fun _ => by kernel_rfl) ?_
      refine s_val (.bool true) (by kernel_rfl) (fun _ => by kernel_rfl) ?_
      refine s_val (.slice V12 ((notL a).length) c12) (by kernel_rfl) (fun _ => by kernel_rfl) ?_
      refine s_call (k := 23) (args := #[.slice V12 ((notL a).length) c12]) (.bool true) (by kernel_rfl) (fun _ => by kernel_rfl) (fun w hO => ret_b ((fa).not).may (may4_any V12 c12 (notL a) w (Sl.reads hr12 rfl hO (fun x hx => by simp [hx])) (Nat.le_trans (((fa).not).len) (by decide)) ((fa).not).short)) ?_
      refine s_val (.bool true) (by kernel_rfl) (fun _ => by kernel_rfl) ?_
      refine s_val (.bool true) (by kernel_rfl) (fun _ => by kernel_rfl) ?_
      refine s_nil ?_
      refine fin_seq ?_
      refine ok_ret ?_
      refine fin_ret (.bool true) Tryz.results4 (by kernel_rfl) ?_
      exact fun w hO => ⟨rfl, hO.below⟩
  | false =>
    refine q_call (k := 22) (args := #[.slice V5 ((a).length) c5, verV u]) (.bool false) (by kernel_rfl) (fun _ => by kernel_rfl) (fun w hO => ret_b (h1) (has4_any V5 c5 a u w (Sl.reads hr5 rfl hO (fun x hx => by simp [hx])) (Nat.le_trans ((fa).len) (by decide)) (fa).short su)) ?_
    refine q_val (.slice V6 ((b).length) c6) (by kernel_rfl) (fun _ => by kernel_rfl) ?_
    refine q_load 0 ⟨b1, (verV u).cells, 31⟩ (off := 0) (verV u) (by kernel_rfl) rfl (by kernel_rfl) (by kernel_rfl) (by kernel_rfl) ?_
    cases h3 : rowHas b u with
    | true =>
      refine q_call (k := 22) (args := #[.slice V6 ((b).length) c6, verV u]) (.bool true) (by kernel_rfl) (fun _ => by kernel_rfl) (fun w hO => ret_b (h3) (has4_any V6 c6 b u w (Sl.reads hr6 rfl hO (fun x hx => by simp [hx])) (Nat.le_trans ((fb).len) (by decide)) (fb).short su)) ?_
      refine q_val (.bool false) (by kernel_rfl) (fun _ => by kernel_rfl) ?_
      refine q_val (.bool true) (by kernel_rfl) (fun _ => by kernel_rfl) ?_
      refine q_nil ?_
      refine fin_seq ?_
      refine ok_seq ?_
      refine ok_region ?_
      refine s_val (.slice V5 ((a).length) c5) (by kernel_rfl) (fun _ => by kernel_rfl) ?_
      refine s_val (.slice V6 ((b).length) c6) (by kernel_rfl) (fun _ => by kernel_rfl) ?_
      refine s_callo (k := 15) (args := #[.slice V5 ((a).length) c5, .slice V6 ((b).length) c6]) (fun v' L' => ∃ ob', L' = ob' ++ (⟨b1, (verV u).cells, 31⟩ :: (o6 ++ (o5))) ∧ SlS v' (orL a b) ob') (by kernel_rfl) (fun _ => by kernel_rfl) (fun w hO => (or4_any V5 V6 c5 c6 a b w (Sl.reads hr5 rfl hO (fun x hx => by simp [hx])) (Sl.reads hr6 rfl hO (fun x hx => by simp [hx])) (Nat.le_trans ((fa).len) (by decide)) (Nat.le_trans ((fb).len) (by decide)) (fa).short (fb).short).mono fun e w' ⟨v', ob', k1, k2, k3⟩ => ⟨v', _, k1, ⟨ob', rfl, by rw [if_pos (by rw [(fa).may, (fb).may]; rfl)] at k2; exact k2⟩, Own.joinN hO k3⟩) (fun v13 L13 hv13 => ?_)
      obtain ⟨o13, rfl, hr13⟩ := hv13
      obtain ⟨V13, c13, rfl⟩ := hr13.form
      refine s_val (.slice V5 ((a).length) c5) (by kernel_rfl) (fun _ => by kernel_rfl) ?_
      refine s_val (.slice V6 ((b).length) c6) (by kernel_rfl) (fun _ => by kernel_rfl) ?_
      refine s_callo (k := 16) (args := #[.slice V5 ((a).length) c5, .slice V6 ((b).length) c6]) (fun v' L' => ∃ ob', L' = ob' ++ (o13 ++ (⟨b1, (verV u).cells, 31⟩ :: (o6 ++ (o5)))) ∧ SlS v' (andL a b) ob') (by kernel_rfl) (fun _ => by kernel_rfl) (fun w hO => (and4_any V5 V6 c5 c6 a b w (Sl.reads hr5 rfl hO (fun x hx => by simp [hx])) (Sl.reads hr6 rfl hO (fun x hx => by simp [hx])) (Nat.le_trans ((fa).len) (by decide)) (Nat.le_trans ((fb).len) (by decide)) (fa).short (fb).short (SlS.cap hr5) (SlS.cap hr6)).mono fun e w' ⟨v', ob', k1, k2, k3⟩ => ⟨v', _, k1, ⟨ob', rfl, by rw [if_pos (by rw [(fa).may, (fb).may]; rfl)] at k2; exact k2⟩, Own.joinN hO k3⟩) (fun v14 L14 hv14 => ?_)
      obtain ⟨o14, rfl, hr14⟩ := hv14
      obtain ⟨V14, c14, rfl⟩ := hr14.form
      refine s_val (.slice V5 ((a).length) c5) (by kernel_rfl) (fun _ => by kernel_rfl) ?_
      refine s_callo (k := 17) (args := #[.slice V5 ((a).length) c5]) (fun v' L' => ∃ ob', L' = ob' ++ (o14 ++ (o13 ++ (⟨b1, (verV u).cells, 31⟩ :: (o6 ++ (o5))))) ∧ SlS v' (notL a) ob') (by kernel_rfl) (fun _ => by kernel_rfl) (fun w hO => (not4_any V5 c5 a w (Sl.reads hr5 rfl hO (fun x hx => by simp [hx])) (Nat.le_trans ((fa).len) (by decide)) (fa).short).mono fun e w' ⟨v', ob', k1, k2, k3⟩ => ⟨v', _, k1, ⟨ob', rfl, by rw [if_pos (fa).may] at k2; exact k2⟩, Own.joinN hO k3⟩) (fun v15 L15 hv15 => ?_)
      obtain ⟨o15, rfl, hr15⟩ := hv15
      obtain ⟨V15, c15, rfl⟩ := hr15.form
      refine s_val (.slice V13 ((orL a b).length) c13) (by kernel_rfl) (fun _ => by kernel_rfl) ?_
      refine s_val (.slice V14 ((andL a b).length) c14) (by kernel_rfl) (fun _ => by kernel_rfl) ?_
      refine s_val (.slice V15 ((notL a).length) c15) (by kernel_rfl) (fun _ => by kernel_rfl) ?_
      refine s_nil ?_
      refine fin_seq ?_
      refine ok_seq ?_
      refine ok_region ?_
      refine s_call (k := 10) (args := #[]) (.bool true) (by kernel_rfl) (fun _ => by kernel_rfl) (fun w _ => awake4_any w) ?_
      refine s_val (.bool true) (by kernel_rfl) (fun _ => by kernel_rfl) ?_
      refine s_val (.slice V13 ((orL a b).length) c13) (by kernel_rfl) (fun _ => by kernel_rfl) ?_
      refine s_loadm ⟨b1, (verV u).cells, 31⟩ (off := 0) (verV u) (by kernel_rfl) rfl (by simp) (by kernel_rfl) (by kernel_rfl) ?_
      refine s_call (k := 22) (args := #[.slice V13 ((orL a b).length) c13, verV u]) (.bool true) (by kernel_rfl) (fun _ => by kernel_rfl) (fun w hO => ret_b (by rw [has_or4 fa.may fb.may mu, h1, h3]; rfl) (has4_any V13 c13 (orL a b) u w (Sl.reads hr13 rfl hO (fun x hx => by simp [hx])) (Nat.le_trans (((fa).or (fb)).len) (by decide)) ((fa).or (fb)).short su)) ?_
      refine s_val (.bool false) (by kernel_rfl) (fun _ => by kernel_rfl) ?_
      refine s_val (.bool false) (by kernel_rfl) (fun _ => by kernel_rfl) ?_
      refine s_val (.bool true) (by kernel_rfl) (fun _ => by kernel_rfl) ?_
      refine s_val (.bool true) (by kernel_rfl) (fun _ => by kernel_rfl) ?_
      refine s_val (.bool true) (by kernel_rfl) (fun _ => by kernel_rfl) ?_
      refine s_val (.bool true) (by kernel_rfl) (fun _ => by kernel_rfl) ?_
      refine s_val (.bool true) (by kernel_rfl) (fun _ => by kernel_rfl) ?_
      refine s_val (.slice V14 ((andL a b).length) c14) (by kernel_rfl) (fun _ => by kernel_rfl) ?_
      refine s_loadm ⟨b1, (verV u).cells, 31⟩ (off := 0) (verV u) (by kernel_rfl) rfl (by simp) (by kernel_rfl) (by kernel_rfl) ?_
      refine s_call (k := 22) (args := #[.slice V14 ((andL a b).length) c14, verV u]) (.bool false) (by kernel_rfl) (fun _ => by kernel_rfl) (fun w hO => ret_b (by rw [has_and4 fa.may fb.may mu, h1, h3]; rfl) (has4_any V14 c14 (andL a b) u w (Sl.reads hr14 rfl hO (fun x hx => by simp [hx])) (Nat.le_trans (((fa).and (fb)).len) (by decide)) ((fa).and (fb)).short su)) ?_
      refine s_val (.bool false) (by kernel_rfl) (fun _ => by kernel_rfl) ?_
      refine s_val (.bool false) (by kernel_rfl) (fun _ => by kernel_rfl) ?_
      refine s_skip (by kernel_rfl) ?_
      refine s_val (.bool false) (by kernel_rfl) (fun _ => by kernel_rfl) ?_
      refine s_val (.bool true) (by kernel_rfl) (fun _ => by kernel_rfl) ?_
      refine s_val (.bool true) (by kernel_rfl) (fun _ => by kernel_rfl) ?_
      refine s_val (.bool true) (by kernel_rfl) (fun _ => by kernel_rfl) ?_
      refine s_val (.slice V15 ((notL a).length) c15) (by kernel_rfl) (fun _ => by kernel_rfl) ?_
      refine s_loadm ⟨b1, (verV u).cells, 31⟩ (off := 0) (verV u) (by kernel_rfl) rfl (by simp) (by kernel_rfl) (by kernel_rfl) ?_
      refine s_call (k := 22) (args := #[.slice V15 ((notL a).length) c15, verV u]) (.bool true) (by kernel_rfl) (fun _ => by kernel_rfl) (fun w hO => ret_b (by rw [has_not4 fa.may mu, h1]; rfl) (has4_any V15 c15 (notL a) u w (Sl.reads hr15 rfl hO (fun x hx => by simp [hx])) (Nat.le_trans (((fa).not).len) (by decide)) ((fa).not).short su)) ?_
      refine s_val (.bool false) (by kernel_rfl) (fun _ => by kernel_rfl) ?_
      refine s_val (.bool true) (by kernel_rfl) (fun _ => by kernel_rfl) ?_
      refine s_val (.bool true) (by kernel_rfl) (fun _ => by kernel_rfl) ?_
      refine s_val (.bool true) (by kernel_rfl) (fun _ => by kernel_rfl) ?_
      refine s_val (.bool true) (by kernel_rfl) (fun _ => by kernel_rfl) ?_
      refine s_val (.slice V13 ((orL a b).length) c13) (by kernel_rfl) (fun _ => by kernel_rfl) ?_
      refine s_call (k := 23) (args := #[.slice V13 ((orL a b).length) c13]) (.bool true) (by kernel_rfl) (fun _ => by kernel_rfl) (fun w hO => ret_b ((fa).or (fb)).may (may4_any V13 c13 (orL a b) w (Sl.reads hr13 rfl hO (fun x hx => by simp [hx])) (Nat.le_trans (((fa).or (fb)).len) (by decide)) ((fa).or (fb)).short)) ?_
      refine s_val (.bool true) (by kernel_rfl) (fun _ => by kernel_rfl) ?_
      refine s_val (.bool true) (by kernel_rfl) (fun _ => by kernel_rfl) ?_
      refine s_val (.slice V14 ((andL a b).length) c14) (by kernel_rfl) (fun _ => by kernel_rfl) ?_
      refine s_call (k := 23) (args := #[.slice V14 ((andL a b).length) c14]) (.bool true) (by kernel_rfl) (fun _ => by kernel_rfl) (fun w hO => ret_b ((fa).and (fb)).may (may4_any V14 c14 (andL a b) w (Sl.reads hr14 rfl hO (fun x hx => by simp [hx])) (Nat.le_trans (((fa).and (fb)).len) (by decide)) ((fa).and (fb)).short)) ?_
      refine s_val (.bool true) (by kernel_rfl) (fun _ => by kernel_rfl) ?_
      refine s_val (.bool true) (by kernel_rfl) (fun _ => by kernel_rfl) ?_
      refine s_val (.slice V15 ((notL a).length) c15) (by kernel_rfl) (fun _ => by kernel_rfl) ?_
      refine s_call (k := 23) (args := #[.slice V15 ((notL a).length) c15]) (.bool true) (by kernel_rfl) (fun _ => by kernel_rfl) (fun w hO => ret_b ((fa).not).may (may4_any V15 c15 (notL a) w (Sl.reads hr15 rfl hO (fun x hx => by simp [hx])) (Nat.le_trans (((fa).not).len) (by decide)) ((fa).not).short)) ?_
      refine s_val (.bool true) (by kernel_rfl) (fun _ => by kernel_rfl) ?_
      refine s_val (.bool true) (by kernel_rfl) (fun _ => by kernel_rfl) ?_
      refine s_nil ?_
      refine fin_seq ?_
      refine ok_ret ?_
      refine fin_ret (.bool true) Tryz.results4 (by kernel_rfl) ?_
      exact fun w hO => ⟨rfl, hO.below⟩
    | false =>
      refine q_call (k := 22) (args := #[.slice V6 ((b).length) c6, verV u]) (.bool false) (by kernel_rfl) (fun _ => by kernel_rfl) (fun w hO => ret_b (h3) (has4_any V6 c6 b u w (Sl.reads hr6 rfl hO (fun x hx => by simp [hx])) (Nat.le_trans ((fb).len) (by decide)) (fb).short su)) ?_
      refine q_val (.bool false) (by kernel_rfl) (fun _ => by kernel_rfl) ?_
      refine q_val (.bool false) (by kernel_rfl) (fun _ => by kernel_rfl) ?_
      refine q_nil ?_
      refine fin_seq ?_
      refine ok_seq ?_
      refine ok_region ?_
      refine s_val (.slice V5 ((a).length) c5) (by kernel_rfl) (fun _ => by kernel_rfl) ?_
      refine s_val (.slice V6 ((b).length) c6) (by kernel_rfl) (fun _ => by kernel_rfl) ?_
      refine s_callo (k := 15) (args := #[.slice V5 ((a).length) c5, .slice V6 ((b).length) c6]) (fun v' L' => ∃ ob', L' = ob' ++ (⟨b1, (verV u).cells, 31⟩ :: (o6 ++ (o5))) ∧ SlS v' (orL a b) ob') (by kernel_rfl) (fun _ => by kernel_rfl) (fun w hO => (or4_any V5 V6 c5 c6 a b w (Sl.reads hr5 rfl hO (fun x hx => by simp [hx])) (Sl.reads hr6 rfl hO (fun x hx => by simp [hx])) (Nat.le_trans ((fa).len) (by decide)) (Nat.le_trans ((fb).len) (by decide)) (fa).short (fb).short).mono fun e w' ⟨v', ob', k1, k2, k3⟩ => ⟨v', _, k1, ⟨ob', rfl, by rw [if_pos (by rw [(fa).may, (fb).may]; rfl)] at k2; exact k2⟩, Own.joinN hO k3⟩) (fun v16 L16 hv16 => ?_)
      obtain ⟨o16, rfl, hr16⟩ := hv16
      obtain ⟨V16, c16, rfl⟩ := hr16.form
      refine s_val (.slice V5 ((a).length) c5) (by kernel_rfl) (fun _ => by kernel_rfl) ?_
      refine s_val (.slice V6 ((b).length) c6) (by kernel_rfl) (fun _ => by kernel_rfl) ?_
      refine s_callo (k := 16) (args := #[.slice V5 ((a).length) c5, .slice V6 ((b).length) c6]) (fun v' L' => ∃ ob', L' = ob' ++ (o16 ++ (⟨b1, (verV u).cells, 31⟩ :: (o6 ++ (o5)))) ∧ SlS v' (andL a b) ob') (by kernel_rfl) (fun _ => by kernel_rfl) (fun w hO => (and4_any V5 V6 c5 c6 a b w (Sl.reads hr5 rfl hO (fun x hx => by simp [hx])) (Sl.reads hr6 rfl hO (fun x hx => by simp [hx])) (Nat.le_trans ((fa).len) (by decide)) (Nat.le_trans ((fb).len) (by decide)) (fa).short (fb).short (SlS.cap hr5) (SlS.cap hr6)).mono fun e w' ⟨v', ob', k1, k2, k3⟩ => ⟨v', _, k1, ⟨ob', rfl, by rw [if_pos (by rw [(fa).may, (fb).may]; rfl)] at k2; exact k2⟩, Own.joinN hO k3⟩) (fun v17 L17 hv17 => ?_)
      obtain ⟨o17, rfl, hr17⟩ := hv17
      obtain ⟨V17, c17, rfl⟩ := hr17.form
      refine s_val (.slice V5 ((a).length) c5) (by kernel_rfl) (fun _ => by kernel_rfl) ?_
      refine s_callo (k := 17) (args := #[.slice V5 ((a).length) c5]) (fun v' L' => ∃ ob', L' = ob' ++ (o17 ++ (o16 ++ (⟨b1, (verV u).cells, 31⟩ :: (o6 ++ (o5))))) ∧ SlS v' (notL a) ob') (by kernel_rfl) (fun _ => by kernel_rfl) (fun w hO => (not4_any V5 c5 a w (Sl.reads hr5 rfl hO (fun x hx => by simp [hx])) (Nat.le_trans ((fa).len) (by decide)) (fa).short).mono fun e w' ⟨v', ob', k1, k2, k3⟩ => ⟨v', _, k1, ⟨ob', rfl, by rw [if_pos (fa).may] at k2; exact k2⟩, Own.joinN hO k3⟩) (fun v18 L18 hv18 => ?_)
      obtain ⟨o18, rfl, hr18⟩ := hv18
      obtain ⟨V18, c18, rfl⟩ := hr18.form
      refine s_val (.slice V16 ((orL a b).length) c16) (by kernel_rfl) (fun _ => by kernel_rfl) ?_
      refine s_val (.slice V17 ((andL a b).length) c17) (by kernel_rfl) (fun _ => by kernel_rfl) ?_
      refine s_val (.slice V18 ((notL a).length) c18) (by kernel_rfl) (fun _ => by kernel_rfl) ?_
      refine s_nil ?_
      refine fin_seq ?_
      refine ok_seq ?_
      refine ok_region ?_
      refine s_call (k := 10) (args := #[]) (.bool true) (by kernel_rfl) (fun _ => by kernel_rfl) (fun w _ => awake4_any w) ?_
      refine s_val (.bool true) (by kernel_rfl) (fun _ => by kernel_rfl) ?_
      refine s_val (.slice V16 ((orL a b).length) c16) (by kernel_rfl) (fun _ => by kernel_rfl) ?_
      refine s_loadm ⟨b1, (verV u).cells, 31⟩ (off := 0) (verV u) (by kernel_rfl) rfl (by simp) (by kernel_rfl) (by kernel_rfl) ?_
      refine s_call (k := 22) (args := #[.slice V16 ((orL a b).length) c16, verV u]) (.bool false) (by kernel_rfl) (fun _ => by kernel_rfl) (fun w hO => ret_b (by rw [has_or4 fa.may fb.may mu, h1, h3]; rfl) (has4_any V16 c16 (orL a b) u w (Sl.reads hr16 rfl hO (fun x hx => by simp [hx])) (Nat.le_trans (((fa).or (fb)).len) (by decide)) ((fa).or (fb)).short su)) ?_
      refine s_val (.bool false) (by kernel_rfl) (fun _ => by kernel_rfl) ?_
      refine s_val (.bool false) (by kernel_rfl) (fun _ => by kernel_rfl) ?_
      refine s_val (.bool false) (by kernel_rfl) (fun _ => by kernel_rfl) ?_
      refine s_val (.bool false) (by kernel_rfl) (fun _ => by kernel_rfl) ?_
      refine s_val (.bool true) (by kernel_rfl) (fun _ => by kernel_rfl) ?_
      refine s_val (.bool true) (by kernel_rfl) (fun _ => by kernel_rfl) ?_
      refine s_val (.bool true) (by kernel_rfl) (fun _ => by kernel_rfl) ?_
      refine s_val (.slice V17 ((andL a b).length) c17) (by kernel_rfl) (fun _ => by kernel_rfl) ?_
      refine s_loadm ⟨b1, (verV u).cells, 31⟩ (off := 0) (verV u) (by kernel_rfl) rfl (by simp) (by kernel_rfl) (by kernel_rfl) ?_
      refine s_call (k := 22) (args := #[.slice V17 ((andL a b).length) c17, verV u]) (.bool false) (by kernel_rfl) (fun _ => by kernel_rfl) (fun w hO => ret_b (by rw [has_and4 fa.may fb.may mu, h1, h3]; rfl) (has4_any V17 c17 (andL a b) u w (Sl.reads hr17 rfl hO (fun x hx => by simp [hx])) (Nat.le_trans (((fa).and (fb)).len) (by decide)) ((fa).and (fb)).short su)) ?_
      refine s_val (.bool false) (by kernel_rfl) (fun _ => by kernel_rfl) ?_
      refine s_val (.bool false) (by kernel_rfl) (fun _ => by kernel_rfl) ?_
      refine s_skip (by kernel_rfl) ?_
      refine s_val (.bool false) (by kernel_rfl) (fun _ => by kernel_rfl) ?_
      refine s_val (.bool true) (by kernel_rfl) (fun _ => by kernel_rfl) ?_
      refine s_val (.bool true) (by kernel_rfl) (fun _ => by kernel_rfl) ?_
      refine s_val (.bool true) (by kernel_rfl) (fun _ => by kernel_rfl) ?_
      refine s_val (.slice V18 ((notL a).length) c18) (by kernel_rfl) (fun _ => by kernel_rfl) ?_
      refine s_loadm ⟨b1, (verV u).cells, 31⟩ (off := 0) (verV u) (by kernel_rfl) rfl (by simp) (by kernel_rfl) (by kernel_rfl) ?_
      refine s_call (k := 22) (args := #[.slice V18 ((notL a).length) c18, verV u]) (.bool true) (by kernel_rfl) (fun _ => by kernel_rfl) (fun w hO => ret_b (by rw [has_not4 fa.may mu, h1]; rfl) (has4_any V18 c18 (notL a) u w (Sl.reads hr18 rfl hO (fun x hx => by simp [hx])) (Nat.le_trans (((fa).not).len) (by decide)) ((fa).not).short su)) ?_
      refine s_val (.bool false) (by kernel_rfl) (fun _ => by kernel_rfl) ?_
      refine s_val (.bool true) (by kernel_rfl) (fun _ => by kernel_rfl) ?_
      refine s_val (.bool true) (by kernel_rfl) (fun _ => by kernel_rfl) ?_
      refine s_val (.bool true) (by kernel_rfl) (fun _ => by kernel_rfl) ?_
      refine s_val (.bool true) (by kernel_rfl) (fun _ => by kernel_rfl) ?_
      refine s_val (.slice V16 ((orL a b).length) c16) (by kernel_rfl) (fun _ => by kernel_rfl) ?_
      refine s_call (k := 23) (args := #[.slice V16 ((orL a b).length) c16]) (.bool true) (by kernel_rfl) (fun _ => by kernel_rfl) (fun w hO => ret_b ((fa).or (fb)).may (may4_any V16 c16 (orL a b) w (Sl.reads hr16 rfl hO (fun x hx => by simp [hx])) (Nat.le_trans (((fa).or (fb)).len) (by decide)) ((fa).or (fb)).short)) ?_
      refine s_val (.bool true) (by kernel_rfl) (fun _ => by kernel_rfl) ?_
      refine s_val (.bool true) (by kernel_rfl) (fun _ => by kernel_rfl) ?_
      refine s_val (.slice V17 ((andL a b).length) c17) (by kernel_rfl) (fun _ => by kernel_rfl) ?_
      refine s_call (k := 23) (args := #[.slice V17 ((andL a b).length) c17]) (.bool true) (by kernel_rfl) (fun _ => by kernel_rfl) (fun w hO => ret_b ((fa).and (fb)).may (may4_any V17 c17 (andL a b) w (Sl.reads hr17 rfl hO (fun x hx => by simp [hx])) (Nat.le_trans (((fa).and (fb)).len) (by decide)) ((fa).and (fb)).short)) ?_
      refine s_val (.bool true) (by kernel_rfl) (fun _ => by kernel_rfl) ?_
      refine s_val (.bool true) (by kernel_rfl) (fun _ => by kernel_rfl) ?_
      refine s_val (.slice V18 ((notL a).length) c18) (by kernel_rfl) (fun _ => by kernel_rfl) ?_
      refine s_call (k := 23) (args := #[.slice V18 ((notL a).length) c18]) (.bool true) (by kernel_rfl) (fun _ => by kernel_rfl) (fun w hO => ret_b ((fa).not).may (may4_any V18 c18 (notL a) w (Sl.reads hr18 rfl hO (fun x hx => by simp [hx])) (Nat.le_trans (((fa).not).len) (by decide)) ((fa).not).short)) ?_
      refine s_val (.bool true) (by kernel_rfl) (fun _ => by kernel_rfl) ?_
      refine s_val (.bool true) (by kernel_rfl) (fun _ => by kernel_rfl) ?_
      refine s_nil ?_
      refine fin_seq ?_
      refine ok_ret ?_
      refine fin_ret (.bool true) Tryz.results4 (by kernel_rfl) ?_
      exact fun w hO => ⟨rfl, hO.below⟩
end Go.Proofs.YtmlecnomdamgnaaGreat
end

section
/-
  RowMeans: for every input the call returns true, and each argument reads afterwards as it read before. Conditions: none but the row's own.
-/
namespace Go.Proofs.YtmlecnomdamgnaaGreat.rowMeans
open Go.ChangeShapes Go.WideShapes Go.ChangeAt Go.RowKit
open Go.ChangeMaps (open_string shut_string)
set_option linter.unusedVariables false

set_option maxRecDepth 100000 in
theorem contract (H : Type) (enc : TypeId × Value → H) (W : World) (base : Nat) (args : Array Value) (ds gs : List (DataW H)) (before : List MemPlace)
    (hval : ∀ (j : Nat) t v, Tryz.f4.params[j]? = some t → args[j]? = some v → Value.okWide Tryz.prog W .any base t v)
    (hW : DataW.Whole enc Tryz.prog Tryz.f4.params.toList Rows.rowMeansSpec.vars false W args.toList ds gs before) (hL : laidMetH Tryz.prog Rows.rowMeansRow.laid W) :
    Calls Tryz.prog 4 args W fun e W' => ∃ v, e = .returned v ∧ Rows.rowMeansSpec.post enc Tryz.prog Tryz.f4 false true false false W args v W' := by
  have hW' := hW
  obtain ⟨p, q, hA0, hV, rfl, hfz, hnd⟩ := hW
  have hA : DataW.TrodAll enc Tryz.prog W 0 (fun _ => true) true Tryz.f4.params.toList args.toList ds p := hA0
  rw [Tryz.params4] at hA hval
  obtain ⟨v0, vs0, d0, ds0, p0, q0, hargs, rfl, rfl, h0, r0⟩ := trodAll_cons hA
  obtain ⟨v1, vs1, d1, ds1, p1, q1, rfl, rfl, rfl, h1, r1⟩ := trodAll_cons r0
  obtain ⟨rfl, rfl, rfl⟩ := trodAll_nil r1
  obtain rfl : args = #[v0, v1] := by cases args; simp_all
  obtain ⟨rfl, rfl⟩ := trodVars_none hV
  clear hA0
  obtain ⟨l, l_reads, l_len⟩ := open_nums (hval 0 28 v0 rfl rfl) h0
  obtain ⟨m, m_reads, m_len⟩ := open_nums (hval 1 28 v1 rfl rfl) h1
  refine (rowMeans.law W v0 l l_reads l_len v1 m m_reads m_len ).mono fun e W' ⟨he, hb⟩ => ?_
  subst he
  exact ⟨_, rfl, law_end laidOut (fun t ht => by rw [Tryz.params4] at ht; simp at ht; subst ht; exact ⟨by kernel_rfl, of_decide_eq_true (by kernel_rfl)⟩) rfl rfl Tryz.underlying4 hW' (by rfl) hb⟩

noncomputable def laidWorld (os : Os) : World :=
  { World.holding Tryz.prog os ⟨#[], #[], []⟩ with heap := (World.holding Tryz.prog os ⟨#[], #[], []⟩).heap }
theorem laid_met (os : Os) : laidMet Tryz.prog Rows.rowMeansRow.laid ((laidWorld os).forCall (fun _ _ => 0) ⟨#[], #[.slice none 0 0, .slice none 0 0], []⟩).memory :=
  laidMet_of_run' 8 (by kernel_rfl) (by kernel_rfl)
theorem reads (os : Os) {H : Type} (enc : TypeId × Value → H) : ∃ places, DataW.whole enc Tryz.prog ((laidWorld os).forCall (fun _ _ => 0) ⟨#[], #[.slice none 0 0, .slice none 0 0], []⟩).memory Tryz.f4.params.toList Rows.rowMeansSpec.vars false (#[.slice none 0 0, .slice none 0 0] : Array Value).toList 8 = some ([.nil, .nil], [], places) :=
  ⟨[], by kernel_rfl⟩

set_option maxRecDepth 100000 in
theorem lifted (os : Os) (started : os.Started) (H : Type) (enc : TypeId × Value → H) (F : Stop.Interp) :
    ReturnsInHanded {} Tryz.checked os 4 .any ((OpenSpec.ofChange Rows.rowMeansSpec).preRow enc Tryz.prog Tryz.f4 Rows.rowMeansRow.domain false Rows.rowMeansRow.laid) (((OpenSpec.ofChange Rows.rowMeansSpec).at F).post enc Tryz.prog Tryz.f4 false true false false) := by
  obtain ⟨places, hx⟩ := reads os enc
  refine returnsInHanded_of_row (C := Tryz.checked) (s := OpenSpec.ofChange Rows.rowMeansSpec) own started (by kernel_rfl) Tryz.func4
    (witness_row_at (enc := enc) (C := Tryz.checked) false (laidWorld os) #[.slice none 0 0, .slice none 0 0] rfl (by kernel_rfl) (by kernel_rfl) (by kernel_rfl)
      (OpenSpec.preRow_of_cond 8 hx (by kernel_rfl) (fun k hk => by cases hk) (by kernel_rfl) (laid_met os))) ?_
  intro W base args ds gs before hval hW _ _ _ hL _ _
  exact contract H enc W base args ds gs before hval hW hL

theorem said : Rows.RowMeansSaid :=
  OpenClaim.holds_of_cond 4 Tryz.f4 rfl rfl rfl rfl rfl rfl rfl ⟨rfl, rfl, rfl, rfl, rfl⟩ rfl rfl rfl rfl rfl (by kernel_rfl) Tryz.func4 (by kernel_rfl)
    (of_decide_eq_true (by kernel_rfl)) (by unfold Func.isWrapper; first | (rw [if_pos (by decide +kernel)]; kernel_rfl) | (rw [if_neg (by decide +kernel)]; exact ⟨rfl, rfl⟩))
    (fun os started H enc _ F => by rw [OpenClaim.pre_eq_preRow]; exact lifted os started H enc F)

#print axioms said
end Go.Proofs.YtmlecnomdamgnaaGreat.rowMeans
end
