/-
  RowNested: for every input the call returns true, and each argument reads afterwards as it read before. Conditions: none but the row's own.
-/
import Derived.Test.YtmlecnomdamgnaaGreatRows
import Derived.Test.YtmlecnomdamgnaaGreatM5

section
/-
  RowNested: for any lists of numbers the law returns true, and nothing that was there is changed. No condition.
-/
namespace Go.Proofs.YtmlecnomdamgnaaGreat
open Go.RowKit
set_option maxRecDepth 100000
set_option linter.unusedVariables false
set_option linter.unusedSimpArgs false
set_option maxHeartbeats 2000000

theorem rowG_rf (l : List Int) (i : Nat) : RF (rowG l i) 10 := by
  have h := plc_in (atL l i) (4 + 1 : Nat) (by omega)
  have h2 := spansG_len l i (plc (atL l i) (4 + 1 : Nat)).toNat
  exact RF.make (n := 4) (spansG_may l i _) (by omega)
set_option maxHeartbeats 8000000 in
theorem rowNested.law (W : World) (x : Value) (xl : List Int) (hxl : ReadsI W W.heap.size x xl) (lxl : xl.length ≤ maxLen) (y : Value) (yl : List Int) (hyl : ReadsI W W.heap.size y yl) (lyl : yl.length ≤ maxLen) (z : Value) (zl : List Int) (hzl : ReadsI W W.heap.size z zl) (lzl : zl.length ≤ maxLen) :
    Calls Tryz.prog 8 #[x, y, z] W fun e w' => e = .returned (.bool true) ∧ Below W.heap.size W w' := by
  obtain ⟨a, ea⟩ : ∃ q, q = rowG xl 0 := ⟨_, rfl⟩
  have fa : RF a 10 := ea ▸ rowG_rf xl 0
  obtain ⟨b, eb⟩ : ∃ q, q = rowG yl 0 := ⟨_, rfl⟩
  have fb : RF b 10 := eb ▸ rowG_rf yl 0
  obtain ⟨c, ec⟩ : ∃ q, q = rowG zl 0 := ⟨_, rfl⟩
  have fc : RF c 10 := ec ▸ rowG_rf zl 0
  refine calls_ok (n := 63) Tryz.func8 rfl (by kernel_rfl) (by kernel_rfl) ?_
  refine ok_seq ?_
  refine ok_region ?_
  refine s_val (.bool false) (by kernel_rfl) (fun _ => by kernel_rfl) ?_
  refine s_nil ?_
  refine fin_seq ?_
  refine ok_seq ?_
  refine ok_region ?_
  refine s_val (x) (by kernel_rfl) (fun _ => by kernel_rfl) ?_
  refine s_callo (k := 20) (args := #[x, .int .i64 0]) (fun v' L' => ∃ ob', L' = ob' ++ ([]) ∧ SlS v' (a) ob') (by kernel_rfl) (fun _ => by kernel_rfl) (fun w hO => (row_any x xl 0 w ((hxl.below hO.below).more hO.below.size) (by unfold maxLen at lxl; omega) (by omega)).mono fun e w' ⟨v', ob', k1, k2, k3⟩ => ⟨v', _, k1, ⟨ob', rfl, by rw [← ea] at k2; exact k2⟩, Own.joinN hO k3⟩) (fun v9 L9 hv9 => ?_)
  obtain ⟨o9, rfl, hr9⟩ := hv9
  refine s_cast (L' := o9) (List.append_nil _) ?_
  obtain ⟨V9, c9, rfl⟩ := hr9.form
  refine s_val (y) (by kernel_rfl) (fun _ => by kernel_rfl) ?_
  refine s_callo (k := 20) (args := #[y, .int .i64 0]) (fun v' L' => ∃ ob', L' = ob' ++ (o9) ∧ SlS v' (b) ob') (by kernel_rfl) (fun _ => by kernel_rfl) (fun w hO => (row_any y yl 0 w ((hyl.below hO.below).more hO.below.size) (by unfold maxLen at lyl; omega) (by omega)).mono fun e w' ⟨v', ob', k1, k2, k3⟩ => ⟨v', _, k1, ⟨ob', rfl, by rw [← eb] at k2; exact k2⟩, Own.joinN hO k3⟩) (fun v10 L10 hv10 => ?_)
  obtain ⟨o10, rfl, hr10⟩ := hv10
  obtain ⟨V10, c10, rfl⟩ := hr10.form
  refine s_val (z) (by kernel_rfl) (fun _ => by kernel_rfl) ?_
  refine s_callo (k := 20) (args := #[z, .int .i64 0]) (fun v' L' => ∃ ob', L' = ob' ++ (o10 ++ (o9)) ∧ SlS v' (c) ob') (by kernel_rfl) (fun _ => by kernel_rfl) (fun w hO => (row_any z zl 0 w ((hzl.below hO.below).more hO.below.size) (by unfold maxLen at lzl; omega) (by omega)).mono fun e w' ⟨v', ob', k1, k2, k3⟩ => ⟨v', _, k1, ⟨ob', rfl, by rw [← ec] at k2; exact k2⟩, Own.joinN hO k3⟩) (fun v11 L11 hv11 => ?_)
  obtain ⟨o11, rfl, hr11⟩ := hv11
  obtain ⟨V11, c11, rfl⟩ := hr11.form
  refine s_val (.slice V9 ((a).length) c9) (by kernel_rfl) (fun _ => by kernel_rfl) ?_
  refine s_val (.slice V10 ((b).length) c10) (by kernel_rfl) (fun _ => by kernel_rfl) ?_
  refine s_val (.slice V11 ((c).length) c11) (by kernel_rfl) (fun _ => by kernel_rfl) ?_
  refine s_nil ?_
  refine fin_seq ?_
  refine ok_seq ?_
  refine ok_region ?_
  refine s_val (.slice V9 ((a).length) c9) (by kernel_rfl) (fun _ => by kernel_rfl) ?_
  refine s_val (.slice V9 ((a).length) c9) (by kernel_rfl) (fun _ => by kernel_rfl) ?_
  refine s_val (.slice V10 ((b).length) c10) (by kernel_rfl) (fun _ => by kernel_rfl) ?_
  refine s_callo (k := 15) (args := #[.slice V9 ((a).length) c9, .slice V10 ((b).length) c10]) (fun v' L' => ∃ ob', L' = ob' ++ (o11 ++ (o10 ++ (o9))) ∧ SlS v' (orL a b) ob') (by kernel_rfl) (fun _ => by kernel_rfl) (fun w hO => (or4_any V9 V10 c9 c10 a b w (Sl.reads hr9 rfl hO (fun x hx => by simp [hx])) (Sl.reads hr10 rfl hO (fun x hx => by simp [hx])) (Nat.le_trans ((fa).len) (by decide)) (Nat.le_trans ((fb).len) (by decide)) (fa).short (fb).short).mono fun e w' ⟨v', ob', k1, k2, k3⟩ => ⟨v', _, k1, ⟨ob', rfl, by rw [if_pos (by rw [(fa).may, (fb).may]; rfl)] at k2; exact k2⟩, Own.joinN hO k3⟩) (fun v12 L12 hv12 => ?_)
  obtain ⟨o12, rfl, hr12⟩ := hv12
  obtain ⟨V12, c12, rfl⟩ := hr12.form
  refine s_callo (k := 16) (args := #[.slice V9 ((a).length) c9, .slice V12 ((orL a b).length) c12]) (fun v' L' => ∃ ob', L' = ob' ++ (o12 ++ (o11 ++ (o10 ++ (o9)))) ∧ SlS v' (andL a (orL a b)) ob') (by kernel_rfl) (fun _ => by kernel_rfl) (fun w hO => (and4_any V9 V12 c9 c12 a (orL a b) w (Sl.reads hr9 rfl hO (fun x hx => by simp [hx])) (Sl.reads hr12 rfl hO (fun x hx => by simp [hx])) (Nat.le_trans ((fa).len) (by decide)) (Nat.le_trans (((fa).or (fb)).len) (by decide)) (fa).short ((fa).or (fb)).short (SlS.cap hr9) (SlS.cap hr12)).mono fun e w' ⟨v', ob', k1, k2, k3⟩ => ⟨v', _, k1, ⟨ob', rfl, by rw [if_pos (by rw [(fa).may, ((fa).or (fb)).may]; rfl)] at k2; exact k2⟩, Own.joinN hO k3⟩) (fun v13 L13 hv13 => ?_)
  obtain ⟨o13, rfl, hr13⟩ := hv13
  obtain ⟨V13, c13, rfl⟩ := hr13.form
  refine s_val (.slice V9 ((a).length) c9) (by kernel_rfl) (fun _ => by kernel_rfl) ?_
  refine s_call (k := 14) (args := #[.slice V13 ((andL a (orL a b)).length) c13, .slice V9 ((a).length) c9]) (.bool true) (by kernel_rfl) (fun _ => by kernel_rfl) (fun w hO => ret_b (decide_eq_true (or_in4 fa.may fb.may)) (rsame_any V13 V9 c13 c9 (andL a (orL a b)) a w (Sl.reads hr13 rfl hO (fun x hx => by simp [hx])) (Sl.reads hr9 rfl hO (fun x hx => by simp [hx])) (Nat.le_trans (((fa).and ((fa).or (fb))).len) (by decide)) (Nat.le_trans ((fa).len) (by decide)))) ?_
  refine s_val (.bool true) (by kernel_rfl) (fun _ => by kernel_rfl) ?_
  refine s_val (.slice V9 ((a).length) c9) (by kernel_rfl) (fun _ => by kernel_rfl) ?_
  refine s_val (.slice V9 ((a).length) c9) (by kernel_rfl) (fun _ => by kernel_rfl) ?_
  refine s_val (.slice V10 ((b).length) c10) (by kernel_rfl) (fun _ => by kernel_rfl) ?_
  refine s_callo (k := 16) (args := #[.slice V9 ((a).length) c9, .slice V10 ((b).length) c10]) (fun v' L' => ∃ ob', L' = ob' ++ (o13 ++ (o12 ++ (o11 ++ (o10 ++ (o9))))) ∧ SlS v' (andL a b) ob') (by kernel_rfl) (fun _ => by kernel_rfl) (fun w hO => (and4_any V9 V10 c9 c10 a b w (Sl.reads hr9 rfl hO (fun x hx => by simp [hx])) (Sl.reads hr10 rfl hO (fun x hx => by simp [hx])) (Nat.le_trans ((fa).len) (by decide)) (Nat.le_trans ((fb).len) (by decide)) (fa).short (fb).short (SlS.cap hr9) (SlS.cap hr10)).mono fun e w' ⟨v', ob', k1, k2, k3⟩ => ⟨v', _, k1, ⟨ob', rfl, by rw [if_pos (by rw [(fa).may, (fb).may]; rfl)] at k2; exact k2⟩, Own.joinN hO k3⟩) (fun v14 L14 hv14 => ?_)
  obtain ⟨o14, rfl, hr14⟩ := hv14
  obtain ⟨V14, c14, rfl⟩ := hr14.form
  refine s_callo (k := 15) (args := #[.slice V9 ((a).length) c9, .slice V14 ((andL a b).length) c14]) (fun v' L' => ∃ ob', L' = ob' ++ (o14 ++ (o13 ++ (o12 ++ (o11 ++ (o10 ++ (o9)))))) ∧ SlS v' (orL a (andL a b)) ob') (by kernel_rfl) (fun _ => by kernel_rfl) (fun w hO => (or4_any V9 V14 c9 c14 a (andL a b) w (Sl.reads hr9 rfl hO (fun x hx => by simp [hx])) (Sl.reads hr14 rfl hO (fun x hx => by simp [hx])) (Nat.le_trans ((fa).len) (by decide)) (Nat.le_trans (((fa).and (fb)).len) (by decide)) (fa).short ((fa).and (fb)).short).mono fun e w' ⟨v', ob', k1, k2, k3⟩ => ⟨v', _, k1, ⟨ob', rfl, by rw [if_pos (by rw [(fa).may, ((fa).and (fb)).may]; rfl)] at k2; exact k2⟩, Own.joinN hO k3⟩) (fun v15 L15 hv15 => ?_)
  obtain ⟨o15, rfl, hr15⟩ := hv15
  obtain ⟨V15, c15, rfl⟩ := hr15.form
  refine s_val (.slice V9 ((a).length) c9) (by kernel_rfl) (fun _ => by kernel_rfl) ?_
  refine s_call (k := 14) (args := #[.slice V15 ((orL a (andL a b)).length) c15, .slice V9 ((a).length) c9]) (.bool true) (by kernel_rfl) (fun _ => by kernel_rfl) (fun w hO => ret_b (decide_eq_true (in_or4 fa.may fb.may)) (rsame_any V15 V9 c15 c9 (orL a (andL a b)) a w (Sl.reads hr15 rfl hO (fun x hx => by simp [hx])) (Sl.reads hr9 rfl hO (fun x hx => by simp [hx])) (Nat.le_trans (((fa).or ((fa).and (fb))).len) (by decide)) (Nat.le_trans ((fa).len) (by decide)))) ?_
  refine s_val (.bool true) (by kernel_rfl) (fun _ => by kernel_rfl) ?_
  refine s_val (.bool true) (by kernel_rfl) (fun _ => by kernel_rfl) ?_
  refine s_nil ?_
  refine fin_seq ?_
  refine ok_seq ?_
  refine ok_region ?_
  refine s_call (k := 10) (args := #[]) (.bool true) (by kernel_rfl) (fun _ => by kernel_rfl) (fun w _ => awake4_any w) ?_
  refine s_val (.bool true) (by kernel_rfl) (fun _ => by kernel_rfl) ?_
  refine s_val (.bool true) (by kernel_rfl) (fun _ => by kernel_rfl) ?_
  refine s_val (.bool true) (by kernel_rfl) (fun _ => by kernel_rfl) ?_
  refine s_val (.bool true) (by kernel_rfl) (fun _ => by kernel_rfl) ?_
  refine s_val (.slice V9 ((a).length) c9) (by kernel_rfl) (fun _ => by kernel_rfl) ?_
  refine s_val (.slice V10 ((b).length) c10) (by kernel_rfl) (fun _ => by kernel_rfl) ?_
  refine s_callo (k := 16) (args := #[.slice V9 ((a).length) c9, .slice V10 ((b).length) c10]) (fun v' L' => ∃ ob', L' = ob' ++ (o15 ++ (o14 ++ (o13 ++ (o12 ++ (o11 ++ (o10 ++ (o9))))))) ∧ SlS v' (andL a b) ob') (by kernel_rfl) (fun _ => by kernel_rfl) (fun w hO => (and4_any V9 V10 c9 c10 a b w (Sl.reads hr9 rfl hO (fun x hx => by simp [hx])) (Sl.reads hr10 rfl hO (fun x hx => by simp [hx])) (Nat.le_trans ((fa).len) (by decide)) (Nat.le_trans ((fb).len) (by decide)) (fa).short (fb).short (SlS.cap hr9) (SlS.cap hr10)).mono fun e w' ⟨v', ob', k1, k2, k3⟩ => ⟨v', _, k1, ⟨ob', rfl, by rw [if_pos (by rw [(fa).may, (fb).may]; rfl)] at k2; exact k2⟩, Own.joinN hO k3⟩) (fun v16 L16 hv16 => ?_)
  obtain ⟨o16, rfl, hr16⟩ := hv16
  obtain ⟨V16, c16, rfl⟩ := hr16.form
  refine s_val (.slice V11 ((c).length) c11) (by kernel_rfl) (fun _ => by kernel_rfl) ?_
  refine s_callo (k := 16) (args := #[.slice V16 ((andL a b).length) c16, .slice V11 ((c).length) c11]) (fun v' L' => ∃ ob', L' = ob' ++ (o16 ++ (o15 ++ (o14 ++ (o13 ++ (o12 ++ (o11 ++ (o10 ++ (o9)))))))) ∧ SlS v' (andL (andL a b) c) ob') (by kernel_rfl) (fun _ => by kernel_rfl) (fun w hO => (and4_any V16 V11 c16 c11 (andL a b) c w (Sl.reads hr16 rfl hO (fun x hx => by simp [hx])) (Sl.reads hr11 rfl hO (fun x hx => by simp [hx])) (Nat.le_trans (((fa).and (fb)).len) (by decide)) (Nat.le_trans ((fc).len) (by decide)) ((fa).and (fb)).short (fc).short (SlS.cap hr16) (SlS.cap hr11)).mono fun e w' ⟨v', ob', k1, k2, k3⟩ => ⟨v', _, k1, ⟨ob', rfl, by rw [if_pos (by rw [((fa).and (fb)).may, (fc).may]; rfl)] at k2; exact k2⟩, Own.joinN hO k3⟩) (fun v17 L17 hv17 => ?_)
  obtain ⟨o17, rfl, hr17⟩ := hv17
  obtain ⟨V17, c17, rfl⟩ := hr17.form
  refine s_val (.slice V9 ((a).length) c9) (by kernel_rfl) (fun _ => by kernel_rfl) ?_
  refine s_val (.slice V10 ((b).length) c10) (by kernel_rfl) (fun _ => by kernel_rfl) ?_
  refine s_val (.slice V11 ((c).length) c11) (by kernel_rfl) (fun _ => by kernel_rfl) ?_
  refine s_callo (k := 16) (args := #[.slice V10 ((b).length) c10, .slice V11 ((c).length) c11]) (fun v' L' => ∃ ob', L' = ob' ++ (o17 ++ (o16 ++ (o15 ++ (o14 ++ (o13 ++ (o12 ++ (o11 ++ (o10 ++ (o9))))))))) ∧ SlS v' (andL b c) ob') (by kernel_rfl) (fun _ => by kernel_rfl) (fun w hO => (and4_any V10 V11 c10 c11 b c w (Sl.reads hr10 rfl hO (fun x hx => by simp [hx])) (Sl.reads hr11 rfl hO (fun x hx => by simp [hx])) (Nat.le_trans ((fb).len) (by decide)) (Nat.le_trans ((fc).len) (by decide)) (fb).short (fc).short (SlS.cap hr10) (SlS.cap hr11)).mono fun e w' ⟨v', ob', k1, k2, k3⟩ => ⟨v', _, k1, ⟨ob', rfl, by rw [if_pos (by rw [(fb).may, (fc).may]; rfl)] at k2; exact k2⟩, Own.joinN hO k3⟩) (fun v18 L18 hv18 => ?_)
  obtain ⟨o18, rfl, hr18⟩ := hv18
  obtain ⟨V18, c18, rfl⟩ := hr18.form
  refine s_callo (k := 16) (args := #[.slice V9 ((a).length) c9, .slice V18 ((andL b c).length) c18]) (fun v' L' => ∃ ob', L' = ob' ++ (o18 ++ (o17 ++ (o16 ++ (o15 ++ (o14 ++ (o13 ++ (o12 ++ (o11 ++ (o10 ++ (o9)))))))))) ∧ SlS v' (andL a (andL b c)) ob') (by kernel_rfl) (fun _ => by kernel_rfl) (fun w hO => (and4_any V9 V18 c9 c18 a (andL b c) w (Sl.reads hr9 rfl hO (fun x hx => by simp [hx])) (Sl.reads hr18 rfl hO (fun x hx => by simp [hx])) (Nat.le_trans ((fa).len) (by decide)) (Nat.le_trans (((fb).and (fc)).len) (by decide)) (fa).short ((fb).and (fc)).short (SlS.cap hr9) (SlS.cap hr18)).mono fun e w' ⟨v', ob', k1, k2, k3⟩ => ⟨v', _, k1, ⟨ob', rfl, by rw [if_pos (by rw [(fa).may, ((fb).and (fc)).may]; rfl)] at k2; exact k2⟩, Own.joinN hO k3⟩) (fun v19 L19 hv19 => ?_)
  obtain ⟨o19, rfl, hr19⟩ := hv19
  obtain ⟨V19, c19, rfl⟩ := hr19.form
  refine s_call (k := 14) (args := #[.slice V17 ((andL (andL a b) c).length) c17, .slice V19 ((andL a (andL b c)).length) c19]) (.bool true) (by kernel_rfl) (fun _ => by kernel_rfl) (fun w hO => ret_b (decide_eq_true (and_assoc4 fa.may fb.may fc.may)) (rsame_any V17 V19 c17 c19 (andL (andL a b) c) (andL a (andL b c)) w (Sl.reads hr17 rfl hO (fun x hx => by simp [hx])) (Sl.reads hr19 rfl hO (fun x hx => by simp [hx])) (Nat.le_trans ((((fa).and (fb)).and (fc)).len) (by decide)) (Nat.le_trans (((fa).and ((fb).and (fc))).len) (by decide)))) ?_
  refine s_val (.bool true) (by kernel_rfl) (fun _ => by kernel_rfl) ?_
  refine s_val (.bool true) (by kernel_rfl) (fun _ => by kernel_rfl) ?_
  refine s_val (.slice V9 ((a).length) c9) (by kernel_rfl) (fun _ => by kernel_rfl) ?_
  refine s_val (.slice V10 ((b).length) c10) (by kernel_rfl) (fun _ => by kernel_rfl) ?_
  refine s_callo (k := 15) (args := #[.slice V9 ((a).length) c9, .slice V10 ((b).length) c10]) (fun v' L' => ∃ ob', L' = ob' ++ (o19 ++ (o18 ++ (o17 ++ (o16 ++ (o15 ++ (o14 ++ (o13 ++ (o12 ++ (o11 ++ (o10 ++ (o9))))))))))) ∧ SlS v' (orL a b) ob') (by kernel_rfl) (fun _ => by kernel_rfl) (fun w hO => (or4_any V9 V10 c9 c10 a b w (Sl.reads hr9 rfl hO (fun x hx => by simp [hx])) (Sl.reads hr10 rfl hO (fun x hx => by simp [hx])) (Nat.le_trans ((fa).len) (by decide)) (Nat.le_trans ((fb).len) (by decide)) (fa).short (fb).short).mono fun e w' ⟨v', ob', k1, k2, k3⟩ => ⟨v', _, k1, ⟨ob', rfl, by rw [if_pos (by rw [(fa).may, (fb).may]; rfl)] at k2; exact k2⟩, Own.joinN hO k3⟩) (fun v20 L20 hv20 => ?_)
  obtain ⟨o20, rfl, hr20⟩ := hv20
  obtain ⟨V20, c20, rfl⟩ := hr20.form
  refine s_val (.slice V11 ((c).length) c11) (by kernel_rfl) (fun _ => by kernel_rfl) ?_
  refine s_callo (k := 15) (args := #[.slice V20 ((orL a b).length) c20, .slice V11 ((c).length) c11]) (fun v' L' => ∃ ob', L' = ob' ++ (o20 ++ (o19 ++ (o18 ++ (o17 ++ (o16 ++ (o15 ++ (o14 ++ (o13 ++ (o12 ++ (o11 ++ (o10 ++ (o9)))))))))))) ∧ SlS v' (orL (orL a b) c) ob') (by kernel_rfl) (fun _ => by kernel_rfl) (fun w hO => (or4_any V20 V11 c20 c11 (orL a b) c w (Sl.reads hr20 rfl hO (fun x hx => by simp [hx])) (Sl.reads hr11 rfl hO (fun x hx => by simp [hx])) (Nat.le_trans (((fa).or (fb)).len) (by decide)) (Nat.le_trans ((fc).len) (by decide)) ((fa).or (fb)).short (fc).short).mono fun e w' ⟨v', ob', k1, k2, k3⟩ => ⟨v', _, k1, ⟨ob', rfl, by rw [if_pos (by rw [((fa).or (fb)).may, (fc).may]; rfl)] at k2; exact k2⟩, Own.joinN hO k3⟩) (fun v21 L21 hv21 => ?_)
  obtain ⟨o21, rfl, hr21⟩ := hv21
  obtain ⟨V21, c21, rfl⟩ := hr21.form
  refine s_val (.slice V9 ((a).length) c9) (by kernel_rfl) (fun _ => by kernel_rfl) ?_
  refine s_val (.slice V10 ((b).length) c10) (by kernel_rfl) (fun _ => by kernel_rfl) ?_
  refine s_val (.slice V11 ((c).length) c11) (by kernel_rfl) (fun _ => by kernel_rfl) ?_
  refine s_callo (k := 15) (args := #[.slice V10 ((b).length) c10, .slice V11 ((c).length) c11]) (fun v' L' => ∃ ob', L' = ob' ++ (o21 ++ (o20 ++ (o19 ++ (o18 ++ (o17 ++ (o16 ++ (o15 ++ (o14 ++ (o13 ++ (o12 ++ (o11 ++ (o10 ++ (o9))))))))))))) ∧ SlS v' (orL b c) ob') (by kernel_rfl) (fun _ => by kernel_rfl) (fun w hO => (or4_any V10 V11 c10 c11 b c w (Sl.reads hr10 rfl hO (fun x hx => by simp [hx])) (Sl.reads hr11 rfl hO (fun x hx => by simp [hx])) (Nat.le_trans ((fb).len) (by decide)) (Nat.le_trans ((fc).len) (by decide)) (fb).short (fc).short).mono fun e w' ⟨v', ob', k1, k2, k3⟩ => ⟨v', _, k1, ⟨ob', rfl, by rw [if_pos (by rw [(fb).may, (fc).may]; rfl)] at k2; exact k2⟩, Own.joinN hO k3⟩) (fun v22 L22 hv22 => ?_)
  obtain ⟨o22, rfl, hr22⟩ := hv22
  obtain ⟨V22, c22, rfl⟩ := hr22.form
  refine s_callo (k := 15) (args := #[.slice V9 ((a).length) c9, .slice V22 ((orL b c).length) c22]) (fun v' L' => ∃ ob', L' = ob' ++ (o22 ++ (o21 ++ (o20 ++ (o19 ++ (o18 ++ (o17 ++ (o16 ++ (o15 ++ (o14 ++ (o13 ++ (o12 ++ (o11 ++ (o10 ++ (o9)))))))))))))) ∧ SlS v' (orL a (orL b c)) ob') (by kernel_rfl) (fun _ => by kernel_rfl) (fun w hO => (or4_any V9 V22 c9 c22 a (orL b c) w (Sl.reads hr9 rfl hO (fun x hx => by simp [hx])) (Sl.reads hr22 rfl hO (fun x hx => by simp [hx])) (Nat.le_trans ((fa).len) (by decide)) (Nat.le_trans (((fb).or (fc)).len) (by decide)) (fa).short ((fb).or (fc)).short).mono fun e w' ⟨v', ob', k1, k2, k3⟩ => ⟨v', _, k1, ⟨ob', rfl, by rw [if_pos (by rw [(fa).may, ((fb).or (fc)).may]; rfl)] at k2; exact k2⟩, Own.joinN hO k3⟩) (fun v23 L23 hv23 => ?_)
  obtain ⟨o23, rfl, hr23⟩ := hv23
  obtain ⟨V23, c23, rfl⟩ := hr23.form
  refine s_call (k := 14) (args := #[.slice V21 ((orL (orL a b) c).length) c21, .slice V23 ((orL a (orL b c)).length) c23]) (.bool true) (by kernel_rfl) (fun _ => by kernel_rfl) (fun w hO => ret_b (decide_eq_true (or_assoc4 fa.may fb.may fc.may)) (rsame_any V21 V23 c21 c23 (orL (orL a b) c) (orL a (orL b c)) w (Sl.reads hr21 rfl hO (fun x hx => by simp [hx])) (Sl.reads hr23 rfl hO (fun x hx => by simp [hx])) (Nat.le_trans ((((fa).or (fb)).or (fc)).len) (by decide)) (Nat.le_trans (((fa).or ((fb).or (fc))).len) (by decide)))) ?_
  refine s_val (.bool true) (by kernel_rfl) (fun _ => by kernel_rfl) ?_
  refine s_val (.bool true) (by kernel_rfl) (fun _ => by kernel_rfl) ?_
  refine s_nil ?_
  refine fin_seq ?_
  refine ok_ret ?_
  refine fin_ret (.bool true) Tryz.results8 (by kernel_rfl) ?_
  exact fun w hO => ⟨rfl, hO.below⟩
end Go.Proofs.YtmlecnomdamgnaaGreat
end

section
/-
  RowNested: for every input the call returns true, and each argument reads afterwards as it read before. Conditions: none but the row's own.
-/
namespace Go.Proofs.YtmlecnomdamgnaaGreat.rowNested
open Go.ChangeShapes Go.WideShapes Go.ChangeAt Go.RowKit
open Go.ChangeMaps (open_string shut_string)
set_option linter.unusedVariables false

set_option maxRecDepth 100000 in
theorem contract (H : Type) (enc : TypeId × Value → H) (W : World) (base : Nat) (args : Array Value) (ds gs : List (DataW H)) (before : List MemPlace)
    (hval : ∀ (j : Nat) t v, Tryz.f8.params[j]? = some t → args[j]? = some v → Value.okWide Tryz.prog W .any base t v)
    (hW : DataW.Whole enc Tryz.prog Tryz.f8.params.toList Rows.rowNestedSpec.vars false W args.toList ds gs before) (hL : laidMetH Tryz.prog Rows.rowNestedRow.laid W) :
    Calls Tryz.prog 8 args W fun e W' => ∃ v, e = .returned v ∧ Rows.rowNestedSpec.post enc Tryz.prog Tryz.f8 false true false false W args v W' := by
  have hW' := hW
  obtain ⟨p, q, hA0, hV, rfl, hfz, hnd⟩ := hW
  have hA : DataW.TrodAll enc Tryz.prog W 0 (fun _ => true) true Tryz.f8.params.toList args.toList ds p := hA0
  rw [Tryz.params8] at hA hval
  obtain ⟨v0, vs0, d0, ds0, p0, q0, hargs, rfl, rfl, h0, r0⟩ := trodAll_cons hA
  obtain ⟨v1, vs1, d1, ds1, p1, q1, rfl, rfl, rfl, h1, r1⟩ := trodAll_cons r0
  obtain ⟨v2, vs2, d2, ds2, p2, q2, rfl, rfl, rfl, h2, r2⟩ := trodAll_cons r1
  obtain ⟨rfl, rfl, rfl⟩ := trodAll_nil r2
  obtain rfl : args = #[v0, v1, v2] := by cases args; simp_all
  obtain ⟨rfl, rfl⟩ := trodVars_none hV
  clear hA0
  obtain ⟨l, l_reads, l_len⟩ := open_nums (hval 0 28 v0 rfl rfl) h0
  obtain ⟨m, m_reads, m_len⟩ := open_nums (hval 1 28 v1 rfl rfl) h1
  obtain ⟨n, n_reads, n_len⟩ := open_nums (hval 2 28 v2 rfl rfl) h2
  refine (rowNested.law W v0 l l_reads l_len v1 m m_reads m_len v2 n n_reads n_len ).mono fun e W' ⟨he, hb⟩ => ?_
  subst he
  exact ⟨_, rfl, law_end laidOut (fun t ht => by rw [Tryz.params8] at ht; simp at ht; subst ht; exact ⟨by kernel_rfl, of_decide_eq_true (by kernel_rfl)⟩) rfl rfl Tryz.underlying4 hW' (by rfl) hb⟩

noncomputable def laidWorld (os : Os) : World :=
  { World.holding Tryz.prog os ⟨#[], #[], []⟩ with heap := (World.holding Tryz.prog os ⟨#[], #[], []⟩).heap }
theorem laid_met (os : Os) : laidMet Tryz.prog Rows.rowNestedRow.laid ((laidWorld os).forCall (fun _ _ => 0) ⟨#[], #[.slice none 0 0, .slice none 0 0, .slice none 0 0], []⟩).memory :=
  laidMet_of_run' 8 (by kernel_rfl) (by kernel_rfl)
theorem reads (os : Os) {H : Type} (enc : TypeId × Value → H) : ∃ places, DataW.whole enc Tryz.prog ((laidWorld os).forCall (fun _ _ => 0) ⟨#[], #[.slice none 0 0, .slice none 0 0, .slice none 0 0], []⟩).memory Tryz.f8.params.toList Rows.rowNestedSpec.vars false (#[.slice none 0 0, .slice none 0 0, .slice none 0 0] : Array Value).toList 8 = some ([.nil, .nil, .nil], [], places) :=
  ⟨[], by kernel_rfl⟩

set_option maxRecDepth 100000 in
theorem lifted (os : Os) (started : os.Started) (H : Type) (enc : TypeId × Value → H) (F : Stop.Interp) :
    ReturnsInHanded {} Tryz.checked os 8 .any ((OpenSpec.ofChange Rows.rowNestedSpec).preRow enc Tryz.prog Tryz.f8 Rows.rowNestedRow.domain false Rows.rowNestedRow.laid) (((OpenSpec.ofChange Rows.rowNestedSpec).at F).post enc Tryz.prog Tryz.f8 false true false false) := by
  obtain ⟨places, hx⟩ := reads os enc
  refine returnsInHanded_of_row (C := Tryz.checked) (s := OpenSpec.ofChange Rows.rowNestedSpec) own started (by kernel_rfl) Tryz.func8
    (witness_row_at (enc := enc) (C := Tryz.checked) false (laidWorld os) #[.slice none 0 0, .slice none 0 0, .slice none 0 0] rfl (by kernel_rfl) (by kernel_rfl) (by kernel_rfl)
      (OpenSpec.preRow_of_cond 8 hx (by kernel_rfl) (fun k hk => by cases hk) (by kernel_rfl) (laid_met os))) ?_
  intro W base args ds gs before hval hW _ _ _ hL _ _
  exact contract H enc W base args ds gs before hval hW hL

theorem said : Rows.RowNestedSaid :=
  OpenClaim.holds_of_cond 8 Tryz.f8 rfl rfl rfl rfl rfl rfl rfl ⟨rfl, rfl, rfl, rfl, rfl⟩ rfl rfl rfl rfl rfl (by kernel_rfl) Tryz.func8 (by kernel_rfl)
    (of_decide_eq_true (by kernel_rfl)) (by unfold Func.isWrapper; first | (rw [if_pos (by decide +kernel)]; kernel_rfl) | (rw [if_neg (by decide +kernel)]; exact ⟨rfl, rfl⟩))
    (fun os started H enc _ F => by rw [OpenClaim.pre_eq_preRow]; exact lifted os started H enc F)

#print axioms said
end Go.Proofs.YtmlecnomdamgnaaGreat.rowNested
end
