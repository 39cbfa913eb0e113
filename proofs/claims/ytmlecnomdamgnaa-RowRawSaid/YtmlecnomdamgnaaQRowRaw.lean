/-
  RowRaw: for every input the call returns true, and each argument reads afterwards as it read before. Conditions: none but the row's own.
-/
import Derived.Test.YtmlecnomdamgnaaRows
import Derived.Test.YtmlecnomdamgnaaM5

section
/-
  RowRaw: for any slice of spans and any version the law returns true, and nothing that was there is changed. No condition.
-/
namespace Go.Proofs.Ytmlecnomdamgnaa
open Go.RowKit
set_option maxRecDepth 100000
set_option linter.unusedVariables false
set_option linter.unusedSimpArgs false
set_option maxHeartbeats 2000000

theorem if_len {p : Bool} {l : List Sp} {n : Nat} (h : p = true → l.length ≤ n) : (if p then l else []).length ≤ n := by
  cases p with
  | true => exact h rfl
  | false => exact Nat.zero_le _
set_option maxHeartbeats 8000000 in
theorem rowRaw.law (W : World) (A : Option Addr) (cap : Nat) (a : List Sp) (ha : Reads spanC W W.heap.size A a) (hca : a.length ≤ cap) (u : Ver) :
    Calls Try.prog 3 #[.slice A a.length cap, verV u] W fun e w' => e = .returned (.bool true) ∧ Below W.heap.size W w' := by
  refine calls_ok (n := 62) Try.func3 rfl (by kernel_rfl) (by kernel_rfl) ?_
  refine ok_seq ?_
  refine ok_region ?_
  refine s_box (verV u) (by kernel_rfl) rfl (by kernel_rfl) (fun b1 => ?_)
  refine s_val (.bool false) (by kernel_rfl) (fun _ => by kernel_rfl) ?_
  refine s_nil ?_
  refine fin_seq ?_
  refine ok_seq ?_
  refine ok_seq ?_
  refine ok_region ?_
  refine s_val (.slice A a.length cap) (by kernel_rfl) (fun _ => by kernel_rfl) ?_
  refine s_call (k := 5) (args := #[.slice A a.length cap]) (.bool (fewL a)) (by kernel_rfl) (fun _ => by kernel_rfl) (fun w hO => few4_any A cap a w (ha.on hO.below hO.size)) ?_
  cases h1 : fewL a with
  | true =>
    refine s_val (.bool false) (by kernel_rfl) (fun _ => by kernel_rfl) ?_
    refine s_val (.bool false) (by kernel_rfl) (fun _ => by kernel_rfl) ?_
    refine s_val (.pointer (some ⟨b1, 3, none⟩)) (by kernel_rfl) (fun _ => by kernel_rfl) ?_
    refine s_load 0 ⟨b1, (verV u).cells, 24⟩ (off := 3) (.string (mkS u.pre)) (by kernel_rfl) rfl (by kernel_rfl) (by kernel_rfl) (by kernel_rfl) ?_
    refine s_val (.int .i64 ((mkS u.pre).size)) (by kernel_rfl) (fun _ => by kernel_rfl) ?_
    by_cases h2 : (60 : Int) < (mkS u.pre).size
    · skip
      refine s_dec (p := (60 : Int) < (mkS u.pre).size) true (by kernel_rfl) (fun _ => by kernel_rfl) (decide_eq_true (h2)) ?_
      refine s_val (.bool true) (by kernel_rfl) (fun _ => by kernel_rfl) ?_
      refine s_val (.bool true) (by kernel_rfl) (fun _ => by kernel_rfl) ?_
      refine s_skip (by kernel_rfl) ?_
      refine s_skip (by kernel_rfl) ?_
      refine s_skip (by kernel_rfl) ?_
      refine s_skip (by kernel_rfl) ?_
      refine s_val (.bool true) (by kernel_rfl) (fun _ => by kernel_rfl) ?_
      refine s_nil ?_
      refine fin_seq ?_
      refine ok_true (by kernel_rfl) ?_
      refine ok_seq ?_
      refine ok_region ?_
      refine s_call (k := 6) (args := #[]) (.bool true) (by kernel_rfl) (fun _ => by kernel_rfl) (fun w _ => awake4_any w) ?_
      refine s_val (.bool true) (by kernel_rfl) (fun _ => by kernel_rfl) ?_
      refine s_nil ?_
      refine fin_seq ?_
      refine ok_ret ?_
      refine fin_seq_ret ?_
      refine fin_ret (.bool true) Try.results3 (by kernel_rfl) ?_
      exact fun w hO => ⟨rfl, hO.below⟩
    · skip
      refine s_dec (p := (60 : Int) < (mkS u.pre).size) false (by kernel_rfl) (fun _ => by kernel_rfl) (decide_eq_false (h2)) ?_
      refine s_val (.bool false) (by kernel_rfl) (fun _ => by kernel_rfl) ?_
      refine s_val (.bool false) (by kernel_rfl) (fun _ => by kernel_rfl) ?_
      refine s_val (.pointer (some ⟨b1, 4, none⟩)) (by kernel_rfl) (fun _ => by kernel_rfl) ?_
      refine s_load 0 ⟨b1, (verV u).cells, 24⟩ (off := 4) (.string (mkS u.build)) (by kernel_rfl) rfl (by kernel_rfl) (by kernel_rfl) (by kernel_rfl) ?_
      refine s_val (.int .i64 ((mkS u.build).size)) (by kernel_rfl) (fun _ => by kernel_rfl) ?_
      by_cases h3 : (60 : Int) < (mkS u.build).size
      · skip
        refine s_dec (p := (60 : Int) < (mkS u.build).size) true (by kernel_rfl) (fun _ => by kernel_rfl) (decide_eq_true (h3)) ?_
        refine s_val (.bool true) (by kernel_rfl) (fun _ => by kernel_rfl) ?_
        refine s_nil ?_
        refine fin_seq ?_
        refine ok_true (by kernel_rfl) ?_
        refine ok_seq ?_
        refine ok_region ?_
        refine s_call (k := 6) (args := #[]) (.bool true) (by kernel_rfl) (fun _ => by kernel_rfl) (fun w _ => awake4_any w) ?_
        refine s_val (.bool true) (by kernel_rfl) (fun _ => by kernel_rfl) ?_
        refine s_nil ?_
        refine fin_seq ?_
        refine ok_ret ?_
        refine fin_seq_ret ?_
        refine fin_ret (.bool true) Try.results3 (by kernel_rfl) ?_
        exact fun w hO => ⟨rfl, hO.below⟩
      · skip
        have su : u.short := ⟨by have h := mkS_sz u.pre; omega, by have h := mkS_sz u.build; omega⟩
        refine s_dec (p := (60 : Int) < (mkS u.build).size) false (by kernel_rfl) (fun _ => by kernel_rfl) (decide_eq_false (h3)) ?_
        refine s_val (.bool false) (by kernel_rfl) (fun _ => by kernel_rfl) ?_
        refine s_nil ?_
        refine fin_seq ?_
        refine ok_false (by kernel_rfl) ?_
        refine ok_skip ?_
        refine fin_seq ?_
        refine ok_seq ?_
        refine ok_region ?_
        refine s_val (.slice A a.length cap) (by kernel_rfl) (fun _ => by kernel_rfl) ?_
        refine s_callo (k := 7) (args := #[.slice A a.length cap]) (fun v' L' => ∃ mv ob', v' = .tuple #[mv, .bool (allMay a)] ∧ L' = ob' ++ ([⟨b1, (verV u).cells, 24⟩]) ∧ SlS mv (if allMay a then makeL a else []) ob') (by kernel_rfl) (fun _ => by kernel_rfl) (fun w hO => (make4_any A cap a w (ha.on hO.below hO.size) (Nat.le_trans ((few_short h1).2) (by decide)) (few_short h1).1).mono fun e w' ⟨v', ob', k1, k2, k3⟩ => ⟨_, _, k1, ⟨v', ob', rfl, rfl, k2⟩, Own.joinN hO k3⟩) (fun tv1 L1 hv1 => ?_)
        obtain ⟨v1, o1, rfl, rfl, hr1⟩ := hv1
        obtain ⟨V1, c1, rfl⟩ := hr1.form
        refine s_val (.tuple #[.slice V1 ((if allMay a then makeL a else []).length) c1, .bool (allMay a)]) (by kernel_rfl) (fun _ => by kernel_rfl) ?_
        refine s_val (.slice V1 ((if allMay a then makeL a else []).length) c1) (by kernel_rfl) (fun _ => by kernel_rfl) ?_
        refine s_val (.bool (allMay a)) (by kernel_rfl) (fun _ => by kernel_rfl) ?_
        refine s_val (.slice V1 ((if allMay a then makeL a else []).length) c1) (by kernel_rfl) (fun _ => by kernel_rfl) ?_
        refine s_val (.bool (allMay a)) (by kernel_rfl) (fun _ => by kernel_rfl) ?_
        refine s_nil ?_
        refine fin_seq ?_
        refine ok_seq ?_
        refine ok_region ?_
        refine s_val (.slice A a.length cap) (by kernel_rfl) (fun _ => by kernel_rfl) ?_
        refine s_callo (k := 8) (args := #[.slice A a.length cap]) (fun v' L' => ∃ mv ob', v' = .tuple #[mv, .bool (allMay a)] ∧ L' = ob' ++ (o1 ++ ([⟨b1, (verV u).cells, 24⟩])) ∧ SlS mv (if allMay a then makeL a else []) ob') (by kernel_rfl) (fun _ => by kernel_rfl) (fun w hO => (rmake_any A cap a w (ha.on hO.below hO.size) (Nat.le_trans ((few_short h1).2) (by decide)) (few_short h1).1).mono fun e w' ⟨v', ob', k1, k2, k3⟩ => ⟨_, _, k1, ⟨v', ob', rfl, rfl, k2⟩, Own.joinN hO k3⟩) (fun tv2 L2 hv2 => ?_)
        obtain ⟨v2, o2, rfl, rfl, hr2⟩ := hv2
        obtain ⟨V2, c2, rfl⟩ := hr2.form
        refine s_val (.tuple #[.slice V2 ((if allMay a then makeL a else []).length) c2, .bool (allMay a)]) (by kernel_rfl) (fun _ => by kernel_rfl) ?_
        refine s_val (.slice V2 ((if allMay a then makeL a else []).length) c2) (by kernel_rfl) (fun _ => by kernel_rfl) ?_
        refine s_val (.bool (allMay a)) (by kernel_rfl) (fun _ => by kernel_rfl) ?_
        refine s_val (.slice V2 ((if allMay a then makeL a else []).length) c2) (by kernel_rfl) (fun _ => by kernel_rfl) ?_
        refine s_val (.bool (allMay a)) (by kernel_rfl) (fun _ => by kernel_rfl) ?_
        refine s_nil ?_
        refine fin_seq ?_
        refine ok_seq ?_
        refine ok_draw (by kernel_rfl) (by kernel_rfl) ?_
        refine q_call (k := 6) (args := #[]) (.bool true) (by kernel_rfl) (fun _ => by kernel_rfl) (fun w _ => awake4_any w) ?_
        refine q_val (.bool true) (by kernel_rfl) (fun _ => by kernel_rfl) ?_
        refine q_val (.slice A a.length cap) (by kernel_rfl) (fun _ => by kernel_rfl) ?_
        refine q_call (k := 9) (args := #[.slice A a.length cap]) (.bool (rowMay a)) (by kernel_rfl) (fun _ => by kernel_rfl) (fun w hO => may4_any A cap a w (ha.on hO.below hO.size) (Nat.le_trans ((few_short h1).2) (by decide)) (few_short h1).1) ?_
        refine q_val (.slice A a.length cap) (by kernel_rfl) (fun _ => by kernel_rfl) ?_
        refine q_call (k := 10) (args := #[.slice A a.length cap]) (.bool (rowMay a)) (by kernel_rfl) (fun _ => by kernel_rfl) (fun w hO => rrowMay_any A cap a w (ha.on hO.below hO.size) (Nat.le_trans ((few_short h1).2) (by decide)) (few_short h1).1) ?_
        cases h4 : rowMay a with
        | true =>
          refine q_val (.bool true) (by kernel_rfl) (fun _ => by kernel_rfl) ?_
          refine q_val (.bool true) (by kernel_rfl) (fun _ => by kernel_rfl) ?_
          refine q_val (.bool true) (by kernel_rfl) (fun _ => by kernel_rfl) ?_
          refine q_val (.slice A a.length cap) (by kernel_rfl) (fun _ => by kernel_rfl) ?_
          refine q_loadm ⟨b1, (verV u).cells, 24⟩ (off := 0) (verV u) (by kernel_rfl) rfl (by simp) (by kernel_rfl) (by kernel_rfl) ?_
          refine q_call (k := 11) (args := #[.slice A a.length cap, verV u]) (.bool (rowHas a u)) (by kernel_rfl) (fun _ => by kernel_rfl) (fun w hO => has4_any A cap a u w (ha.on hO.below hO.size) (Nat.le_trans ((few_short h1).2) (by decide)) (few_short h1).1 su) ?_
          refine q_val (.slice A a.length cap) (by kernel_rfl) (fun _ => by kernel_rfl) ?_
          refine q_loadm ⟨b1, (verV u).cells, 24⟩ (off := 0) (verV u) (by kernel_rfl) rfl (by simp) (by kernel_rfl) (by kernel_rfl) ?_
          refine q_call (k := 12) (args := #[.slice A a.length cap, verV u]) (.bool (rowHas a u)) (by kernel_rfl) (fun _ => by kernel_rfl) (fun w hO => rrowHas_any A cap a u w (ha.on hO.below hO.size) (Nat.le_trans ((few_short h1).2) (by decide)) (few_short h1).1 su) ?_
          cases h5 : rowHas a u with
          | true =>
            refine q_val (.bool true) (by kernel_rfl) (fun _ => by kernel_rfl) ?_
            refine q_val (.bool true) (by kernel_rfl) (fun _ => by kernel_rfl) ?_
            refine q_val (.bool true) (by kernel_rfl) (fun _ => by kernel_rfl) ?_
            refine q_val (.slice V1 ((if allMay a then makeL a else []).length) c1) (by kernel_rfl) (fun _ => by kernel_rfl) ?_
            refine q_val (.slice V2 ((if allMay a then makeL a else []).length) c2) (by kernel_rfl) (fun _ => by kernel_rfl) ?_
            refine q_call (k := 13) (args := #[.slice V1 ((if allMay a then makeL a else []).length) c1, .slice V2 ((if allMay a then makeL a else []).length) c2]) (.bool true) (by kernel_rfl) (fun _ => by kernel_rfl) (fun w hO => ret_b (decide_eq_true (rfl)) (rsame_any V1 V2 c1 c2 (if allMay a then makeL a else []) (if allMay a then makeL a else []) w (Sl.reads hr1 rfl hO (fun x hx => by simp [hx])) (Sl.reads hr2 rfl hO (fun x hx => by simp [hx])) (Nat.le_trans (if_len (n := 50) fun hp => Nat.le_trans (RF.make (allMay_mem.1 hp) (few_short h1).2).len (by decide)) (by decide)) (Nat.le_trans (if_len (n := 50) fun hp => Nat.le_trans (RF.make (allMay_mem.1 hp) (few_short h1).2).len (by decide)) (by decide)))) ?_
            refine q_val (.bool true) (by kernel_rfl) (fun _ => by kernel_rfl) ?_
            refine q_val (.bool true) (by kernel_rfl) (fun _ => by kernel_rfl) ?_
            refine q_val (.bool (allMay a)) (by kernel_rfl) (fun _ => by kernel_rfl) ?_
            refine q_val (.bool (allMay a)) (by kernel_rfl) (fun _ => by kernel_rfl) ?_
            cases h6 : allMay a with
            | true =>
              refine q_val (.bool true) (by kernel_rfl) (fun _ => by kernel_rfl) ?_
              refine q_val (.bool true) (by kernel_rfl) (fun _ => by kernel_rfl) ?_
              refine q_val (.bool true) (by kernel_rfl) (fun _ => by kernel_rfl) ?_
              refine q_nil ?_
              refine fin_seq ?_
              refine ok_ret ?_
              refine fin_ret (.bool true) Try.results3 (by kernel_rfl) ?_
              exact fun w hO => ⟨rfl, hO.below⟩
            | false =>
              refine q_val (.bool true) (by kernel_rfl) (fun _ => by kernel_rfl) ?_
              refine q_val (.bool true) (by kernel_rfl) (fun _ => by kernel_rfl) ?_
              refine q_val (.bool true) (by kernel_rfl) (fun _ => by kernel_rfl) ?_
              refine q_nil ?_
              refine fin_seq ?_
              refine ok_ret ?_
              refine fin_ret (.bool true) Try.results3 (by kernel_rfl) ?_
              exact fun w hO => ⟨rfl, hO.below⟩
          | false =>
            refine q_val (.bool true) (by kernel_rfl) (fun _ => by kernel_rfl) ?_
            refine q_val (.bool true) (by kernel_rfl) (fun _ => by kernel_rfl) ?_
            refine q_val (.bool true) (by kernel_rfl) (fun _ => by kernel_rfl) ?_
            refine q_val (.slice V1 ((if allMay a then makeL a else []).length) c1) (by kernel_rfl) (fun _ => by kernel_rfl) ?_
            refine q_val (.slice V2 ((if allMay a then makeL a else []).length) c2) (by kernel_rfl) (fun _ => by kernel_rfl) ?_
            refine q_call (k := 13) (args := #[.slice V1 ((if allMay a then makeL a else []).length) c1, .slice V2 ((if allMay a then makeL a else []).length) c2]) (.bool true) (by kernel_rfl) (fun _ => by kernel_rfl) (fun w hO => ret_b (decide_eq_true (rfl)) (rsame_any V1 V2 c1 c2 (if allMay a then makeL a else []) (if allMay a then makeL a else []) w (Sl.reads hr1 rfl hO (fun x hx => by simp [hx])) (Sl.reads hr2 rfl hO (fun x hx => by simp [hx])) (Nat.le_trans (if_len (n := 50) fun hp => Nat.le_trans (RF.make (allMay_mem.1 hp) (few_short h1).2).len (by decide)) (by decide)) (Nat.le_trans (if_len (n := 50) fun hp => Nat.le_trans (RF.make (allMay_mem.1 hp) (few_short h1).2).len (by decide)) (by decide)))) ?_
            refine q_val (.bool true) (by kernel_rfl) (fun _ => by kernel_rfl) ?_
            refine q_val (.bool true) (by kernel_rfl) (fun _ => by kernel_rfl) ?_
            refine q_val (.bool (allMay a)) (by kernel_rfl) (fun _ => by kernel_rfl) ?_
            refine q_val (.bool (allMay a)) (by kernel_rfl) (fun _ => by kernel_rfl) ?_
            cases h7 : allMay a with
            | true =>
              refine q_val (.bool true) (by kernel_rfl) (fun _ => by kernel_rfl) ?_
              refine q_val (.bool true) (by kernel_rfl) (fun _ => by kernel_rfl) ?_
              refine q_val (.bool true) (by kernel_rfl) (fun _ => by kernel_rfl) ?_
              refine q_nil ?_
              refine fin_seq ?_
              refine ok_ret ?_
              refine fin_ret (.bool true) Try.results3 (by kernel_rfl) ?_
              exact fun w hO => ⟨rfl, hO.below⟩
            | false =>
              refine q_val (.bool true) (by kernel_rfl) (fun _ => by kernel_rfl) ?_
              refine q_val (.bool true) (by kernel_rfl) (fun _ => by kernel_rfl) ?_
              refine q_val (.bool true) (by kernel_rfl) (fun _ => by kernel_rfl) ?_
              refine q_nil ?_
              refine fin_seq ?_
              refine ok_ret ?_
              refine fin_ret (.bool true) Try.results3 (by kernel_rfl) ?_
              exact fun w hO => ⟨rfl, hO.below⟩
        | false =>
          refine q_val (.bool true) (by kernel_rfl) (fun _ => by kernel_rfl) ?_
          refine q_val (.bool true) (by kernel_rfl) (fun _ => by kernel_rfl) ?_
          refine q_val (.bool true) (by kernel_rfl) (fun _ => by kernel_rfl) ?_
          refine q_val (.slice A a.length cap) (by kernel_rfl) (fun _ => by kernel_rfl) ?_
          refine q_loadm ⟨b1, (verV u).cells, 24⟩ (off := 0) (verV u) (by kernel_rfl) rfl (by simp) (by kernel_rfl) (by kernel_rfl) ?_
          refine q_call (k := 11) (args := #[.slice A a.length cap, verV u]) (.bool (rowHas a u)) (by kernel_rfl) (fun _ => by kernel_rfl) (fun w hO => has4_any A cap a u w (ha.on hO.below hO.size) (Nat.le_trans ((few_short h1).2) (by decide)) (few_short h1).1 su) ?_
          refine q_val (.slice A a.length cap) (by kernel_rfl) (fun _ => by kernel_rfl) ?_
          refine q_loadm ⟨b1, (verV u).cells, 24⟩ (off := 0) (verV u) (by kernel_rfl) rfl (by simp) (by kernel_rfl) (by kernel_rfl) ?_
          refine q_call (k := 12) (args := #[.slice A a.length cap, verV u]) (.bool (rowHas a u)) (by kernel_rfl) (fun _ => by kernel_rfl) (fun w hO => rrowHas_any A cap a u w (ha.on hO.below hO.size) (Nat.le_trans ((few_short h1).2) (by decide)) (few_short h1).1 su) ?_
          cases h8 : rowHas a u with
          | true =>
            refine q_val (.bool true) (by kernel_rfl) (fun _ => by kernel_rfl) ?_
            refine q_val (.bool true) (by kernel_rfl) (fun _ => by kernel_rfl) ?_
            refine q_val (.bool true) (by kernel_rfl) (fun _ => by kernel_rfl) ?_
            refine q_val (.slice V1 ((if allMay a then makeL a else []).length) c1) (by kernel_rfl) (fun _ => by kernel_rfl) ?_
            refine q_val (.slice V2 ((if allMay a then makeL a else []).length) c2) (by kernel_rfl) (fun _ => by kernel_rfl) ?_
            refine q_call (k := 13) (args := #[.slice V1 ((if allMay a then makeL a else []).length) c1, .slice V2 ((if allMay a then makeL a else []).length) c2]) (.bool true) (by kernel_rfl) (fun _ => by kernel_rfl) (fun w hO => ret_b (decide_eq_true (rfl)) (rsame_any V1 V2 c1 c2 (if allMay a then makeL a else []) (if allMay a then makeL a else []) w (Sl.reads hr1 rfl hO (fun x hx => by simp [hx])) (Sl.reads hr2 rfl hO (fun x hx => by simp [hx])) (Nat.le_trans (if_len (n := 50) fun hp => Nat.le_trans (RF.make (allMay_mem.1 hp) (few_short h1).2).len (by decide)) (by decide)) (Nat.le_trans (if_len (n := 50) fun hp => Nat.le_trans (RF.make (allMay_mem.1 hp) (few_short h1).2).len (by decide)) (by decide)))) ?_
            refine q_val (.bool true) (by kernel_rfl) (fun _ => by kernel_rfl) ?_
            refine q_val (.bool true) (by kernel_rfl) (fun _ => by kernel_rfl) ?_
            refine q_val (.bool (allMay a)) (by kernel_rfl) (fun _ => by kernel_rfl) ?_
            refine q_val (.bool (allMay a)) (by kernel_rfl) (fun _ => by kernel_rfl) ?_
            cases h9 : allMay a with
            | true =>
              refine q_val (.bool true) (by kernel_rfl) (fun _ => by kernel_rfl) ?_
              refine q_val (.bool true) (by kernel_rfl) (fun _ => by kernel_rfl) ?_
              refine q_val (.bool true) (by kernel_rfl) (fun _ => by kernel_rfl) ?_
              refine q_nil ?_
              refine fin_seq ?_
              refine ok_ret ?_
              refine fin_ret (.bool true) Try.results3 (by kernel_rfl) ?_
              exact fun w hO => ⟨rfl, hO.below⟩
            | false =>
              refine q_val (.bool true) (by kernel_rfl) (fun _ => by kernel_rfl) ?_
              refine q_val (.bool true) (by kernel_rfl) (fun _ => by kernel_rfl) ?_
              refine q_val (.bool true) (by kernel_rfl) (fun _ => by kernel_rfl) ?_
              refine q_nil ?_
              refine fin_seq ?_
              refine ok_ret ?_
              refine fin_ret (.bool true) Try.results3 (by kernel_rfl) ?_
              exact fun w hO => ⟨rfl, hO.below⟩
          | false =>
            refine q_val (.bool true) (by kernel_rfl) (fun _ => by kernel_rfl) ?_
            refine q_val (.bool true) (by kernel_rfl) (fun _ => by kernel_rfl) ?_
            refine q_val (.bool true) (by kernel_rfl) (fun _ => by kernel_rfl) ?_
            refine q_val (.slice V1 ((if allMay a then makeL a else []).length) c1) (by kernel_rfl) (fun _ => by kernel_rfl) ?_
            refine q_val (.slice V2 ((if allMay a then makeL a else []).length) c2) (by kernel_rfl) (fun _ => by kernel_rfl) ?_
            refine q_call (k := 13) (args := #[.slice V1 ((if allMay a then makeL a else []).length) c1, .slice V2 ((if allMay a then makeL a else []).length) c2]) (.bool true) (by kernel_rfl) (fun _ => by kernel_rfl) (fun w hO => ret_b (decide_eq_true (rfl)) (rsame_any V1 V2 c1 c2 (if allMay a then makeL a else []) (if allMay a then makeL a else []) w (Sl.reads hr1 rfl hO (fun x hx => by simp [hx])) (Sl.reads hr2 rfl hO (fun x hx => by simp [hx])) (Nat.le_trans (if_len (n := 50) fun hp => Nat.le_trans (RF.make (allMay_mem.1 hp) (few_short h1).2).len (by decide)) (by decide)) (Nat.le_trans (if_len (n := 50) fun hp => Nat.le_trans (RF.make (allMay_mem.1 hp) (few_short h1).2).len (by decide)) (by decide)))) ?_
            refine q_val (.bool true) (by kernel_rfl) (fun _ => by kernel_rfl) ?_
            refine q_val (.bool true) (by kernel_rfl) (fun _ => by kernel_rfl) ?_
            refine q_val (.bool (allMay a)) (by kernel_rfl) (fun _ => by kernel_rfl) ?_
            refine q_val (.bool (allMay a)) (by kernel_rfl) (fun _ => by kernel_rfl) ?_
            cases h10 : allMay a with
            | true =>
              refine q_val (.bool true) (by kernel_rfl) (fun _ => by kernel_rfl) ?_
              refine q_val (.bool true) (by kernel_rfl) (fun _ => by kernel_rfl) ?_
              refine q_val (.bool true) (by kernel_rfl) (fun _ => by kernel_rfl) ?_
              refine q_nil ?_
              refine fin_seq ?_
              refine ok_ret ?_
              refine fin_ret (.bool true) Try.results3 (by kernel_rfl) ?_
              exact fun w hO => ⟨rfl, hO.below⟩
            | false =>
              refine q_val (.bool true) (by kernel_rfl) (fun _ => by kernel_rfl) ?_
              refine q_val (.bool true) (by kernel_rfl) (fun _ => by kernel_rfl) ?_
              refine q_val (.bool true) (by kernel_rfl) (fun _ => by kernel_rfl) ?_
              refine q_nil ?_
              refine fin_seq ?_
              refine ok_ret ?_
              refine fin_ret (.bool true) Try.results3 (by kernel_rfl) ?_
              exact fun w hO => ⟨rfl, hO.below⟩
  | false =>
    refine s_val (.bool true) (by kernel_rfl) (fun _ => by kernel_rfl) ?_
    refine s_val (.bool true) (by kernel_rfl) (fun _ => by kernel_rfl) ?_
    refine s_skip (by kernel_rfl) ?_
    refine s_skip (by kernel_rfl) ?_
    refine s_skip (by kernel_rfl) ?_
    refine s_skip (by kernel_rfl) ?_
    refine s_val (.bool true) (by kernel_rfl) (fun _ => by kernel_rfl) ?_
    refine s_val (.bool true) (by kernel_rfl) (fun _ => by kernel_rfl) ?_
    refine s_skip (by kernel_rfl) ?_
    refine s_skip (by kernel_rfl) ?_
    refine s_skip (by kernel_rfl) ?_
    refine s_skip (by kernel_rfl) ?_
    refine s_val (.bool true) (by kernel_rfl) (fun _ => by kernel_rfl) ?_
    refine s_nil ?_
    refine fin_seq ?_
    refine ok_true (by kernel_rfl) ?_
    refine ok_seq ?_
    refine ok_region ?_
    refine s_call (k := 6) (args := #[]) (.bool true) (by kernel_rfl) (fun _ => by kernel_rfl) (fun w _ => awake4_any w) ?_
    refine s_val (.bool true) (by kernel_rfl) (fun _ => by kernel_rfl) ?_
    refine s_nil ?_
    refine fin_seq ?_
    refine ok_ret ?_
    refine fin_seq_ret ?_
    refine fin_ret (.bool true) Try.results3 (by kernel_rfl) ?_
    exact fun w hO => ⟨rfl, hO.below⟩
end Go.Proofs.Ytmlecnomdamgnaa
end

section
/-
  RowRaw: for every input the call returns true, and each argument reads afterwards as it read before. Conditions: none but the row's own.
-/
namespace Go.Proofs.Ytmlecnomdamgnaa.rowRaw
open Go.ChangeShapes Go.WideShapes Go.ChangeAt Go.RowKit
open Go.ChangeMaps (open_string shut_string)
set_option linter.unusedVariables false

set_option maxRecDepth 100000 in
theorem contract (H : Type) (enc : TypeId × Value → H) (W : World) (base : Nat) (args : Array Value) (ds gs : List (DataW H)) (before : List MemPlace)
    (hval : ∀ (j : Nat) t v, Try.f3.params[j]? = some t → args[j]? = some v → Value.okWide Try.prog W .any base t v)
    (hW : DataW.Whole enc Try.prog Try.f3.params.toList Rows.rowRawSpec.vars false W args.toList ds gs before) (hL : laidMetH Try.prog Rows.rowRawRow.laid W) :
    Calls Try.prog 3 args W fun e W' => ∃ v, e = .returned v ∧ Rows.rowRawSpec.post enc Try.prog Try.f3 false true false false W args v W' := by
  have hW' := hW
  obtain ⟨p, q, hA0, hV, rfl, hfz, hnd⟩ := hW
  have hA : DataW.TrodAll enc Try.prog W 0 (fun _ => true) true Try.f3.params.toList args.toList ds p := hA0
  rw [Try.params3] at hA hval
  obtain ⟨v0, vs0, d0, ds0, p0, q0, hargs, rfl, rfl, h0, r0⟩ := trodAll_cons hA
  obtain ⟨v1, vs1, d1, ds1, p1, q1, rfl, rfl, rfl, h1, r1⟩ := trodAll_cons r0
  obtain ⟨rfl, rfl, rfl⟩ := trodAll_nil r1
  obtain rfl : args = #[v0, v1] := by cases args; simp_all
  obtain ⟨rfl, rfl⟩ := trodVars_none hV
  clear hA0
  obtain ⟨l_A, l_c, l, rfl, l_reads, l_cap, l_max, l_w⟩ := open_spans (hval 0 22 v0 rfl rfl) h0
  obtain ⟨v, rfl, v_w⟩ := open_verV (hval 1 24 v1 rfl rfl) h1
  refine (rowRaw.law W l_A l_c l l_reads l_cap v ).mono fun e W' ⟨he, hb⟩ => ?_
  subst he
  exact ⟨_, rfl, law_end laidOut (fun t ht => by rw [Try.params3] at ht; simp at ht; rcases ht with rfl | rfl <;> exact ⟨by kernel_rfl, of_decide_eq_true (by kernel_rfl)⟩) rfl rfl Try.underlying4 hW' (by rfl) hb⟩

noncomputable def laidWorld (os : Os) : World :=
  { World.holding Try.prog os ⟨#[], #[], []⟩ with heap := (World.holding Try.prog os ⟨#[], #[], []⟩).heap }
theorem laid_met (os : Os) : laidMet Try.prog Rows.rowRawRow.laid ((laidWorld os).forCall (fun _ _ => 0) ⟨#[], #[.slice none 0 0, .agg #[.int .i64 0, .int .i64 0, .int .i64 0, .string ⟨#[]⟩, .string ⟨#[]⟩]], []⟩).memory :=
  laidMet_of_run' 8 (by kernel_rfl) (by kernel_rfl)
theorem reads (os : Os) {H : Type} (enc : TypeId × Value → H) : ∃ places, DataW.whole enc Try.prog ((laidWorld os).forCall (fun _ _ => 0) ⟨#[], #[.slice none 0 0, .agg #[.int .i64 0, .int .i64 0, .int .i64 0, .string ⟨#[]⟩, .string ⟨#[]⟩]], []⟩).memory Try.f3.params.toList Rows.rowRawSpec.vars false (#[.slice none 0 0, .agg #[.int .i64 0, .int .i64 0, .int .i64 0, .string ⟨#[]⟩, .string ⟨#[]⟩]] : Array Value).toList 8 = some ([.nil, .agg [.lit (.int .i64 0), .lit (.int .i64 0), .lit (.int .i64 0), .lit (.string []), .lit (.string [])]], [], places) :=
  ⟨[], by kernel_rfl⟩

set_option maxRecDepth 100000 in
theorem lifted (os : Os) (started : os.Started) (H : Type) (enc : TypeId × Value → H) (F : Stop.Interp) :
    ReturnsInHanded {} Try.checked os 3 .any ((OpenSpec.ofChange Rows.rowRawSpec).preRow enc Try.prog Try.f3 Rows.rowRawRow.domain false Rows.rowRawRow.laid) (((OpenSpec.ofChange Rows.rowRawSpec).at F).post enc Try.prog Try.f3 false true false false) := by
  obtain ⟨places, hx⟩ := reads os enc
  refine returnsInHanded_of_row (C := Try.checked) (s := OpenSpec.ofChange Rows.rowRawSpec) own started (by kernel_rfl) Try.func3
    (witness_row_at (enc := enc) (C := Try.checked) false (laidWorld os) #[.slice none 0 0, .agg #[.int .i64 0, .int .i64 0, .int .i64 0, .string ⟨#[]⟩, .string ⟨#[]⟩]] rfl (by kernel_rfl) (by kernel_rfl) (by kernel_rfl)
      (OpenSpec.preRow_of_cond 8 hx (by kernel_rfl) (fun k hk => by cases hk) (by kernel_rfl) (laid_met os))) ?_
  intro W base args ds gs before hval hW _ _ _ hL _ _
  exact contract H enc W base args ds gs before hval hW hL

theorem said : Rows.RowRawSaid :=
  OpenClaim.holds_of_cond 3 Try.f3 rfl rfl rfl rfl rfl rfl rfl ⟨rfl, rfl, rfl, rfl, rfl⟩ rfl rfl rfl rfl rfl (by kernel_rfl) Try.func3 (by kernel_rfl)
    (of_decide_eq_true (by kernel_rfl)) (by unfold Func.isWrapper; first | (rw [if_pos (by decide +kernel)]; kernel_rfl) | (rw [if_neg (by decide +kernel)]; exact ⟨rfl, rfl⟩))
    (fun os started H enc _ F => by rw [OpenClaim.pre_eq_preRow]; exact lifted os started H enc F)

#print axioms said
end Go.Proofs.Ytmlecnomdamgnaa.rowRaw
end
