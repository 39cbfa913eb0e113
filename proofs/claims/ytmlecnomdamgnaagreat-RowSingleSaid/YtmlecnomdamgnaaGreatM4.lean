/-
  What the statements' proofs lean on, part 4: each part begins with a remark that says what it proves and on what conditions.
-/
import Derived.Tactics
import Derived.Lib.AppendZerosOnto
import Derived.Test.YtmlecnomdamgnaaGreatM3

section
/-
  linchpinref4.And, Or.
-/
namespace Go.Proofs.YtmlecnomdamgnaaGreat
open Go.RowKit
set_option maxRecDepth 100000
set_option linter.unusedVariables false
set_option linter.unusedSimpArgs false
set_option maxHeartbeats 2000000

theorem both_short {a b : List Sp} (ha : ShortL a) (hb : ShortL b) : ShortL (a ++ b) := fun s hs => by
  rcases List.mem_append.1 hs with h | h
  · exact ha s h
  · exact hb s h

theorem rand_any (A B : Option Addr) (cap capb : Nat) (a b : List Sp) (W : World) (hv : Reads spanC W W.heap.size A a) (hu : Reads spanC W W.heap.size B b) (hn : a.length ≤ 100000) (hm : b.length ≤ 100000) (ha : ShortL a) (hb : ShortL b) :
    Calls Tryz.prog 12 #[.slice A a.length cap, .slice B b.length capb] W fun e w' => ∃ v' ob', e = .returned v' ∧ SlS v' (if rowMay a && rowMay b then andL a b else []) ob' ∧ Own [] W w' ob' := by
  refine calls_ok (n := 64) Tryz.func12 rfl (by kernel_rfl) (by kernel_rfl) ?_
  refine ok_seq ?_
  refine ok_region ?_
  refine s_val (.slice none 0 0) (by kernel_rfl) (fun _ => by kernel_rfl) ?_
  refine s_nil ?_
  refine fin_seq ?_
  refine ok_seq ?_
  refine ok_seq ?_
  refine ok_region ?_
  refine s_val (.slice A a.length cap) (by kernel_rfl) (fun _ => by kernel_rfl) ?_
  refine s_call (k := 27) (args := #[.slice A a.length cap]) (.bool (rowMay a)) (by kernel_rfl) (fun _ => by kernel_rfl) (fun w hO => rrowMay_any A cap a w (hv.on hO.below hO.size) (by omega) ha) ?_
  cases h1 : rowMay a with
  | true =>
    refine s_val (.bool false) (by kernel_rfl) (fun _ => by kernel_rfl) ?_
    refine s_val (.bool false) (by kernel_rfl) (fun _ => by kernel_rfl) ?_
    refine s_val (.slice B b.length capb) (by kernel_rfl) (fun _ => by kernel_rfl) ?_
    refine s_call (k := 27) (args := #[.slice B b.length capb]) (.bool (rowMay b)) (by kernel_rfl) (fun _ => by kernel_rfl) (fun w hO => rrowMay_any B capb b w (hu.on hO.below hO.size) (by omega) hb) ?_
    cases h2 : rowMay b with
    | true =>
      refine s_val (.bool false) (by kernel_rfl) (fun _ => by kernel_rfl) ?_
      refine s_val (.bool false) (by kernel_rfl) (fun _ => by kernel_rfl) ?_
      refine s_nil ?_
      refine fin_seq ?_
      refine ok_false (by kernel_rfl) ?_
      refine ok_skip ?_
      refine fin_seq ?_
      refine ok_seq ?_
      refine ok_region ?_
      refine s_val (.slice none 0 0) (by kernel_rfl) (fun _ => by kernel_rfl) ?_
      refine s_nil ?_
      refine fin_seq ?_
      refine ok_seq ?_
      refine ok_region ?_
      refine s_val (.slice A a.length cap) (by kernel_rfl) (fun _ => by kernel_rfl) ?_
      obtain ⟨i, z, e1, e2, e3, e4, e5⟩ := span_info
      refine s_cast (L' := [] ++ [] ++ []) rfl ?_
      refine s_appendR (E := []) (ob := []) (L0 := []) (sz := 14) (l := a) (A := A) (c := cap) spanC_len (by kernel_rfl) rfl Tryz.underlying22 e1 e2 e3 e4 (by kernel_rfl) (Sl.nil 43 14) (by kernel_rfl) (fun w hO => hv.on hO.below hO.size) span_cells (by unfold maxLen; omega) (by rw [e5]; omega) (fun va oa hva => ?_)
      refine s_val (.slice B b.length capb) (by kernel_rfl) (fun _ => by kernel_rfl) ?_
      refine s_appendR (E := []) (ob := oa) (L0 := []) (sz := 14) (l := b) (A := B) (c := capb) spanC_len (by kernel_rfl) rfl Tryz.underlying22 e1 e2 e3 e4 (by kernel_rfl) hva (by kernel_rfl) (fun w hO => hu.on hO.below hO.size) span_cells (by unfold maxLen; omega) (by rw [e5]; omega) (fun vb oq hvb => ?_)
      have hvl : SlS vb (a ++ b) oq := hvb.to (by simp) (by simp)
      have hlen : (a ++ b).length ≤ 200000 := by rw [List.length_append]; omega
      have hlab := both_short ha hb
      refine s_cast (L' := oq) (by simp) ?_
      clear hvb
      obtain ⟨C, capc, rfl⟩ := hvl.form
      refine s_callo (k := 29) (args := #[.slice C (a ++ b).length capc]) (fun v' L' => SlC v' (cutsL (a ++ b)) L') (by kernel_rfl) (fun _ => by kernel_rfl) (fun w hO => (cuts_any C capc (a ++ b) w (Sl.reads hvl rfl hO (fun x hx => hx)) (by omega) hlab).mono fun e w' ⟨v', ob', h1, h2, h3⟩ => ⟨v', ob', h1, h2, Own.take (Own.joinN hO h3) (fun x hx => List.mem_append_left _ hx) h3.apart⟩) (fun cv oc hcv => ?_)
      have hcz := cuts_size (a ++ b) hlab (a ++ b).length (Nat.le_refl _)
      rw [List.take_length] at hcz
      obtain ⟨cs, hcs⟩ : ∃ cs, cs = cutsL (a ++ b) := ⟨_, rfl⟩
      rw [← hcs] at hcv hcz
      have hcsn := hcz.1
      have hcs0 := hcz.2.1
      have hcsS := hcz.2.2
      obtain ⟨D, ccap, rfl⟩ := hcv.form
      obtain ⟨g, cur, rfl, rfl, hccap, hcmax, hcsz, hcur⟩ := hcv.block hcs0
      refine s_val (.slice (some ⟨g, 0, none⟩) cs.length ccap) (by kernel_rfl) (fun _ => by kernel_rfl) ?_
      refine s_nil ?_
      refine fin_seq ?_
      refine ok_seq ?_
      refine ok_seq ?_
      refine ok_region ?_
      refine s_val (.int .i64 0) (by kernel_rfl) (fun _ => by kernel_rfl) ?_
      refine s_nil ?_
      refine fin_seq ?_
      refine ok_block ?_
      refine ok_loop (fun L f m => ∃ (k : Nat) (v : Value) (out : List Sp) (ob : List Blk) (j : Nat → Value), (Built (fun c d => inL a c d && inL b c d) cs k v out ob) ∧ L = ⟨g, cur, 41⟩ :: ob ∧ f = upds j [(0, .slice A a.length cap), (1, .slice B b.length capb), (5, v), (6, .slice (some ⟨g, 0, none⟩) cs.length ccap), (7, .int .i64 (k : Int))] ∧ m = cs.length - k) (cs.length - 0) ⟨0, _, [], [], _, Built.start _ cs, rfl, upds_self _ ⟨by kernel_rfl, by kernel_rfl, by kernel_rfl, by kernel_rfl, by kernel_rfl, trivial⟩, rfl⟩ ?_
      rintro L f m ⟨k, v, out, ob, j, hrel, rfl, rfl, rfl⟩
      have hkl := hrel.le
      refine ok_seq ?_
      refine ok_seq ?_
      refine ok_region ?_
      refine s_val (.int .i64 (k : Int)) (by kernel_rfl) (fun _ => by kernel_rfl) ?_
      refine s_sum (k := .i64) (((k + 1 : Nat) : Int)) (by kernel_rfl) (fun _ => by kernel_rfl) (IntWalk.i64_in _ (by omega)) ?_
      refine s_val (.slice (some ⟨g, 0, none⟩) cs.length ccap) (by kernel_rfl) (fun _ => by kernel_rfl) ?_
      refine s_val (.int .i64 (cs.length : Int)) (by kernel_rfl) (fun _ => by kernel_rfl) ?_
      by_cases h3 : ((k + 1 : Nat) : Int) < (cs.length : Int)
      · skip
        have hk : k + 1 < cs.length := by omega
        obtain ⟨c, hc⟩ : ∃ c, cs[k] = c := ⟨_, rfl⟩
        obtain ⟨d, hd⟩ : ∃ d, cs[k + 1] = d := ⟨_, rfl⟩
        have hcS : c.short := hc ▸ hcsS _ (List.getElem_mem _)
        have hdS : d.short := hd ▸ hcsS _ (List.getElem_mem _)
        have hlen := hrel.len
        refine s_dec (p := ((k + 1 : Nat) : Int) < (cs.length : Int)) true (by kernel_rfl) (fun _ => by kernel_rfl) (decide_eq_true (h3)) ?_
        refine s_nil ?_
        refine fin_seq ?_
        refine ok_true (by kernel_rfl) ?_
        refine ok_skip ?_
        refine fin_seq ?_
        refine ok_seq ?_
        refine ok_block ?_
        refine ok_seq ?_
        refine ok_draw (by kernel_rfl) (by kernel_rfl) ?_
        refine q_val (.slice A a.length cap) (by kernel_rfl) (fun _ => by kernel_rfl) ?_
        refine q_val (.slice (some ⟨g, 0, none⟩) cs.length ccap) (by kernel_rfl) (fun _ => by kernel_rfl) ?_
        refine q_val (.int .i64 (k : Int)) (by kernel_rfl) (fun _ => by kernel_rfl) ?_
        refine q_val (.pointer (some ⟨g, k * 7, none⟩)) (by kernel_rfl) (run_ixsl (b := g) (off := 0) (n := cs.length) (c := ccap) (k := .i64) (j := (k : Int)) (e := 41) (sz := 7) rfl (by kernel_rfl) (by kernel_rfl) (by kernel_rfl) (by kernel_rfl) (by omega) (by omega) (by show 0 + k * 7 = k * 7; omega)) ?_
        refine q_load 0 ⟨g, cur, 41⟩ (off := k * 7) (cutV c) (by kernel_rfl) rfl (by kernel_rfl) (by kernel_rfl) (read_part cutC_len hcur k 0 (by omega) (by omega) _ (by rw [hc]; kernel_rfl)) ?_
        refine q_val (.slice (some ⟨g, 0, none⟩) cs.length ccap) (by kernel_rfl) (fun _ => by kernel_rfl) ?_
        refine q_val (.int .i64 (k : Int)) (by kernel_rfl) (fun _ => by kernel_rfl) ?_
        refine q_sum (k := .i64) (((k + 1 : Nat) : Int)) (by kernel_rfl) (fun _ => by kernel_rfl) (IntWalk.i64_in _ (by omega)) ?_
        refine q_val (.pointer (some ⟨g, (k + 1) * 7, none⟩)) (by kernel_rfl) (run_ixsl (b := g) (off := 0) (n := cs.length) (c := ccap) (k := .i64) (j := ((k + 1 : Nat) : Int)) (e := 41) (sz := 7) rfl (by kernel_rfl) (by kernel_rfl) (by kernel_rfl) (by kernel_rfl) (by omega) (by omega) (by show 0 + (k + 1) * 7 = (k + 1) * 7; omega)) ?_
        refine q_load 0 ⟨g, cur, 41⟩ (off := (k + 1) * 7) (cutV d) (by kernel_rfl) rfl (by kernel_rfl) (by kernel_rfl) (read_part cutC_len hcur (k + 1) 0 (by omega) (by omega) _ (by rw [hd]; kernel_rfl)) ?_
        refine q_call (k := 30) (args := #[.slice A a.length cap, cutV c, cutV d]) (.bool (inL a c d)) (by kernel_rfl) (fun _ => by kernel_rfl) (fun w hO => in_any A cap a c d w (hv.on hO.below hO.size) (by omega) ha hcS hdS) ?_
        refine q_val (.bool (inL a c d)) (by kernel_rfl) (fun _ => by kernel_rfl) ?_
        cases h4 : inL a c d with
        | true =>
          refine q_val (.slice B b.length capb) (by kernel_rfl) (fun _ => by kernel_rfl) ?_
          refine q_val (.slice (some ⟨g, 0, none⟩) cs.length ccap) (by kernel_rfl) (fun _ => by kernel_rfl) ?_
          refine q_val (.int .i64 (k : Int)) (by kernel_rfl) (fun _ => by kernel_rfl) ?_
          refine q_val (.pointer (some ⟨g, k * 7, none⟩)) (by kernel_rfl) (run_ixsl (b := g) (off := 0) (n := cs.length) (c := ccap) (k := .i64) (j := (k : Int)) (e := 41) (sz := 7) rfl (by kernel_rfl) (by kernel_rfl) (by kernel_rfl) (by kernel_rfl) (by omega) (by omega) (by show 0 + k * 7 = k * 7; omega)) ?_
          refine q_load 0 ⟨g, cur, 41⟩ (off := k * 7) (cutV c) (by kernel_rfl) rfl (by kernel_rfl) (by kernel_rfl) (read_part cutC_len hcur k 0 (by omega) (by omega) _ (by rw [hc]; kernel_rfl)) ?_
          refine q_val (.slice (some ⟨g, 0, none⟩) cs.length ccap) (by kernel_rfl) (fun _ => by kernel_rfl) ?_
          refine q_val (.int .i64 (k : Int)) (by kernel_rfl) (fun _ => by kernel_rfl) ?_
          refine q_sum (k := .i64) (((k + 1 : Nat) : Int)) (by kernel_rfl) (fun _ => by kernel_rfl) (IntWalk.i64_in _ (by omega)) ?_
          refine q_val (.pointer (some ⟨g, (k + 1) * 7, none⟩)) (by kernel_rfl) (run_ixsl (b := g) (off := 0) (n := cs.length) (c := ccap) (k := .i64) (j := ((k + 1 : Nat) : Int)) (e := 41) (sz := 7) rfl (by kernel_rfl) (by kernel_rfl) (by kernel_rfl) (by kernel_rfl) (by omega) (by omega) (by show 0 + (k + 1) * 7 = (k + 1) * 7; omega)) ?_
          refine q_load 0 ⟨g, cur, 41⟩ (off := (k + 1) * 7) (cutV d) (by kernel_rfl) rfl (by kernel_rfl) (by kernel_rfl) (read_part cutC_len hcur (k + 1) 0 (by omega) (by omega) _ (by rw [hd]; kernel_rfl)) ?_
          refine q_call (k := 30) (args := #[.slice B b.length capb, cutV c, cutV d]) (.bool (inL b c d)) (by kernel_rfl) (fun _ => by kernel_rfl) (fun w hO => in_any B capb b c d w (hu.on hO.below hO.size) (by omega) hb hcS hdS) ?_
          refine q_val (.bool (inL b c d)) (by kernel_rfl) (fun _ => by kernel_rfl) ?_
          refine q_nil ?_
          refine fin_seq ?_
          cases h5 : inL b c d with
          | true =>
            refine ok_true (by kernel_rfl) ?_
            refine ok_anyhL [⟨g, cur, 41⟩] (by kernel_rfl) (fun w hO => Own.take hO (by simp) (by simp)) ?_
            refine hl_take 0 _ (v) rfl (by kernel_rfl) (by kernel_rfl) (by kernel_rfl) (pq_block (pq_seq (pq_round (pq_block (pq_seq pq_body))))) (fun w hO => Own.take hO (by simp) (by simp)) (by kernel_rfl) (fun _ _ => by kernel_rfl) ?_
            refine hl_take 1 _ (.slice (some ⟨g, 0, none⟩) cs.length ccap) rfl (by kernel_rfl) (by kernel_rfl) (by kernel_rfl) (pq_block (pq_seq (pq_round (pq_block (pq_seq pq_body))))) (fun w hO => Own.take hO (by simp) (by simp)) (by kernel_rfl) (fun _ _ => by kernel_rfl) ?_
            refine hl_take 2 _ (.int .i64 (k : Int)) rfl (by kernel_rfl) (by kernel_rfl) (by kernel_rfl) (pq_block (pq_seq (pq_round (pq_block (pq_seq pq_body))))) (fun w hO => Own.take hO (by simp) (by simp)) (by kernel_rfl) (fun _ _ => by kernel_rfl) ?_
            refine hl_take 3 _ (.pointer (some ⟨g, k * 7, none⟩)) rfl (by kernel_rfl) (by kernel_rfl) (by kernel_rfl) (pq_block (pq_seq (pq_round (pq_block (pq_seq pq_body))))) (fun w hO => Own.take hO (by simp) (by simp)) (by kernel_rfl) (fun w _ => run_ixsl (b := g) (off := 0) (n := cs.length) (c := ccap) (k := .i64) (j := (k : Int)) (e := 41) (sz := 7) rfl (by kernel_rfl) (by kernel_rfl) (by kernel_rfl) (by kernel_rfl) (by omega) (by omega) (by show 0 + k * 7 = k * 7; omega) w) ?_
            refine hl_load 4 _ 0 ⟨g, cur, 41⟩ (off := k * 7) (cutV c) rfl (by kernel_rfl) (by kernel_rfl) (by kernel_rfl) (pq_block (pq_seq (pq_round (pq_block (pq_seq pq_body))))) (fun w hO => Own.take hO (by simp) (by simp)) (by kernel_rfl) rfl rfl (by kernel_rfl) (read_part cutC_len hcur k 0 (by omega) (by omega) _ (by rw [hc]; kernel_rfl)) ?_
            refine hl_take 5 _ (.slice (some ⟨g, 0, none⟩) cs.length ccap) rfl (by kernel_rfl) (by kernel_rfl) (by kernel_rfl) (pq_block (pq_seq (pq_round (pq_block (pq_seq pq_body))))) (fun w hO => Own.take hO (by simp) (by simp)) (by kernel_rfl) (fun _ _ => by kernel_rfl) ?_
            refine hl_take 6 _ (.int .i64 (k : Int)) rfl (by kernel_rfl) (by kernel_rfl) (by kernel_rfl) (pq_block (pq_seq (pq_round (pq_block (pq_seq pq_body))))) (fun w hO => Own.take hO (by simp) (by simp)) (by kernel_rfl) (fun _ _ => by kernel_rfl) ?_
            refine hl_sum (k := .i64) 7 _ ((k + 1 : Nat) : Int) rfl (by kernel_rfl) (by kernel_rfl) (by kernel_rfl) (pq_block (pq_seq (pq_round (pq_block (pq_seq pq_body))))) (fun w hO => Own.take hO (by simp) (by simp)) (by kernel_rfl) (fun _ => by kernel_rfl) (IntWalk.i64_in _ (by omega)) ?_
            refine hl_take 8 _ (.pointer (some ⟨g, (k + 1) * 7, none⟩)) rfl (by kernel_rfl) (by kernel_rfl) (by kernel_rfl) (pq_block (pq_seq (pq_round (pq_block (pq_seq pq_body))))) (fun w hO => Own.take hO (by simp) (by simp)) (by kernel_rfl) (fun w _ => run_ixsl (b := g) (off := 0) (n := cs.length) (c := ccap) (k := .i64) (j := ((k + 1 : Nat) : Int)) (e := 41) (sz := 7) rfl (by kernel_rfl) (by kernel_rfl) (by kernel_rfl) (by kernel_rfl) (by omega) (by omega) (by show 0 + (k + 1) * 7 = (k + 1) * 7; omega) w) ?_
            refine hl_load 9 _ 0 ⟨g, cur, 41⟩ (off := (k + 1) * 7) (cutV d) rfl (by kernel_rfl) (by kernel_rfl) (by kernel_rfl) (pq_block (pq_seq (pq_round (pq_block (pq_seq pq_body))))) (fun w hO => Own.take hO (by simp) (by simp)) (by kernel_rfl) rfl rfl (by kernel_rfl) (read_part cutC_len hcur (k + 1) 0 (by omega) (by omega) _ (by rw [hd]; kernel_rfl)) ?_
            refine h_one 10 (by kernel_rfl) ?_
            refine hl_callx _ (k := 31) (args := #[v, cutV c, cutV d]) (fun v' L' => ∃ ob', L' = ⟨g, cur, 41⟩ :: ob' ∧ SlS v' (growL out c d) ob') rfl (by kernel_rfl) (fun _ => by kernel_rfl) (fun w hO => grow_call c d hO hrel.sl (by omega) hrel.short hcS hdS) (fun v' L' ⟨ob', e, _⟩ => by subst e; exact (fun w hO => Own.take hO (by simp) (by simp))) (fun v2 L2 hv2 => ?_)
            obtain ⟨ob2, rfl, hs2⟩ := hv2
            refine hl_take 11 _ (v2) rfl (by kernel_rfl) (by kernel_rfl) (by kernel_rfl) (pq_block (pq_seq (pq_round (pq_block (pq_seq pq_body))))) (fun w hO => Own.take hO (by simp) (by simp)) (by kernel_rfl) (fun _ _ => by kernel_rfl) ?_
            refine h_done (by kernel_rfl) ?_
            refine fin_block ?_
            refine fin_seq ?_
            refine ok_region ?_
            refine s_val (.int .i64 (k : Int)) (by kernel_rfl) (fun _ => by kernel_rfl) ?_
            refine s_sum (k := .i64) (((k + 1 : Nat) : Int)) (by kernel_rfl) (fun _ => by kernel_rfl) (IntWalk.i64_in _ (by omega)) ?_
            refine s_val (.int .i64 ((k + 1 : Nat) : Int)) (by kernel_rfl) (fun _ => by kernel_rfl) ?_
            refine s_nil ?_
            exact fin_round (m' := cs.length - (k + 1)) (by omega) ⟨k + 1, v2, growL out c d, ob2, _, hrel.grow hk hc hd (by simp [h1, h2, h3, h4, h5]) hcS hdS hs2, rfl, upds_self _ ⟨by kernel_rfl, by kernel_rfl, by kernel_rfl, by kernel_rfl, by kernel_rfl, trivial⟩, rfl⟩
          | false =>
            refine ok_false (by kernel_rfl) ?_
            refine ok_skip ?_
            refine fin_block ?_
            refine fin_seq ?_
            refine ok_region ?_
            refine s_val (.int .i64 (k : Int)) (by kernel_rfl) (fun _ => by kernel_rfl) ?_
            refine s_sum (k := .i64) (((k + 1 : Nat) : Int)) (by kernel_rfl) (fun _ => by kernel_rfl) (IntWalk.i64_in _ (by omega)) ?_
            refine s_val (.int .i64 ((k + 1 : Nat) : Int)) (by kernel_rfl) (fun _ => by kernel_rfl) ?_
            refine s_nil ?_
            exact fin_round (m' := cs.length - (k + 1)) (by omega) ⟨k + 1, v, out, ob, _, hrel.keep hk hc hd (by simp [h1, h2, h3, h4, h5]), rfl, upds_self _ ⟨by kernel_rfl, by kernel_rfl, by kernel_rfl, by kernel_rfl, by kernel_rfl, trivial⟩, rfl⟩
        | false =>
          refine q_skip (by kernel_rfl) ?_
          refine q_skip (by kernel_rfl) ?_
          refine q_skip (by kernel_rfl) ?_
          refine q_skip (by kernel_rfl) ?_
          refine q_skip (by kernel_rfl) ?_
          refine q_skip (by kernel_rfl) ?_
          refine q_skip (by kernel_rfl) ?_
          refine q_skip (by kernel_rfl) ?_
          refine q_skip (by kernel_rfl) ?_
          refine q_skip (by kernel_rfl) ?_
          refine q_skip (by kernel_rfl) ?_
          refine q_val (.bool false) (by kernel_rfl) (fun _ => by kernel_rfl) ?_
          refine q_nil ?_
          refine fin_seq ?_
          refine ok_false (by kernel_rfl) ?_
          refine ok_skip ?_
          refine fin_block ?_
          refine fin_seq ?_
          refine ok_region ?_
          refine s_val (.int .i64 (k : Int)) (by kernel_rfl) (fun _ => by kernel_rfl) ?_
          refine s_sum (k := .i64) (((k + 1 : Nat) : Int)) (by kernel_rfl) (fun _ => by kernel_rfl) (IntWalk.i64_in _ (by omega)) ?_
          refine s_val (.int .i64 ((k + 1 : Nat) : Int)) (by kernel_rfl) (fun _ => by kernel_rfl) ?_
          refine s_nil ?_
          exact fin_round (m' := cs.length - (k + 1)) (by omega) ⟨k + 1, v, out, ob, _, hrel.keep hk hc hd (by simp [h1, h2, h3, h4]), rfl, upds_self _ ⟨by kernel_rfl, by kernel_rfl, by kernel_rfl, by kernel_rfl, by kernel_rfl, trivial⟩, rfl⟩
      · skip
        refine s_dec (p := ((k + 1 : Nat) : Int) < (cs.length : Int)) false (by kernel_rfl) (fun _ => by kernel_rfl) (decide_eq_false (h3)) ?_
        refine s_nil ?_
        refine fin_seq ?_
        refine ok_false (by kernel_rfl) ?_
        refine ok_exit ?_
        refine fin_seq_exit ?_
        refine fin_round_exit ?_
        refine fin_block_exit ?_
        refine fin_seq ?_
        refine ok_seq ?_
        refine ok_region ?_
        refine s_val (v) (by kernel_rfl) (fun _ => by kernel_rfl) ?_
        refine s_val (v) (by kernel_rfl) (fun _ => by kernel_rfl) ?_
        refine s_nil ?_
        refine fin_seq ?_
        refine ok_ret ?_
        refine fin_ret (v) Tryz.results12 (by kernel_rfl) ?_
        exact fun w hO => ⟨v, ob, rfl, by rw [if_pos (by simp), show andL a b = out from by unfold andL; rw [← hcs, hrel.eq, build_end _ _ _ _ (by omega)]]; exact hrel.sl, hO.sub [_]⟩
    | false =>
      refine s_val (.bool true) (by kernel_rfl) (fun _ => by kernel_rfl) ?_
      refine s_val (.bool true) (by kernel_rfl) (fun _ => by kernel_rfl) ?_
      refine s_nil ?_
      refine fin_seq ?_
      refine ok_true (by kernel_rfl) ?_
      refine ok_seq ?_
      refine ok_region ?_
      refine s_val (.slice none 0 0) (by kernel_rfl) (fun _ => by kernel_rfl) ?_
      refine s_nil ?_
      refine fin_seq ?_
      refine ok_ret ?_
      refine fin_seq_ret ?_
      refine fin_ret (.slice none 0 0) Tryz.results12 (by kernel_rfl) ?_
      exact fun w hO => ⟨_, [], rfl, by rw [if_neg (by simp)]; exact Sl.nil _ _, by simpa using hO⟩
  | false =>
    refine s_val (.bool true) (by kernel_rfl) (fun _ => by kernel_rfl) ?_
    refine s_val (.bool true) (by kernel_rfl) (fun _ => by kernel_rfl) ?_
    refine s_skip (by kernel_rfl) ?_
    refine s_skip (by kernel_rfl) ?_
    refine s_skip (by kernel_rfl) ?_
    refine s_val (.bool true) (by kernel_rfl) (fun _ => by kernel_rfl) ?_
    refine s_nil ?_
    refine fin_seq ?_
    refine ok_true (by kernel_rfl) ?_
    refine ok_seq ?_
    refine ok_region ?_
    refine s_val (.slice none 0 0) (by kernel_rfl) (fun _ => by kernel_rfl) ?_
    refine s_nil ?_
    refine fin_seq ?_
    refine ok_ret ?_
    refine fin_seq_ret ?_
    refine fin_ret (.slice none 0 0) Tryz.results12 (by kernel_rfl) ?_
    exact fun w hO => ⟨_, [], rfl, by rw [if_neg (by simp)]; exact Sl.nil _ _, by simpa using hO⟩
theorem ror_any (A B : Option Addr) (cap capb : Nat) (a b : List Sp) (W : World) (hv : Reads spanC W W.heap.size A a) (hu : Reads spanC W W.heap.size B b) (hn : a.length ≤ 100000) (hm : b.length ≤ 100000) (ha : ShortL a) (hb : ShortL b) :
    Calls Tryz.prog 11 #[.slice A a.length cap, .slice B b.length capb] W fun e w' => ∃ v' ob', e = .returned v' ∧ SlS v' (if rowMay a && rowMay b then orL a b else []) ob' ∧ Own [] W w' ob' := by
  refine calls_ok (n := 24) Tryz.func11 rfl (by kernel_rfl) (by kernel_rfl) ?_
  refine ok_seq ?_
  refine ok_region ?_
  refine s_val (.slice none 0 0) (by kernel_rfl) (fun _ => by kernel_rfl) ?_
  refine s_nil ?_
  refine fin_seq ?_
  refine ok_seq ?_
  refine ok_seq ?_
  refine ok_region ?_
  refine s_val (.slice A a.length cap) (by kernel_rfl) (fun _ => by kernel_rfl) ?_
  refine s_call (k := 27) (args := #[.slice A a.length cap]) (.bool (rowMay a)) (by kernel_rfl) (fun _ => by kernel_rfl) (fun w hO => rrowMay_any A cap a w (hv.on hO.below hO.size) (by omega) ha) ?_
  cases h1 : rowMay a with
  | true =>
    refine s_val (.bool false) (by kernel_rfl) (fun _ => by kernel_rfl) ?_
    refine s_val (.bool false) (by kernel_rfl) (fun _ => by kernel_rfl) ?_
    refine s_val (.slice B b.length capb) (by kernel_rfl) (fun _ => by kernel_rfl) ?_
    refine s_call (k := 27) (args := #[.slice B b.length capb]) (.bool (rowMay b)) (by kernel_rfl) (fun _ => by kernel_rfl) (fun w hO => rrowMay_any B capb b w (hu.on hO.below hO.size) (by omega) hb) ?_
    cases h2 : rowMay b with
    | true =>
      refine s_val (.bool false) (by kernel_rfl) (fun _ => by kernel_rfl) ?_
      refine s_val (.bool false) (by kernel_rfl) (fun _ => by kernel_rfl) ?_
      refine s_nil ?_
      refine fin_seq ?_
      refine ok_false (by kernel_rfl) ?_
      refine ok_skip ?_
      refine fin_seq ?_
      refine ok_seq ?_
      refine ok_region ?_
      refine s_val (.slice A a.length cap) (by kernel_rfl) (fun _ => by kernel_rfl) ?_
      obtain ⟨i, z, e1, e2, e3, e4, e5⟩ := span_info
      refine s_cast (L' := [] ++ [] ++ []) rfl ?_
      refine s_appendR (E := []) (ob := []) (L0 := []) (sz := 14) (l := a) (A := A) (c := cap) spanC_len (by kernel_rfl) rfl Tryz.underlying22 e1 e2 e3 e4 (by kernel_rfl) (Sl.nil 43 14) (by kernel_rfl) (fun w hO => hv.on hO.below hO.size) span_cells (by unfold maxLen; omega) (by rw [e5]; omega) (fun va oa hva => ?_)
      refine s_val (.slice B b.length capb) (by kernel_rfl) (fun _ => by kernel_rfl) ?_
      refine s_appendR (E := []) (ob := oa) (L0 := []) (sz := 14) (l := b) (A := B) (c := capb) spanC_len (by kernel_rfl) rfl Tryz.underlying22 e1 e2 e3 e4 (by kernel_rfl) hva (by kernel_rfl) (fun w hO => hu.on hO.below hO.size) span_cells (by unfold maxLen; omega) (by rw [e5]; omega) (fun vb oq hvb => ?_)
      have hvl : SlS vb (a ++ b) oq := hvb.to (by simp) (by simp)
      have hlen : (a ++ b).length ≤ 200000 := by rw [List.length_append]; omega
      have hlab := both_short ha hb
      refine s_cast (L' := oq) (by simp) ?_
      clear hvb
      obtain ⟨C, capc, rfl⟩ := hvl.form
      refine s_callo (k := 28) (args := #[.slice C (a ++ b).length capc]) (fun v' L' => ∃ mv, v' = .tuple #[mv, .bool (allMay (a ++ b))] ∧ SlS mv (if allMay (a ++ b) then makeL (a ++ b) else []) L') (by kernel_rfl) (fun _ => by kernel_rfl) (fun w hO => (rmake_any C capc (a ++ b) w (Sl.reads hvl rfl hO (fun x hx => hx)) (by omega) hlab).mono fun e w' ⟨v', ob', h1, h2, h3⟩ => ⟨_, ob', h1, ⟨v', rfl, h2⟩, Own.take (Own.joinN hO h3) (fun x hx => List.mem_append_left _ hx) h3.apart⟩) (fun tv om htv => ?_)
      obtain ⟨mv, rfl, hmv⟩ := htv
      refine s_val (.tuple #[mv, .bool (allMay (a ++ b))]) (by kernel_rfl) (fun _ => by kernel_rfl) ?_
      refine s_val (mv) (by kernel_rfl) (fun _ => by kernel_rfl) ?_
      refine s_val (.bool (allMay (a ++ b))) (by kernel_rfl) (fun _ => by kernel_rfl) ?_
      refine s_val (mv) (by kernel_rfl) (fun _ => by kernel_rfl) ?_
      refine s_val (.bool (allMay (a ++ b))) (by kernel_rfl) (fun _ => by kernel_rfl) ?_
      refine s_nil ?_
      refine fin_seq ?_
      refine ok_seq ?_
      refine ok_region ?_
      refine s_val (mv) (by kernel_rfl) (fun _ => by kernel_rfl) ?_
      refine s_val (mv) (by kernel_rfl) (fun _ => by kernel_rfl) ?_
      refine s_nil ?_
      refine fin_seq ?_
      refine ok_ret ?_
      refine fin_ret (mv) Tryz.results11 (by kernel_rfl) ?_
      exact fun w hO => ⟨mv, om, rfl, by rw [if_pos (by simp)]; unfold orL; have hall : allMay (a ++ b) = true := allMay_mem.2 (both_may (by assumption) (by assumption)); rw [hall, if_pos rfl] at hmv; exact hmv, hO⟩
    | false =>
      refine s_val (.bool true) (by kernel_rfl) (fun _ => by kernel_rfl) ?_
      refine s_val (.bool true) (by kernel_rfl) (fun _ => by kernel_rfl) ?_
      refine s_nil ?_
      refine fin_seq ?_
      refine ok_true (by kernel_rfl) ?_
      refine ok_seq ?_
      refine ok_region ?_
      refine s_val (.slice none 0 0) (by kernel_rfl) (fun _ => by kernel_rfl) ?_
      refine s_nil ?_
      refine fin_seq ?_
      refine ok_ret ?_
      refine fin_seq_ret ?_
      refine fin_ret (.slice none 0 0) Tryz.results11 (by kernel_rfl) ?_
      exact fun w hO => ⟨_, [], rfl, by rw [if_neg (by simp)]; exact Sl.nil _ _, by simpa using hO⟩
  | false =>
    refine s_val (.bool true) (by kernel_rfl) (fun _ => by kernel_rfl) ?_
    refine s_val (.bool true) (by kernel_rfl) (fun _ => by kernel_rfl) ?_
    refine s_skip (by kernel_rfl) ?_
    refine s_skip (by kernel_rfl) ?_
    refine s_skip (by kernel_rfl) ?_
    refine s_val (.bool true) (by kernel_rfl) (fun _ => by kernel_rfl) ?_
    refine s_nil ?_
    refine fin_seq ?_
    refine ok_true (by kernel_rfl) ?_
    refine ok_seq ?_
    refine ok_region ?_
    refine s_val (.slice none 0 0) (by kernel_rfl) (fun _ => by kernel_rfl) ?_
    refine s_nil ?_
    refine fin_seq ?_
    refine ok_ret ?_
    refine fin_seq_ret ?_
    refine fin_ret (.slice none 0 0) Tryz.results11 (by kernel_rfl) ?_
    exact fun w hO => ⟨_, [], rfl, by rw [if_neg (by simp)]; exact Sl.nil _ _, by simpa using hO⟩
end Go.Proofs.YtmlecnomdamgnaaGreat
end

section
/-
  linchpinref4.Within.
-/
namespace Go.Proofs.YtmlecnomdamgnaaGreat
open Go.RowKit
set_option maxRecDepth 100000
set_option linter.unusedVariables false
set_option linter.unusedSimpArgs false
set_option maxHeartbeats 2000000

theorem build_len (p : Cu → Cu → Bool) : ∀ (cs : List Cu) (out : List Sp), (buildL p out cs).length ≤ out.length + cs.length
  | [], out => by unfold buildL; simp
  | [c], out => by unfold buildL; simp
  | c :: d :: r, out => by
    have ih := build_len p (d :: r) (if p c d then growL out c d else out)
    unfold buildL
    have : (if p c d = true then growL out c d else out).length ≤ out.length + 1 := by
      split
      · exact grow_len out c d
      · omega
    simp only [List.length_cons] at ih ⊢
    omega
theorem and_len (a b : List Sp) (hn : a.length ≤ 100000) (hm : b.length ≤ 100000) (ha : ShortL a) (hb : ShortL b) : (andL a b).length ≤ 1000000 := by
  have h1 := build_len (fun c d => inL a c d && inL b c d) (cutsL (a ++ b)) []
  have h2 := cuts_size (a ++ b) (both_short ha hb) (a ++ b).length (Nat.le_refl _)
  rw [List.take_length, List.length_append] at h2
  have h3 : (andL a b).length ≤ (cutsL (a ++ b)).length := by unfold andL; simpa using h1
  omega

theorem rwithin_any (A B : Option Addr) (cap capb : Nat) (a b : List Sp) (W : World) (hv : Reads spanC W W.heap.size A a) (hu : Reads spanC W W.heap.size B b) (hn : a.length ≤ 100000) (hm : b.length ≤ 100000) (ha : ShortL a) (hb : ShortL b) :
    Calls Tryz.prog 19 #[.slice A a.length cap, .slice B b.length capb] W fun e w' => e = .returned (.bool (rowMay a && rowMay b && decide (andL a b = a))) ∧ Below W.heap.size W w' := by
  refine calls_ok (n := 18) Tryz.func19 rfl (by kernel_rfl) (by kernel_rfl) ?_
  refine ok_seq ?_
  refine ok_region ?_
  refine s_val (.bool false) (by kernel_rfl) (fun _ => by kernel_rfl) ?_
  refine s_nil ?_
  refine fin_seq ?_
  refine ok_seq ?_
  refine ok_region ?_
  refine s_val (.slice A a.length cap) (by kernel_rfl) (fun _ => by kernel_rfl) ?_
  refine s_call (k := 27) (args := #[.slice A a.length cap]) (.bool (rowMay a)) (by kernel_rfl) (fun _ => by kernel_rfl) (fun w hO => rrowMay_any A cap a w (hv.on hO.below hO.size) (by omega) ha) ?_
  refine s_val (.bool (rowMay a)) (by kernel_rfl) (fun _ => by kernel_rfl) ?_
  cases h1 : rowMay a with
  | true =>
    refine s_val (.slice B b.length capb) (by kernel_rfl) (fun _ => by kernel_rfl) ?_
    refine s_call (k := 27) (args := #[.slice B b.length capb]) (.bool (rowMay b)) (by kernel_rfl) (fun _ => by kernel_rfl) (fun w hO => rrowMay_any B capb b w (hu.on hO.below hO.size) (by omega) hb) ?_
    refine s_val (.bool (rowMay b)) (by kernel_rfl) (fun _ => by kernel_rfl) ?_
    refine s_val (.bool (rowMay b)) (by kernel_rfl) (fun _ => by kernel_rfl) ?_
    cases h2 : rowMay b with
    | true =>
      refine s_val (.slice A a.length cap) (by kernel_rfl) (fun _ => by kernel_rfl) ?_
      refine s_val (.slice B b.length capb) (by kernel_rfl) (fun _ => by kernel_rfl) ?_
      refine s_callo (k := 12) (args := #[.slice A a.length cap, .slice B b.length capb]) (fun v' L' => SlS v' (andL a b) L') (by kernel_rfl) (fun _ => by kernel_rfl) (fun w hO => (rand_any A B cap capb a b w (hv.on hO.below hO.size) (hu.on hO.below hO.size) hn hm ha hb).mono fun e w' ⟨v', ob', q1, q2, q3⟩ => ⟨v', ob', q1, by rw [if_pos (by simp [h1, h2])] at q2; exact q2, by simpa using Own.joinN hO q3⟩) (fun mv om hmv => ?_)
      obtain ⟨C, capc, rfl⟩ := hmv.form
      refine s_val (.slice A a.length cap) (by kernel_rfl) (fun _ => by kernel_rfl) ?_
      refine s_call (k := 14) (args := #[.slice C ((andL a b).length) capc, .slice A a.length cap]) (.bool (decide (andL a b = a))) (by kernel_rfl) (fun _ => by kernel_rfl) (fun w hO => rsame_any C A capc cap (andL a b) a w (Sl.reads hmv rfl hO (fun x hx => hx)) (hv.on hO.below hO.size) (and_len a b hn hm ha hb) (by omega)) ?_
      refine s_val (.bool (decide (andL a b = a))) (by kernel_rfl) (fun _ => by kernel_rfl) ?_
      refine s_val (.bool (decide (andL a b = a))) (by kernel_rfl) (fun _ => by kernel_rfl) ?_
      refine s_nil ?_
      refine fin_seq ?_
      refine ok_ret ?_
      refine fin_ret (.bool (decide (andL a b = a))) Tryz.results19 (by kernel_rfl) ?_
      exact fun w hO => ⟨by simp [h1, h2], hO.below⟩
    | false =>
      refine s_skip (by kernel_rfl) ?_
      refine s_skip (by kernel_rfl) ?_
      refine s_skip (by kernel_rfl) ?_
      refine s_skip (by kernel_rfl) ?_
      refine s_skip (by kernel_rfl) ?_
      refine s_val (.bool false) (by kernel_rfl) (fun _ => by kernel_rfl) ?_
      refine s_val (.bool false) (by kernel_rfl) (fun _ => by kernel_rfl) ?_
      refine s_nil ?_
      refine fin_seq ?_
      refine ok_ret ?_
      refine fin_ret (.bool false) Tryz.results19 (by kernel_rfl) ?_
      exact fun w hO => ⟨by simp [h1, h2], hO.below⟩
  | false =>
    refine s_skip (by kernel_rfl) ?_
    refine s_skip (by kernel_rfl) ?_
    refine s_val (.bool false) (by kernel_rfl) (fun _ => by kernel_rfl) ?_
    refine s_val (.bool false) (by kernel_rfl) (fun _ => by kernel_rfl) ?_
    refine s_skip (by kernel_rfl) ?_
    refine s_skip (by kernel_rfl) ?_
    refine s_skip (by kernel_rfl) ?_
    refine s_skip (by kernel_rfl) ?_
    refine s_skip (by kernel_rfl) ?_
    refine s_val (.bool false) (by kernel_rfl) (fun _ => by kernel_rfl) ?_
    refine s_val (.bool false) (by kernel_rfl) (fun _ => by kernel_rfl) ?_
    refine s_nil ?_
    refine fin_seq ?_
    refine ok_ret ?_
    refine fin_ret (.bool false) Tryz.results19 (by kernel_rfl) ?_
    exact fun w hO => ⟨by simp [h1], hO.below⟩
end Go.Proofs.YtmlecnomdamgnaaGreat
end

section
/-
  Steps: two results in two variables; a region whose ends are brought together; the rest of a slice that came in. No condition of their own.
-/
namespace Go.Proofs.YtmlecnomdamgnaaGreat
open Go.RowKit
set_option linter.unusedVariables false
set_option linter.unusedSimpArgs false
section
variable {M : List Nat} {P : Program} {n : Nat} {W : World} {Q : Exit → Act → World → Prop} {L : List Blk} {f : Nat → Value}
theorem fin_cc {fn : Func} {R : Ending → World → Prop} {p q : Tmp} {ty tz : TypeId} (i j : Nat) (x y : Blk) {off oft : Nat} (v v' : Value) (hres : fn.results = #[.cell p ty, .cell q tz]) (hL : L[i]? = some x) (hL' : L[j]? = some y)
    (hp : ev n f (.tmp p) = .pointer (some ⟨x.b, off, none⟩)) (hq : ev n f (.tmp q) = .pointer (some ⟨y.b, oft, none⟩)) (hv : readAt P ty x.cs off = some v) (hv' : readAt P tz y.cs oft = some v') (hR : ∀ w, Own M W w L → R (.returned (.tuple #[v, v'])) w) : Fin M n W (bodyPost P fn R) .ret L f := ⟨fun w hO => by
  refine bodyPost_ret (v := .tuple #[v, v']) ?_ rfl (hR w hO)
  have e : (Fr n f).tmps.getD p undef = .pointer (some ⟨x.b, off, none⟩) := (getD_ofFn n f p).trans hp
  have e' : (Fr n f).tmps[p]?.getD undef = .pointer (some ⟨x.b, off, none⟩) := by simpa using e
  have e2 : (Fr n f).tmps.getD q undef = .pointer (some ⟨y.b, oft, none⟩) := (getD_ofFn n f q).trans hq
  have e2' : (Fr n f).tmps[q]?.getD undef = .pointer (some ⟨y.b, oft, none⟩) := by simpa using e2
  have h1 := run_readAt hv (hO.get hL)
  have h2 := run_readAt hv' (hO.get hL')
  simp [results, hres, e', e2', asAddr, h1, h2]⟩
def JoinQ (M : List Nat) (n : Nat) (W : World) (R : List Blk → (Nat → Value) → Prop) : Exit → Act → World → Prop
  | .normal, a, w => ∃ L f, R L f ∧ Own M W w L ∧ a = Fr n f
  | _, _, _ => False
theorem pq_join {R : List Blk → (Nat → Value) → Prop} : PQ (JoinQ M n W R) := fun c a d v w h => h
theorem ok_join {c : Code} (R : List Blk → (Nat → Value) → Prop) (h1 : Ok M P n W (JoinQ M n W R) c L f) (h2 : ∀ L f, R L f → Fin M n W Q .normal L f) : Ok M P n W Q c L f := ⟨fun w hO =>
  Code.wp_mono (fun e a w h => by
    cases e with
    | normal =>
      obtain ⟨L', f', hR, hO', rfl⟩ := h
      exact (h2 L' f' hR).go w hO'
    | _ => exact absurd h id) (h1.go w hO)⟩
theorem fin_join {R : List Blk → (Nat → Value) → Prop} (h : R L f) : Fin M n W (JoinQ M n W R) .normal L f := ⟨fun w hO => ⟨L, f, h, hO, rfl⟩⟩
end
/-- s[1:] of a slice that came in. -/
theorem Reads.tail {α : Type} {g : α → List Value} {sz : Nat} (hg : ∀ x, (g x).length = sz) {w : World} {B b off c : Nat} {x : α} {l : List α} (h : Reads g w B (some ⟨b, off, none⟩) (x :: l)) (hc : l.length < c) : Reads g w B (some ⟨b, off + (if c = (1 : Int).toNat then 0 else (1 : Int).toNat * sz), none⟩) l := fun h0 => by
  obtain ⟨b', off', e, hlt, hcell⟩ := h (by simp)
  obtain ⟨rfl, rfl⟩ : b = b' ∧ off = off' := by simp at e; exact e
  refine ⟨b, _, rfl, hlt, fun k u hk => ?_⟩
  rw [if_neg (by show ¬ c = 1; omega)]
  have := hcell (sz + k) u (by rw [List.flatMap_cons, List.getElem?_append_right (by rw [hg]; omega), hg]; rw [show sz + k - sz = k from by omega]; exact hk)
  rw [show off + (1 : Int).toNat * sz + k = off + (sz + k) from by show off + 1 * sz + k = _; omega]
  exact this
end Go.Proofs.YtmlecnomdamgnaaGreat
end

section
/-
  Plain mathematics of rows as package row computes them: a span behind a row, the contrary, both, the merging of sorted spans. No condition of their own.
-/
namespace Go.Proofs.YtmlecnomdamgnaaGreat
set_option linter.unusedVariables false
set_option linter.unusedSimpArgs false

def minC (a b : Cu) : Cu := if 0 < cmpC a b then b else a
def maxC (a b : Cu) : Cu := if 0 < cmpC a b then a else b
theorem minC_may {a b : Cu} (ha : a.may = true) (hb : b.may = true) : (minC a b).may = true := by unfold minC; split <;> assumption
theorem maxC_may {a b : Cu} (ha : a.may = true) (hb : b.may = true) : (maxC a b).may = true := by unfold maxC; split <;> assumption
theorem minC_lt {a b x : Cu} (ha : a.may = true) (hb : b.may = true) (hx : x.may = true) : decide (cmpC x (minC a b) < 0) = (decide (cmpC x a < 0) && decide (cmpC x b < 0)) := by
  rw [← Bool.decide_and]
  refine decide_eq_decide.2 ?_
  unfold minC
  split
  · rename_i h
    exact ⟨fun h2 => ⟨clt_trans hx hb ha h2 (by have := cut_anti (a := a) (b := b); omega), h2⟩, fun h2 => h2.2⟩
  · rename_i h
    exact ⟨fun h2 => ⟨h2, clt_le hx ha hb h2 (by omega)⟩, fun h2 => h2.1⟩
theorem maxC_le {a b x : Cu} (ha : a.may = true) (hb : b.may = true) (hx : x.may = true) : decide (cmpC (maxC a b) x ≤ 0) = (decide (cmpC a x ≤ 0) && decide (cmpC b x ≤ 0)) := by
  rw [← Bool.decide_and]
  refine decide_eq_decide.2 ?_
  unfold maxC
  split
  · rename_i h
    exact ⟨fun h2 => ⟨h2, cle_trans hb ha hx (by have := cut_anti (a := a) (b := b); omega) h2⟩, fun h2 => h2.1⟩
  · rename_i h
    exact ⟨fun h2 => ⟨cle_trans ha hb hx (by omega) h2, h2⟩, fun h2 => h2.2⟩
theorem sp_may_of {c d : Cu} (h : cmpC c d < 0) : (Sp.mk c d).may = true := by
  unfold Sp.may
  have := cmpC_range c d
  rw [decide_eq_true_eq]; show cmpC c d = -1; omega
theorem sp_not_of {c d : Cu} (h : (Sp.mk c d).may = false) : ¬ cmpC c d < 0 := fun h2 => by rw [sp_may_of h2] at h; cases h
theorem in_none {c d x : Cu} (hc : c.may = true) (hd : d.may = true) (hx : x.may = true) (h : ¬ cmpC c d < 0) : inSp ⟨c, d⟩ x = false := by
  unfold inSp
  rw [Bool.and_eq_false_iff, decide_eq_false_iff_not, decide_eq_false_iff_not]
  by_cases h1 : cmpC c x ≤ 0
  · exact .inr fun h2 => h (cle_lt hc hx hd h1 h2)
  · exact .inl h1
/-- A row with a stretch behind it, if it is one. -/
def addL (l : List Sp) (c d : Cu) : List Sp := if (Sp.mk c d).may then l ++ [⟨c, d⟩] else l
theorem add_ok {out : List Sp} {c d : Cu} (ho : rowMay out = true) (hl : ∀ t ∈ out.getLast?, cmpC t.hi c < 0) : rowMay (addL out c d) = true := by
  unfold addL
  split
  · exact row_snoc ho (by assumption) hl
  · exact ho
theorem add_den {out : List Sp} {c d x : Cu} (hc : c.may = true) (hd : d.may = true) (hx : x.may = true) : den (addL out c d) x = (den out x || inSp ⟨c, d⟩ x) := by
  unfold addL
  split
  · rw [den_app]; unfold den; simp
  · rename_i h
    rw [in_none hc hd hx (sp_not_of (by simpa using h)), Bool.or_false]
theorem add_last {out : List Sp} {c d : Cu} : ∀ t ∈ (addL out c d).getLast?, t = ⟨c, d⟩ ∨ (t ∈ out.getLast? ∧ ¬ cmpC c d < 0) := by
  unfold addL
  split
  · intro t ht
    rw [List.getLast?_concat] at ht
    exact .inl (Option.some.inj ht).symm
  · rename_i h
    exact fun t ht => .inr ⟨ht, sp_not_of (by simpa using h)⟩
theorem add_len (l : List Sp) (c d : Cu) : (addL l c d).length ≤ l.length + 1 := by unfold addL; split <;> simp
/-! ### The contrary -/
def nstep (p : List Sp × Cu) (s : Sp) : List Sp × Cu := (addL p.1 p.2 s.lo, s.hi)
def notG (l : List Sp) : List Sp := addL (l.foldl nstep ([], endC (-1))).1 (l.foldl nstep ([], endC (-1))).2 (endC 1)
theorem den_cons (s : Sp) (l : List Sp) (x : Cu) : den (s :: l) x = (inSp s x || den l x) := by unfold den; rw [List.any_cons]
theorem den_after {s : Sp} {l : List Sp} {x : Cu} (h : rowMay (s :: l) = true) (hx : x.may = true) (hlt : cmpC x s.hi ≤ 0) : den l x = false :=
  den_before fun t ht => cle_lt hx (span_mays (row_head h)).2 (span_mays (row_mem h t (List.mem_cons_of_mem _ ht))).1 hlt (row_after h t ht)
theorem not_go : ∀ (l out : List Sp) (f : Cu), rowMay l = true → rowMay out = true → f.may = true → (∀ t ∈ out.getLast?, cmpC t.hi f < 0) → (∀ s ∈ l.head?, cmpC f s.lo ≤ 0) →
    rowMay (addL (l.foldl nstep (out, f)).1 (l.foldl nstep (out, f)).2 (endC 1)) = true ∧ ∀ x : Cu, x.may = true → cmpC x (endC 1) < 0 → den (addL (l.foldl nstep (out, f)).1 (l.foldl nstep (out, f)).2 (endC 1)) x = (den out x || (decide (cmpC f x ≤ 0) && !den l x))
  | [], out, f, hl, ho, hf, h1, h2 => ⟨add_ok ho h1, fun x hx he => by
      show den (addL out f (endC 1)) x = _
      rw [add_den hf last_may hx]
      unfold inSp
      rw [decide_eq_true he]
      simp [den]⟩
  | s :: r, out, f, hl, ho, hf, h1, h2 => by
    have hs := row_head hl
    obtain ⟨m1, m2⟩ := span_mays hs
    have hlt := sp_lt hs
    have hfs : cmpC f s.lo ≤ 0 := h2 s rfl
    have ih := not_go r (addL out f s.lo) s.hi (row_tail hl) (add_ok ho h1) m2 (fun t ht => by
      rcases add_last t ht with rfl | ⟨h3, h4⟩
      · exact hlt
      · exact clt_trans (span_mays (row_mem ho t (List.mem_of_getLast? h3))).2 hf m2 (h1 t h3) (cle_lt hf m1 m2 hfs hlt)) (fun t ht => by
        have := row_after hl t (List.mem_of_mem_head? ht); omega)
    refine ⟨ih.1, fun x hx he => ?_⟩
    show den (addL (r.foldl nstep (addL out f s.lo, s.hi)).1 (r.foldl nstep (addL out f s.lo, s.hi)).2 (endC 1)) x = _
    rw [ih.2 x hx he, add_den hf m1 hx, den_cons]
    unfold inSp
    show (den out x || (decide (cmpC f x ≤ 0) && decide (cmpC x s.lo < 0)) || _) = _
    by_cases c1 : cmpC x s.lo < 0
    · have c2 : cmpC x s.hi < 0 := clt_trans hx m1 m2 c1 hlt
      rw [decide_eq_true c1, den_after hl hx (by omega), decide_eq_false (show ¬ cmpC s.hi x ≤ 0 from by have := cut_anti (a := x) (b := s.hi); omega), decide_eq_false (show ¬ cmpC s.lo x ≤ 0 from by have := cut_anti (a := x) (b := s.lo); omega)]
      simp
    · rw [decide_eq_false c1]
      have c3 : cmpC s.lo x ≤ 0 := cle_flip c1
      rw [decide_eq_true c3, decide_eq_true (cle_trans hf m1 hx hfs c3)]
      by_cases c4 : cmpC x s.hi < 0
      · rw [decide_eq_true c4, decide_eq_false (show ¬ cmpC s.hi x ≤ 0 from by have := cut_anti (a := x) (b := s.hi); omega)]
        simp
      · rw [decide_eq_false c4, decide_eq_true (cle_flip c4)]
        simp
theorem notG_eq {l : List Sp} (h : rowMay l = true) : notG l = notL l := by
  have h1 := not_go l [] (endC (-1)) h rfl first_may (fun t ht => by simp at ht) (fun s hs => first_le (span_mays (row_mem h s (List.mem_of_mem_head? hs))).1)
  have h2 := not_ok h
  refine row_ext _ _ h1.1 h2.1 fun c hc he => ?_
  rw [h2.2 c hc he]
  show den (addL _ _ _) c = _
  rw [h1.2 c hc he, decide_eq_true (first_le hc)]
  simp [den]
/-! ### Both -/
def andG : Nat → List Sp → List Sp → List Sp → List Sp
  | n + 1, out, s :: a, u :: b => if s.hi = minC s.hi u.hi then andG n (addL out (maxC s.lo u.lo) (minC s.hi u.hi)) a (u :: b) else andG n (addL out (maxC s.lo u.lo) (minC s.hi u.hi)) (s :: a) b
  | _, out, _, _ => out
theorem min_is {a b : Cu} : a = minC a b ↔ cmpC a b ≤ 0 := by
  unfold minC
  split
  · rename_i h
    exact ⟨fun e => by have := cut_self a; rw [← e] at h; omega, fun h2 => by omega⟩
  · rename_i h
    exact ⟨fun _ => by omega, fun _ => rfl⟩
theorem maxC_ge {a b : Cu} (ha : a.may = true) (hb : b.may = true) : cmpC a (maxC a b) ≤ 0 ∧ cmpC b (maxC a b) ≤ 0 := by
  unfold maxC
  split
  · rename_i h
    exact ⟨by rw [cut_self]; decide, by have := cut_anti (a := a) (b := b); omega⟩
  · rename_i h
    exact ⟨by omega, by rw [cut_self]; decide⟩
theorem maxC_up {a b c d x : Cu} (ha : a.may = true) (hb : b.may = true) (hc : c.may = true) (hd : d.may = true) (hx : x.may = true) (h1 : cmpC a c ≤ 0) (h2 : cmpC b d ≤ 0) (h : cmpC x (maxC a b) < 0) : cmpC x (maxC c d) < 0 := by
  have g := maxC_ge hc hd
  have m := maxC_may hc hd
  unfold maxC at h
  split at h
  · exact clt_le hx ha m h (cle_trans ha hc m h1 g.1)
  · exact clt_le hx hb m h (cle_trans hb hd m h2 g.2)
theorem maxC_one {a b x : Cu} (ha : a.may = true) (hb : b.may = true) (hx : x.may = true) (h : cmpC x a < 0) : cmpC x (maxC a b) < 0 := clt_le hx ha (maxC_may ha hb) h (maxC_ge ha hb).1
theorem maxC_two {a b x : Cu} (ha : a.may = true) (hb : b.may = true) (hx : x.may = true) (h : cmpC x b < 0) : cmpC x (maxC a b) < 0 := clt_le hx hb (maxC_may ha hb) h (maxC_ge ha hb).2
theorem in_both {s u : Sp} {x : Cu} (hs : s.may = true) (hu : u.may = true) (hx : x.may = true) : inSp ⟨maxC s.lo u.lo, minC s.hi u.hi⟩ x = (inSp s x && inSp u x) := by
  unfold inSp
  rw [maxC_le (span_mays hs).1 (span_mays hu).1 hx, minC_lt (span_mays hs).2 (span_mays hu).2 hx]
  cases decide (cmpC s.lo x ≤ 0) <;> cases decide (cmpC u.lo x ≤ 0) <;> cases decide (cmpC x s.hi < 0) <;> cases decide (cmpC x u.hi < 0) <;> rfl
theorem and_go : ∀ (n : Nat) (out a b : List Sp), a.length + b.length ≤ n → rowMay out = true → rowMay a = true → rowMay b = true → (∀ t ∈ out.getLast?, ∀ s ∈ a.head?, ∀ u ∈ b.head?, cmpC t.hi (maxC s.lo u.lo) < 0) →
    rowMay (andG n out a b) = true ∧ ∀ x : Cu, x.may = true → den (andG n out a b) x = (den out x || (den a x && den b x))
  | 0, out, a, b, hn, ho, ha, hb, hl => by
    obtain rfl : a = [] := List.eq_nil_of_length_eq_zero (by omega)
    exact ⟨ho, fun x _ => by simp [andG, den]⟩
  | n + 1, out, [], b, hn, ho, ha, hb, hl => ⟨ho, fun x _ => by simp [andG, den]⟩
  | n + 1, out, s :: a, [], hn, ho, ha, hb, hl => ⟨ho, fun x _ => by simp [andG, den]⟩
  | n + 1, out, s :: a, u :: b, hn, ho, ha, hb, hl => by
    have hs := row_head ha
    have hu := row_head hb
    obtain ⟨s1, s2⟩ := span_mays hs
    obtain ⟨u1, u2⟩ := span_mays hu
    have ho2 := add_ok (d := minC s.hi u.hi) ho (fun t ht => hl t ht s rfl u rfl)
    have mx := maxC_may s1 u1
    have mn := minC_may s2 u2
    have hout : ∀ t ∈ out.getLast?, t.hi.may = true := fun t ht => (span_mays (row_mem ho t (List.mem_of_getLast? ht))).2
    unfold andG
    split
    · rename_i h
      have hle := min_is.1 h
      have ih := and_go n (addL out (maxC s.lo u.lo) (minC s.hi u.hi)) a (u :: b) (by simp at hn ⊢; omega) ho2 (row_tail ha) hb (fun t ht s' hs' u' hu' => by
        obtain rfl : u = u' := Option.some.inj hu'
        have hsa := row_after ha s' (List.mem_of_mem_head? hs')
        have ms' := (span_mays (row_mem ha s' (List.mem_cons_of_mem _ (List.mem_of_mem_head? hs')))).1
        rcases add_last t ht with rfl | ⟨h3, h4⟩
        · show cmpC (minC s.hi u.hi) _ < 0
          rw [← h]
          exact maxC_one ms' u1 s2 hsa
        · exact maxC_up s1 u1 ms' u1 (hout t h3) (by have := clt_trans s1 s2 ms' (sp_lt hs) hsa; omega) (by rw [cut_self]; decide) (hl t h3 s rfl u rfl))
      refine ⟨ih.1, fun x hx => ?_⟩
      rw [ih.2 x hx, add_den mx mn hx, in_both hs hu hx, den_cons s, den_cons u]
      cases hi : inSp s x with
      | false => simp
      | true =>
        have hxs : cmpC x s.hi < 0 := by unfold inSp at hi; simp at hi; exact hi.2
        rw [den_after hb hx (by have := clt_le hx s2 u2 hxs hle; omega), den_after ha hx (by omega)]
        simp
    · rename_i h
      have hgt : ¬ cmpC s.hi u.hi ≤ 0 := fun h2 => h (min_is.2 h2)
      have hlt : cmpC u.hi s.hi < 0 := clt_flip hgt
      have hmin : minC s.hi u.hi = u.hi := by unfold minC; rw [if_pos (by omega)]
      have ih := and_go n (addL out (maxC s.lo u.lo) (minC s.hi u.hi)) (s :: a) b (by simp at hn ⊢; omega) ho2 ha (row_tail hb) (fun t ht s' hs' u' hu' => by
        obtain rfl : s = s' := Option.some.inj hs'
        have hub := row_after hb u' (List.mem_of_mem_head? hu')
        have mu' := (span_mays (row_mem hb u' (List.mem_cons_of_mem _ (List.mem_of_mem_head? hu')))).1
        rcases add_last t ht with rfl | ⟨h3, h4⟩
        · show cmpC (minC s.hi u.hi) _ < 0
          rw [hmin]
          exact maxC_two s1 mu' u2 hub
        · exact maxC_up s1 u1 s1 mu' (hout t h3) (by rw [cut_self]; decide) (by have := clt_trans u1 u2 mu' (sp_lt hu) hub; omega) (hl t h3 s rfl u rfl))
      refine ⟨ih.1, fun x hx => ?_⟩
      rw [ih.2 x hx, add_den mx mn hx, in_both hs hu hx, den_cons s, den_cons u]
      cases hi : inSp u x with
      | false => simp
      | true =>
        have hxu : cmpC x u.hi < 0 := by unfold inSp at hi; simp at hi; exact hi.2
        rw [den_after ha hx (by have := clt_trans hx u2 s2 hxu hlt; omega), den_after hb hx (by omega)]
        cases inSp s x <;> simp
theorem andG_eq {a b : List Sp} (ha : rowMay a = true) (hb : rowMay b = true) : andG (a.length + b.length) [] a b = andL a b := by
  have h1 := and_go (a.length + b.length) [] a b (Nat.le_refl _) rfl ha hb (fun t ht => by simp at ht)
  have h2 := and_ok ha hb
  refine row_ext _ _ h1.1 h2.1 fun c hc he => ?_
  rw [h2.2 c hc he, h1.2 c hc]
  simp [den]
/-! ### Sorted spans merged -/
def mstep (out : List Sp) (s : Sp) : List Sp :=
  match out.getLast? with
  | none => [s]
  | some t => if cmpC t.hi s.lo < 0 then out ++ [s] else out.dropLast ++ [⟨t.lo, maxC t.hi s.hi⟩]
theorem in_merge {s t : Sp} {x : Cu} (hs : s.may = true) (ht : t.may = true) (hx : x.may = true) (h1 : cmpC t.lo s.lo ≤ 0) (h2 : cmpC s.lo t.hi ≤ 0) : inSp ⟨t.lo, maxC t.hi s.hi⟩ x = (inSp t x || inSp s x) := by
  obtain ⟨s1, s2⟩ := span_mays hs
  obtain ⟨t1, t2⟩ := span_mays ht
  unfold inSp
  show (decide (cmpC t.lo x ≤ 0) && decide (cmpC x (maxC t.hi s.hi) < 0)) = _
  by_cases c1 : cmpC t.lo x ≤ 0
  · rw [decide_eq_true c1]
    unfold maxC
    split
    · rename_i h
      by_cases c2 : cmpC x s.hi < 0
      · rw [decide_eq_true (show cmpC x t.hi < 0 from clt_trans hx s2 t2 c2 (by have := cut_anti (a := t.hi) (b := s.hi); omega))]; simp
      · rw [decide_eq_false c2]; simp
    · rename_i h
      by_cases c2 : cmpC x t.hi < 0
      · rw [decide_eq_true c2, decide_eq_true (show cmpC x s.hi < 0 from clt_le hx t2 s2 c2 (by omega))]; simp
      · rw [decide_eq_false c2, decide_eq_true (show cmpC s.lo x ≤ 0 from cle_trans s1 t2 hx h2 (cle_flip c2))]; simp
  · rw [decide_eq_false c1, decide_eq_false (show ¬ cmpC s.lo x ≤ 0 from fun h => c1 (cle_trans t1 s1 hx h1 h))]; simp
theorem mstep_ok {out : List Sp} {s : Sp} (ho : rowMay out = true) (hs : s.may = true) (hl : ∀ t ∈ out.getLast?, cmpC t.lo s.lo ≤ 0) :
    rowMay (mstep out s) = true ∧ (∀ t ∈ (mstep out s).getLast?, t.lo = s.lo ∨ ∃ t' ∈ out.getLast?, t.lo = t'.lo) ∧ ∀ x : Cu, x.may = true → den (mstep out s) x = (den out x || inSp s x) := by
  unfold mstep
  cases hg : out.getLast? with
  | none =>
    have : out = [] := by simpa using hg
    subst this
    refine ⟨row_snoc (l := []) rfl hs (fun t ht => by simp at ht), fun t ht => ?_, fun x _ => by simp [den]⟩
    obtain rfl : s = t := by simpa using ht
    exact .inl rfl
  | some t =>
    have hlo := hl t hg
    have hsp := last_split hg
    have htm := row_mem ho t (List.mem_of_getLast? hg)
    obtain ⟨s1, s2⟩ := span_mays hs
    obtain ⟨t1, t2⟩ := span_mays htm
    dsimp only
    split
    · rename_i h
      refine ⟨row_snoc ho hs (fun t' ht' => by rw [hg] at ht'; obtain rfl := Option.some.inj ht'; exact h), fun t' ht' => ?_, fun x _ => by rw [den_app]; simp [den]⟩
      rw [List.getLast?_concat] at ht'
      obtain rfl := Option.some.inj ht'
      exact .inl rfl
    · rename_i h
      have hi := row_init (hsp ▸ ho)
      have hmay : (Sp.mk t.lo (maxC t.hi s.hi)).may = true := sp_may_of (clt_le t1 t2 (maxC_may t2 s2) (sp_lt htm) (maxC_ge t2 s2).1)
      refine ⟨row_snoc hi.1 hmay (fun x hx => hi.2 x hx), fun t' ht' => ?_, fun x hx => ?_⟩
      · rw [List.getLast?_concat] at ht'
        obtain rfl := Option.some.inj ht'
        exact .inr ⟨t, rfl, rfl⟩
      · rw [den_app]
        conv => rhs; rw [hsp, den_app]
        have e := in_merge hs htm hx hlo (cle_flip h)
        simp only [den, List.any_cons, List.any_nil, Bool.or_false] at e ⊢
        rw [e, Bool.or_assoc]
def SortedC : List Sp → Prop
  | [] => True
  | s :: r => (∀ t ∈ r, cmpC s.lo t.lo ≤ 0) ∧ SortedC r
theorem merge_go : ∀ (l out : List Sp), (∀ s ∈ l, s.may = true) → SortedC l → rowMay out = true → (∀ t ∈ out.getLast?, ∀ s ∈ l, cmpC t.lo s.lo ≤ 0) →
    rowMay (l.foldl mstep out) = true ∧ ∀ x : Cu, x.may = true → den (l.foldl mstep out) x = (den out x || den l x)
  | [], out, _, _, ho, _ => ⟨ho, fun x _ => by simp [den]⟩
  | s :: r, out, hm, hso, ho, hl => by
    have h1 := mstep_ok ho (hm s (List.mem_cons_self ..)) (fun t ht => hl t ht s (List.mem_cons_self ..))
    have ih := merge_go r (mstep out s) (fun t ht => hm t (List.mem_cons_of_mem _ ht)) hso.2 h1.1 (fun t ht u hu => by
      rcases h1.2.1 t ht with e | ⟨t', ht', e⟩
      · rw [e]; exact hso.1 u hu
      · rw [e]; exact hl t' ht' u (List.mem_cons_of_mem _ hu))
    refine ⟨ih.1, fun x hx => ?_⟩
    show den (r.foldl mstep (mstep out s)) x = _
    rw [ih.2 x hx, h1.2.2 x hx, den_cons, Bool.or_assoc]
theorem merge_eq {l d : List Sp} (hm : ∀ s ∈ l, s.may = true) (hp : d.Perm l) (hs : SortedC d) : d.foldl mstep [] = makeL l := by
  have hmd : ∀ s ∈ d, s.may = true := fun s h => hm s (hp.mem_iff.1 h)
  have h1 := merge_go d [] hmd hs rfl (fun t ht => by simp at ht)
  have h2 := make_ok hm
  refine row_ext _ _ h1.1 h2.1 fun c hc he => ?_
  rw [h2.2 c hc he, h1.2 c hc]
  show (false || den d c) = den l c
  rw [Bool.false_or]
  unfold den
  exact hp.any_eq
theorem mstep_len (out : List Sp) (s : Sp) : (mstep out s).length ≤ out.length + 1 := by
  unfold mstep
  split
  · simp
  · split
    · simp
    · first | (simp; done) | (simp; omega)
end Go.Proofs.YtmlecnomdamgnaaGreat
end

section
/-
  Package row's small functions: order, the test of Has; slices.IndexFunc, ContainsFunc with it.
-/
namespace Go.Proofs.YtmlecnomdamgnaaGreat
open Go.RowKit
set_option maxRecDepth 100000
set_option linter.unusedVariables false
set_option linter.unusedSimpArgs false
set_option maxHeartbeats 2000000


theorem minC_short {a b : Cu} (ha : a.short) (hb : b.short) : (minC a b).short := by unfold minC; split <;> assumption
theorem maxC_short {a b : Cu} (ha : a.short) (hb : b.short) : (maxC a b).short := by unfold maxC; split <;> assumption

theorem order_any (a b : Cu) (W : World) (ha : a.short) (hb : b.short) :
    Calls Tryz.prog 33 #[cutV a, cutV b] W fun e w' => e = .returned (.tuple #[cutV (minC a b), cutV (maxC a b)]) ∧ Below W.heap.size W w' := by
  refine calls_ok (n := 14) Tryz.func33 rfl (by kernel_rfl) (by kernel_rfl) ?_
  refine ok_seq ?_
  refine ok_region ?_
  refine s_box (cutV a) (by kernel_rfl) rfl (by kernel_rfl) (fun b1 => ?_)
  refine s_box (cutV b) (by kernel_rfl) rfl (by kernel_rfl) (fun b2 => ?_)
  refine s_alloc_at (.agg #[.int .i64 0, .int .i64 0, .int .i64 0, .int .i64 0, .string ⟨#[]⟩, .string ⟨#[]⟩, .bool false]) (by kernel_rfl) rfl (by kernel_rfl) (fun b3 => ?_)
  refine s_alloc_at (.agg #[.int .i64 0, .int .i64 0, .int .i64 0, .int .i64 0, .string ⟨#[]⟩, .string ⟨#[]⟩, .bool false]) (by kernel_rfl) rfl (by kernel_rfl) (fun b4 => ?_)
  refine s_nil ?_
  refine fin_seq ?_
  refine ok_seq ?_
  refine ok_seq ?_
  refine ok_region ?_
  refine s_load 3 ⟨b1, (cutV a).cells, 41⟩ (off := 0) (cutV a) (by kernel_rfl) rfl (by kernel_rfl) (by kernel_rfl) (by kernel_rfl) ?_
  refine s_load 2 ⟨b2, (cutV b).cells, 41⟩ (off := 0) (cutV b) (by kernel_rfl) rfl (by kernel_rfl) (by kernel_rfl) (by kernel_rfl) ?_
  refine s_call (k := 42) (args := #[cutV a, cutV b]) (.int .i64 (cmpC a b)) (by kernel_rfl) (fun _ => by kernel_rfl) (fun w _ => cmpC_any a b w ha hb) ?_
  by_cases h1 : (0 : Int) < cmpC a b
  · skip
    refine s_dec (p := (0 : Int) < cmpC a b) true (by kernel_rfl) (fun _ => by kernel_rfl) (decide_eq_true (h1)) ?_
    refine s_nil ?_
    refine fin_seq ?_
    refine ok_true (by kernel_rfl) ?_
    refine ok_seq ?_
    refine ok_anyhL [⟨b2, (cutV b).cells, 41⟩, ⟨b1, (cutV a).cells, 41⟩] (by kernel_rfl) (fun w hO => Own.sub [⟨b4, #[.int .i64 0, .int .i64 0, .int .i64 0, .int .i64 0, .string ⟨#[]⟩, .string ⟨#[]⟩, .bool false], 41⟩, ⟨b3, #[.int .i64 0, .int .i64 0, .int .i64 0, .int .i64 0, .string ⟨#[]⟩, .string ⟨#[]⟩, .bool false], 41⟩] hO) ?_
    refine h_load 0 [⟨b4, #[.int .i64 0, .int .i64 0, .int .i64 0, .int .i64 0, .string ⟨#[]⟩, .string ⟨#[]⟩, .bool false], 41⟩, ⟨b3, #[.int .i64 0, .int .i64 0, .int .i64 0, .int .i64 0, .string ⟨#[]⟩, .string ⟨#[]⟩, .bool false], 41⟩] _ 0 ⟨b2, (cutV b).cells, 41⟩ (off := 0) (cutV b) rfl (by kernel_rfl) (by kernel_rfl) (by kernel_rfl) (pq_seq (pq_seq pq_body)) (by kernel_rfl) rfl (by kernel_rfl) (by kernel_rfl) (by kernel_rfl) ?_
    refine h_load 1 [⟨b4, #[.int .i64 0, .int .i64 0, .int .i64 0, .int .i64 0, .string ⟨#[]⟩, .string ⟨#[]⟩, .bool false], 41⟩, ⟨b3, #[.int .i64 0, .int .i64 0, .int .i64 0, .int .i64 0, .string ⟨#[]⟩, .string ⟨#[]⟩, .bool false], 41⟩] _ 1 ⟨b1, (cutV a).cells, 41⟩ (off := 0) (cutV a) rfl (by kernel_rfl) (by kernel_rfl) (by kernel_rfl) (pq_seq (pq_seq pq_body)) (by kernel_rfl) rfl (by kernel_rfl) (by kernel_rfl) (by kernel_rfl) ?_
    refine h_one 2 (by kernel_rfl) ?_
    refine hs_store [⟨b4, #[.int .i64 0, .int .i64 0, .int .i64 0, .int .i64 0, .string ⟨#[]⟩, .string ⟨#[]⟩, .bool false], 41⟩, ⟨b3, #[.int .i64 0, .int .i64 0, .int .i64 0, .int .i64 0, .string ⟨#[]⟩, .string ⟨#[]⟩, .bool false], 41⟩] _ 1 ⟨b3, #[.int .i64 0, .int .i64 0, .int .i64 0, .int .i64 0, .string ⟨#[]⟩, .string ⟨#[]⟩, .bool false], 41⟩ (off := 0) (cutV b) rfl (by kernel_rfl) rfl rfl (by kernel_rfl) (by kernel_rfl) (by kernel_rfl) (by kernel_rfl) (by kernel_rfl) ?_
    refine h_one 3 (by kernel_rfl) ?_
    refine hs_store [⟨b4, #[.int .i64 0, .int .i64 0, .int .i64 0, .int .i64 0, .string ⟨#[]⟩, .string ⟨#[]⟩, .bool false], 41⟩, ⟨b3, (cutV b).cells, 41⟩] _ 0 ⟨b4, #[.int .i64 0, .int .i64 0, .int .i64 0, .int .i64 0, .string ⟨#[]⟩, .string ⟨#[]⟩, .bool false], 41⟩ (off := 0) (cutV a) rfl (by kernel_rfl) rfl rfl (by kernel_rfl) (by kernel_rfl) (by kernel_rfl) (by kernel_rfl) (by kernel_rfl) ?_
    refine h_done (by kernel_rfl) ?_
    refine fin_seq ?_
    refine ok_ret ?_
    refine fin_seq_ret ?_
    refine fin_cc 1 0 ⟨b3, (cutV b).cells, 41⟩ ⟨b4, (cutV a).cells, 41⟩ (off := 0) (oft := 0) (cutV b) (cutV a) Tryz.results33 (by kernel_rfl) (by kernel_rfl) (by kernel_rfl) (by kernel_rfl) (by kernel_rfl) (by kernel_rfl) ?_
    exact fun w hO => ⟨by unfold minC maxC; simp only [h1, if_true, if_false], hO.below⟩
  · skip
    refine s_dec (p := (0 : Int) < cmpC a b) false (by kernel_rfl) (fun _ => by kernel_rfl) (decide_eq_false (h1)) ?_
    refine s_nil ?_
    refine fin_seq ?_
    refine ok_false (by kernel_rfl) ?_
    refine ok_skip ?_
    refine fin_seq ?_
    refine ok_seq ?_
    refine ok_anyhL [⟨b2, (cutV b).cells, 41⟩, ⟨b1, (cutV a).cells, 41⟩] (by kernel_rfl) (fun w hO => Own.sub [⟨b4, #[.int .i64 0, .int .i64 0, .int .i64 0, .int .i64 0, .string ⟨#[]⟩, .string ⟨#[]⟩, .bool false], 41⟩, ⟨b3, #[.int .i64 0, .int .i64 0, .int .i64 0, .int .i64 0, .string ⟨#[]⟩, .string ⟨#[]⟩, .bool false], 41⟩] hO) ?_
    refine h_load 0 [⟨b4, #[.int .i64 0, .int .i64 0, .int .i64 0, .int .i64 0, .string ⟨#[]⟩, .string ⟨#[]⟩, .bool false], 41⟩, ⟨b3, #[.int .i64 0, .int .i64 0, .int .i64 0, .int .i64 0, .string ⟨#[]⟩, .string ⟨#[]⟩, .bool false], 41⟩] _ 1 ⟨b1, (cutV a).cells, 41⟩ (off := 0) (cutV a) rfl (by kernel_rfl) (by kernel_rfl) (by kernel_rfl) (pq_seq pq_body) (by kernel_rfl) rfl (by kernel_rfl) (by kernel_rfl) (by kernel_rfl) ?_
    refine h_load 1 [⟨b4, #[.int .i64 0, .int .i64 0, .int .i64 0, .int .i64 0, .string ⟨#[]⟩, .string ⟨#[]⟩, .bool false], 41⟩, ⟨b3, #[.int .i64 0, .int .i64 0, .int .i64 0, .int .i64 0, .string ⟨#[]⟩, .string ⟨#[]⟩, .bool false], 41⟩] _ 0 ⟨b2, (cutV b).cells, 41⟩ (off := 0) (cutV b) rfl (by kernel_rfl) (by kernel_rfl) (by kernel_rfl) (pq_seq pq_body) (by kernel_rfl) rfl (by kernel_rfl) (by kernel_rfl) (by kernel_rfl) ?_
    refine h_one 2 (by kernel_rfl) ?_
    refine hs_store [⟨b4, #[.int .i64 0, .int .i64 0, .int .i64 0, .int .i64 0, .string ⟨#[]⟩, .string ⟨#[]⟩, .bool false], 41⟩, ⟨b3, #[.int .i64 0, .int .i64 0, .int .i64 0, .int .i64 0, .string ⟨#[]⟩, .string ⟨#[]⟩, .bool false], 41⟩] _ 1 ⟨b3, #[.int .i64 0, .int .i64 0, .int .i64 0, .int .i64 0, .string ⟨#[]⟩, .string ⟨#[]⟩, .bool false], 41⟩ (off := 0) (cutV a) rfl (by kernel_rfl) rfl rfl (by kernel_rfl) (by kernel_rfl) (by kernel_rfl) (by kernel_rfl) (by kernel_rfl) ?_
    refine h_one 3 (by kernel_rfl) ?_
    refine hs_store [⟨b4, #[.int .i64 0, .int .i64 0, .int .i64 0, .int .i64 0, .string ⟨#[]⟩, .string ⟨#[]⟩, .bool false], 41⟩, ⟨b3, (cutV a).cells, 41⟩] _ 0 ⟨b4, #[.int .i64 0, .int .i64 0, .int .i64 0, .int .i64 0, .string ⟨#[]⟩, .string ⟨#[]⟩, .bool false], 41⟩ (off := 0) (cutV b) rfl (by kernel_rfl) rfl rfl (by kernel_rfl) (by kernel_rfl) (by kernel_rfl) (by kernel_rfl) (by kernel_rfl) ?_
    refine h_done (by kernel_rfl) ?_
    refine fin_seq ?_
    refine ok_ret ?_
    refine fin_cc 1 0 ⟨b3, (cutV a).cells, 41⟩ ⟨b4, (cutV b).cells, 41⟩ (off := 0) (oft := 0) (cutV a) (cutV b) Tryz.results33 (by kernel_rfl) (by kernel_rfl) (by kernel_rfl) (by kernel_rfl) (by kernel_rfl) (by kernel_rfl) ?_
    exact fun w hO => ⟨by unfold minC maxC; simp only [h1, if_true, if_false], hO.below⟩
theorem has1_any (s : Sp) (v : Ver) (c : Nat) (W : World) (hc : c < W.heap.size) (hcell : ∀ j u, (verV v).cells.toList[j]? = some u → W.cell? ⟨c, 0 + j, none⟩ = some u) (hs : s.short) (hv : v.short) :
    Calls Tryz.prog 38 #[spanV s, .pointer (some ⟨c, 0, none⟩)] W fun e w' => e = .returned (.bool (holdsC s v)) ∧ Below W.heap.size W w' := by
  refine calls_ok (n := 7) Tryz.func38 rfl (by kernel_rfl) (by kernel_rfl) ?_
  refine ok_seq ?_
  refine ok_region ?_
  refine s_box (spanV s) (by kernel_rfl) rfl (by kernel_rfl) (fun b1 => ?_)
  refine s_val (.bool false) (by kernel_rfl) (fun _ => by kernel_rfl) ?_
  refine s_nil ?_
  refine fin_seq ?_
  refine ok_seq ?_
  refine ok_region ?_
  refine s_load 0 ⟨b1, (spanV s).cells, 43⟩ (off := 0) (spanV s) (by kernel_rfl) rfl (by kernel_rfl) (by kernel_rfl) (by kernel_rfl) ?_
  refine s_old (verV v) (a := ⟨c, 0, none⟩) (by kernel_rfl) rfl (by kernel_rfl) (fun w hO => old_load (verV v).cells.toList (verV v) (fun j u h => (hO.below.cell (p := ⟨c, 0 + j, none⟩) hc).trans (hcell j u h)) (by kernel_rfl)) ?_
  refine s_call (k := 39) (args := #[spanV s, verV v]) (.bool (holdsC s v)) (by kernel_rfl) (fun _ => by kernel_rfl) (fun w _ => holdsC_any s v w hs hv) ?_
  refine s_val (.bool (holdsC s v)) (by kernel_rfl) (fun _ => by kernel_rfl) ?_
  refine s_nil ?_
  refine fin_seq ?_
  refine ok_ret ?_
  refine fin_ret (.bool (holdsC s v)) Tryz.results38 (by kernel_rfl) ?_
  exact fun w hO => ⟨rfl, hO.below⟩
/-- The place of the first span that holds v, or -1. -/
def idxP (v : Ver) : List Sp → Int → Int
  | [], _ => -1
  | s :: r, k => if holdsC s v then k else idxP v r (k + 1)
theorem idxP_any (v : Ver) : ∀ (l : List Sp) (k : Int), 0 ≤ k → decide (0 ≤ idxP v l k) = l.any (holdsC · v)
  | [], k, _ => rfl
  | s :: r, k, hk => by
    unfold idxP
    rw [List.any_cons]
    cases h : holdsC s v with
    | true => rw [if_pos rfl, Bool.true_or]; exact decide_eq_true hk
    | false => rw [if_neg (by decide), Bool.false_or]; exact idxP_any v r (k + 1) (by omega)
theorem idxf_any (A : Option Addr) (cap c : Nat) (l : List Sp) (v : Ver) (W : World) (hv : Reads spanC W W.heap.size A l) (hn : l.length ≤ 1000000) (hl : ShortL l) (hc : c < W.heap.size) (hcell : ∀ j u, (verV v).cells.toList[j]? = some u → W.cell? ⟨c, 0 + j, none⟩ = some u) (hv2 : v.short) :
    Calls Tryz.prog 57 #[.slice A l.length cap, .func (.func 38) #[] #[.pointer (some ⟨c, 0, none⟩)]] W fun e w' => e = .returned (.int .i64 (idxP v l 0)) ∧ Below W.heap.size W w' := by
  refine calls_ok (n := 19) Tryz.func57 rfl (by kernel_rfl) (by kernel_rfl) ?_
  refine ok_seq ?_
  refine ok_region ?_
  refine s_val (.int .i64 0) (by kernel_rfl) (fun _ => by kernel_rfl) ?_
  refine s_nil ?_
  refine fin_seq ?_
  refine ok_seq ?_
  refine ok_seq ?_
  refine ok_region ?_
  refine s_val (.slice A l.length cap) (by kernel_rfl) (fun _ => by kernel_rfl) ?_
  refine s_val (.int .i64 (l.length : Int)) (by kernel_rfl) (fun _ => by kernel_rfl) ?_
  refine s_val (.int .i64 0) (by kernel_rfl) (fun _ => by kernel_rfl) ?_
  refine s_nil ?_
  refine fin_seq ?_
  refine ok_block ?_
  refine ok_loop (fun L f m => ∃ (k : Nat) (j : Nat → Value), (k ≤ l.length ∧ idxP v l 0 = idxP v (l.drop k) (k : Int)) ∧ L = [] ∧ f = upds j [(0, .slice A l.length cap), (1, .func (.func 38) #[] #[.pointer (some ⟨c, 0, none⟩)]), (7, .int .i64 (l.length : Int)), (8, .int .i64 (k : Int))] ∧ m = l.length - k) (l.length - 0) ⟨0, _, ⟨Nat.zero_le _, by rw [List.drop_zero]; rfl⟩, rfl, upds_self _ ⟨by kernel_rfl, by kernel_rfl, by kernel_rfl, by kernel_rfl, trivial⟩, rfl⟩ ?_
  rintro L f m ⟨k, j, hrel, rfl, rfl, rfl⟩
  have hkl := hrel.1
  refine ok_seq ?_
  refine ok_region ?_
  by_cases h1 : (k : Int) < (l.length : Int)
  · skip
    have hk : k < l.length := by omega
    obtain ⟨b, off, hA, hlt, hcel⟩ := hv (by omega)
    obtain ⟨s, hs⟩ : ∃ s, l[k] = s := ⟨_, rfl⟩
    have hsk : s.short := hs ▸ hl l[k] (List.getElem_mem hk)
    refine s_dec (p := (k : Int) < (l.length : Int)) true (by kernel_rfl) (fun _ => by kernel_rfl) (decide_eq_true (h1)) ?_
    refine s_nil ?_
    refine fin_seq ?_
    refine ok_seq ?_
    refine ok_true (by kernel_rfl) ?_
    refine ok_skip ?_
    refine fin_seq ?_
    refine ok_seq ?_
    refine ok_block ?_
    refine ok_seq ?_
    refine ok_region ?_
    refine s_val (.int .i64 (k : Int)) (by kernel_rfl) (fun _ => by kernel_rfl) ?_
    refine s_val (.int .i64 (k : Int)) (by kernel_rfl) (fun _ => by kernel_rfl) ?_
    refine s_nil ?_
    refine fin_seq ?_
    refine ok_seq ?_
    refine ok_region ?_
    refine s_val (.func (.func 38) #[] #[.pointer (some ⟨c, 0, none⟩)]) (by kernel_rfl) (fun _ => by kernel_rfl) ?_
    refine s_val (.slice A l.length cap) (by kernel_rfl) (fun _ => by kernel_rfl) ?_
    refine s_val (.int .i64 (k : Int)) (by kernel_rfl) (fun _ => by kernel_rfl) ?_
    refine s_val (.pointer (some ⟨b, off + k * 14, none⟩)) (by kernel_rfl) (run_ixA (b := b) (off := off) (c := cap) (n := l.length) (k := .i64) (j := (k : Int)) (e := 43) (sz := 14) rfl (by kernel_rfl) hA (by kernel_rfl) (by kernel_rfl) (by kernel_rfl) (by omega) (by omega) (by omega)) ?_
    refine s_old (spanV s) (a := ⟨b, off + k * 14, none⟩) (by kernel_rfl) rfl (by kernel_rfl) (fun w hO => elem_load spanC_len (fun j u h => (hO.below.cell (p := ⟨b, off + j, none⟩) hlt).trans (hcel j u h)) k 0 hk (by omega) _ (by rw [hs]; kernel_rfl)) ?_
    refine s_call (k := 38) (args := #[spanV s, .pointer (some ⟨c, 0, none⟩)]) (.bool (holdsC s v)) (by kernel_rfl) (fun _ => by kernel_rfl) (fun w hO => has1_any s v c w (Nat.lt_of_lt_of_le hc hO.size) (fun j u h => (hO.below.cell (p := ⟨c, 0 + j, none⟩) hc).trans (hcell j u h)) hsk hv2) ?_
    refine s_nil ?_
    refine fin_seq ?_
    cases h2 : holdsC s v with
    | true =>
      refine ok_true (by kernel_rfl) ?_
      refine ok_seq ?_
      refine ok_region ?_
      refine s_val (.int .i64 (k : Int)) (by kernel_rfl) (fun _ => by kernel_rfl) ?_
      refine s_val (.int .i64 (k : Int)) (by kernel_rfl) (fun _ => by kernel_rfl) ?_
      refine s_nil ?_
      refine fin_seq ?_
      refine ok_ret ?_
      refine fin_block_ret ?_
      refine fin_seq_ret ?_
      refine fin_round_ret ?_
      refine fin_block_ret ?_
      refine fin_seq_ret ?_
      refine fin_ret (.int .i64 (k : Int)) Tryz.results57 (by kernel_rfl) ?_
      exact fun w hO => ⟨by rw [hrel.2, List.drop_eq_getElem_cons hk, hs]; simp only [idxP, h2]; rfl, hO.below⟩
    | false =>
      refine ok_false (by kernel_rfl) ?_
      refine ok_skip ?_
      refine fin_block ?_
      refine fin_seq ?_
      refine ok_region ?_
      refine s_sum (k := .i64) (((k + 1 : Nat) : Int)) (by kernel_rfl) (fun _ => by kernel_rfl) (IntWalk.i64_in _ (by omega)) ?_
      refine s_val (.int .i64 ((k + 1 : Nat) : Int)) (by kernel_rfl) (fun _ => by kernel_rfl) ?_
      refine s_nil ?_
      have hnext : idxP v l 0 = idxP v (l.drop (k + 1)) ((k + 1 : Nat) : Int) := by rw [hrel.2, List.drop_eq_getElem_cons hk, hs]; simp only [idxP, h2]; rfl
      exact fin_round (m' := l.length - (k + 1)) (by omega) ⟨k + 1, _, ⟨by omega, hnext⟩, rfl, upds_self _ ⟨by kernel_rfl, by kernel_rfl, by kernel_rfl, by kernel_rfl, trivial⟩, rfl⟩
  · skip
    refine s_dec (p := (k : Int) < (l.length : Int)) false (by kernel_rfl) (fun _ => by kernel_rfl) (decide_eq_false (h1)) ?_
    refine s_nil ?_
    refine fin_seq ?_
    refine ok_seq ?_
    refine ok_false (by kernel_rfl) ?_
    refine ok_exit ?_
    refine fin_seq_exit ?_
    refine fin_round_exit ?_
    refine fin_block_exit ?_
    refine fin_seq ?_
    refine ok_seq ?_
    refine ok_region ?_
    refine s_val (.int .i64 (-1)) (by kernel_rfl) (fun _ => by kernel_rfl) ?_
    refine s_nil ?_
    refine fin_seq ?_
    refine ok_ret ?_
    refine fin_ret (.int .i64 (-1)) Tryz.results57 (by kernel_rfl) ?_
    exact fun w hO => ⟨by rw [hrel.2, List.drop_of_length_le (by omega)]; rfl, hO.below⟩
theorem containsf_any (A : Option Addr) (cap c : Nat) (l : List Sp) (v : Ver) (W : World) (hv : Reads spanC W W.heap.size A l) (hn : l.length ≤ 1000000) (hl : ShortL l) (hc : c < W.heap.size) (hcell : ∀ j u, (verV v).cells.toList[j]? = some u → W.cell? ⟨c, 0 + j, none⟩ = some u) (hv2 : v.short) :
    Calls Tryz.prog 40 #[.slice A l.length cap, .func (.func 38) #[] #[.pointer (some ⟨c, 0, none⟩)]] W fun e w' => e = .returned (.bool (l.any (holdsC · v))) ∧ Below W.heap.size W w' := by
  rw [← idxP_any v l 0 (by omega)]
  refine calls_ok (n := 9) Tryz.func40 rfl (by kernel_rfl) (by kernel_rfl) ?_
  refine ok_seq ?_
  refine ok_region ?_
  refine s_val (.bool false) (by kernel_rfl) (fun _ => by kernel_rfl) ?_
  refine s_nil ?_
  refine fin_seq ?_
  refine ok_seq ?_
  refine ok_region ?_
  refine s_val (.slice A l.length cap) (by kernel_rfl) (fun _ => by kernel_rfl) ?_
  refine s_val (.func (.func 38) #[] #[.pointer (some ⟨c, 0, none⟩)]) (by kernel_rfl) (fun _ => by kernel_rfl) ?_
  refine s_call (k := 57) (args := #[.slice A l.length cap, .func (.func 38) #[] #[.pointer (some ⟨c, 0, none⟩)]]) (.int .i64 (idxP v l 0)) (by kernel_rfl) (fun _ => by kernel_rfl) (fun w hO => idxf_any A cap c l v w (hv.on hO.below hO.size) hn hl (Nat.lt_of_lt_of_le hc hO.size) (fun j u h => (hO.below.cell (p := ⟨c, 0 + j, none⟩) hc).trans (hcell j u h)) hv2) ?_
  by_cases h1 : (0 : Int) ≤ idxP v l 0
  · skip
    refine s_dec (p := (0 : Int) ≤ idxP v l 0) true (by kernel_rfl) (fun _ => by kernel_rfl) (decide_eq_true (h1)) ?_
    refine s_val (.bool true) (by kernel_rfl) (fun _ => by kernel_rfl) ?_
    refine s_nil ?_
    refine fin_seq ?_
    refine ok_ret ?_
    refine fin_ret (.bool true) Tryz.results40 (by kernel_rfl) ?_
    exact fun w hO => ⟨by simp only [decide_eq_true h1], hO.below⟩
  · skip
    refine s_dec (p := (0 : Int) ≤ idxP v l 0) false (by kernel_rfl) (fun _ => by kernel_rfl) (decide_eq_false (h1)) ?_
    refine s_val (.bool false) (by kernel_rfl) (fun _ => by kernel_rfl) ?_
    refine s_nil ?_
    refine fin_seq ?_
    refine ok_ret ?_
    refine fin_ret (.bool false) Tryz.results40 (by kernel_rfl) ?_
    exact fun w hO => ⟨by simp only [decide_eq_false h1], hO.below⟩
end Go.Proofs.YtmlecnomdamgnaaGreat
end

section
/-
  Package row's May, Has.
-/
namespace Go.Proofs.YtmlecnomdamgnaaGreat
open Go.RowKit
set_option maxRecDepth 100000
set_option linter.unusedVariables false
set_option linter.unusedSimpArgs false
set_option maxHeartbeats 2000000


theorem may_drop : ∀ (a b : List Sp), rowMay (a ++ b) = true → rowMay b = true
  | [], _, h => h
  | _ :: a, b, h => may_drop a b (row_tail h)
theorem may_take_bad {l : List Sp} {k : Nat} (hk : k < l.length) (h : l[k].may = false) : rowMay l = false := by
  cases h2 : rowMay l with
  | false => rfl
  | true => rw [row_mem h2 _ (List.getElem_mem hk)] at h; cases h
theorem may_step {l : List Sp} {k : Nat} (hk : k < l.length) (h : rowMay (l.take k) = true) (hs : l[k].may = true) (hp : 0 < k → cmpC (l[k - 1]'(by omega)).hi l[k].lo < 0) : rowMay (l.take (k + 1)) = true := by
  rw [List.take_succ_eq_append_getElem hk]
  refine row_snoc h hs (fun s hs2 => ?_)
  by_cases h0 : k = 0
  · subst h0; simp at hs2
  · have e : s = l[k - 1]'(by omega) := by
      rw [List.getLast?_eq_getElem?, List.length_take, Nat.min_eq_left (by omega), List.getElem?_take, if_pos (by omega), List.getElem?_eq_getElem (by omega)] at hs2
      exact (Option.some.inj hs2).symm
    rw [e]; exact hp (by omega)
theorem may_not {l : List Sp} {k : Nat} (hk : k < l.length) (h0 : 0 < k) (h : ¬ cmpC (l[k - 1]'(by omega)).hi l[k].lo < 0) : rowMay l = false := by
  cases h2 : rowMay l with
  | false => rfl
  | true =>
    refine absurd ?_ h
    have e : l = l.take (k - 1) ++ (l[k - 1]'(by omega)) :: l[k] :: l.drop (k + 1) := by
      have e1 := (List.take_append_drop (k - 1) l).symm
      rw [List.drop_eq_getElem_cons (show k - 1 < l.length by omega)] at e1
      have e2 : l.drop (k - 1 + 1) = l[k] :: l.drop (k + 1) := by
        rw [show k - 1 + 1 = k from by omega, List.drop_eq_getElem_cons hk]
      rw [e2] at e1; exact e1
    have h3 : rowMay ((l[k - 1]'(by omega)) :: l[k] :: l.drop (k + 1)) = true := may_drop (l.take (k - 1)) _ (e ▸ h2)
    exact row_after h3 _ (List.mem_cons_self ..)
theorem may4_any (A : Option Addr) (cap : Nat) (l : List Sp) (W : World) (hv : Reads spanC W W.heap.size A l) (hn : l.length ≤ 1000000) (hl : ShortL l) :
    Calls Tryz.prog 23 #[.slice A l.length cap] W fun e w' => e = .returned (.bool (rowMay l)) ∧ Below W.heap.size W w' := by
  refine calls_ok (n := 30) Tryz.func23 rfl (by kernel_rfl) (by kernel_rfl) ?_
  refine ok_seq ?_
  refine ok_region ?_
  refine s_val (.bool false) (by kernel_rfl) (fun _ => by kernel_rfl) ?_
  refine s_nil ?_
  refine fin_seq ?_
  refine ok_seq ?_
  refine ok_seq ?_
  refine ok_region ?_
  refine s_val (.slice A l.length cap) (by kernel_rfl) (fun _ => by kernel_rfl) ?_
  refine s_val (.int .i64 (l.length : Int)) (by kernel_rfl) (fun _ => by kernel_rfl) ?_
  refine s_val (.int .i64 0) (by kernel_rfl) (fun _ => by kernel_rfl) ?_
  refine s_nil ?_
  refine fin_seq ?_
  refine ok_block ?_
  refine ok_loop (fun L f m => ∃ (k : Nat) (j : Nat → Value), (k ≤ l.length ∧ rowMay (l.take k) = true) ∧ L = [] ∧ f = upds j [(0, .slice A l.length cap), (5, .slice A l.length cap), (6, .int .i64 (l.length : Int)), (7, .int .i64 (k : Int))] ∧ m = l.length - k) (l.length - 0) ⟨0, _, ⟨Nat.zero_le _, by rw [List.take_zero]; rfl⟩, rfl, upds_self _ ⟨by kernel_rfl, by kernel_rfl, by kernel_rfl, by kernel_rfl, trivial⟩, rfl⟩ ?_
  rintro L f m ⟨k, j, hrel, rfl, rfl, rfl⟩
  have hkl := hrel.1
  refine ok_seq ?_
  refine ok_region ?_
  by_cases h1 : (k : Int) < (l.length : Int)
  · skip
    have hk : k < l.length := by omega
    obtain ⟨b, off, hA, hlt, hcell⟩ := hv (by omega)
    obtain ⟨s, hs⟩ : ∃ s, l[k] = s := ⟨_, rfl⟩
    have hsk : s.short := hs ▸ hl l[k] (List.getElem_mem hk)
    refine s_dec (p := (k : Int) < (l.length : Int)) true (by kernel_rfl) (fun _ => by kernel_rfl) (decide_eq_true (h1)) ?_
    refine s_nil ?_
    refine fin_seq ?_
    refine ok_seq ?_
    refine ok_true (by kernel_rfl) ?_
    refine ok_skip ?_
    refine fin_seq ?_
    refine ok_seq ?_
    refine ok_block ?_
    refine ok_seq ?_
    refine ok_region ?_
    refine s_val (.int .i64 (k : Int)) (by kernel_rfl) (fun _ => by kernel_rfl) ?_
    refine s_val (.pointer (some ⟨b, off + k * 14, none⟩)) (by kernel_rfl) (run_ixA (b := b) (off := off) (c := cap) (n := l.length) (k := .i64) (j := (k : Int)) (e := 43) (sz := 14) rfl (by kernel_rfl) hA (by kernel_rfl) (by kernel_rfl) (by kernel_rfl) (by omega) (by omega) (by omega)) ?_
    refine s_old (spanV s) (a := ⟨b, off + k * 14, none⟩) (by kernel_rfl) rfl (by kernel_rfl) (fun w hO => elem_load spanC_len (fun j u h => (hO.below.cell (p := ⟨b, off + j, none⟩) hlt).trans (hcell j u h)) k 0 hk (by omega) _ (by rw [hs]; kernel_rfl)) ?_
    refine s_alloc_at (.agg #[.int .i64 0, .int .i64 0, .int .i64 0, .int .i64 0, .string ⟨#[]⟩, .string ⟨#[]⟩, .bool false, .int .i64 0, .int .i64 0, .int .i64 0, .int .i64 0, .string ⟨#[]⟩, .string ⟨#[]⟩, .bool false]) (by kernel_rfl) rfl (by kernel_rfl) (fun b1 => ?_)
    refine s_val (.int .i64 (k : Int)) (by kernel_rfl) (fun _ => by kernel_rfl) ?_
    refine s_store_at 0 ⟨b1, #[.int .i64 0, .int .i64 0, .int .i64 0, .int .i64 0, .string ⟨#[]⟩, .string ⟨#[]⟩, .bool false, .int .i64 0, .int .i64 0, .int .i64 0, .int .i64 0, .string ⟨#[]⟩, .string ⟨#[]⟩, .bool false], 43⟩ (off := 0) (spanV s) (by kernel_rfl) rfl rfl (by kernel_rfl) (by kernel_rfl) (by kernel_rfl) (by kernel_rfl) (by kernel_rfl) ?_
    refine s_nil ?_
    refine fin_seq ?_
    refine ok_seq ?_
    refine ok_seq ?_
    refine ok_region ?_
    refine s_load 0 ⟨b1, (spanV s).cells, 43⟩ (off := 0) (spanV s) (by kernel_rfl) rfl (by kernel_rfl) (by kernel_rfl) (by kernel_rfl) ?_
    refine s_call (k := 41) (args := #[spanV s]) (.bool s.may) (by kernel_rfl) (fun _ => by kernel_rfl) (fun w _ => spanMay_any s w hsk) ?_
    cases h2 : s.may with
    | true =>
      refine s_val (.bool false) (by kernel_rfl) (fun _ => by kernel_rfl) ?_
      refine s_nil ?_
      refine fin_seq ?_
      refine ok_false (by kernel_rfl) ?_
      refine ok_skip ?_
      refine fin_seq ?_
      refine ok_seq ?_
      refine ok_draw (by kernel_rfl) (by kernel_rfl) ?_
      refine q_val (.int .i64 (k : Int)) (by kernel_rfl) (fun _ => by kernel_rfl) ?_
      by_cases h3 : (0 : Int) < (k : Int)
      · skip
        have hk1 : k - 1 < l.length := by omega
        obtain ⟨p, hp⟩ : ∃ p, l[k - 1] = p := ⟨_, rfl⟩
        have hpk : p.short := hp ▸ hl l[k - 1] (List.getElem_mem hk1)
        refine q_dec (p := (0 : Int) < (k : Int)) true (by kernel_rfl) (fun _ => by kernel_rfl) (decide_eq_true (h3)) ?_
        refine q_val (.bool true) (by kernel_rfl) (fun _ => by kernel_rfl) ?_
        refine q_val (.slice A l.length cap) (by kernel_rfl) (fun _ => by kernel_rfl) ?_
        refine q_val (.int .i64 (k : Int)) (by kernel_rfl) (fun _ => by kernel_rfl) ?_
        refine q_sum (k := .i64) (((k : Int) : Int) - 1) (by kernel_rfl) (fun _ => by kernel_rfl) (IntWalk.i64_in _ (by omega)) ?_
        refine q_val (.pointer (some ⟨b, off + (k - 1) * 14, none⟩)) (by kernel_rfl) (run_ixA (b := b) (off := off) (c := cap) (n := l.length) (k := .i64) (j := (k : Int) - 1) (e := 43) (sz := 14) rfl (by kernel_rfl) hA (by kernel_rfl) (by kernel_rfl) (by kernel_rfl) (by omega) (by omega) (by omega)) ?_
        refine q_val (.pointer (some ⟨b, off + (k - 1) * 14 + 7, none⟩)) (by kernel_rfl) (fun _ => by kernel_rfl) ?_
        refine q_old (cutV p.hi) (a := ⟨b, off + (k - 1) * 14 + 7, none⟩) (by kernel_rfl) rfl (by kernel_rfl) (fun w hO => elem_load spanC_len (fun j u h => (hO.below.cell (p := ⟨b, off + j, none⟩) hlt).trans (hcell j u h)) (k - 1) 7 (by omega) (by omega) _ (by rw [hp]; kernel_rfl)) ?_
        refine q_val (.pointer (some ⟨b1, 0, none⟩)) (by kernel_rfl) (fun _ => by kernel_rfl) ?_
        refine q_load 0 ⟨b1, (spanV s).cells, 43⟩ (off := 0) (.agg #[.int .i64 s.lo.e, .int .i64 s.lo.v.maj, .int .i64 s.lo.v.min, .int .i64 s.lo.v.pat, .string (mkS s.lo.v.pre), .string (mkS s.lo.v.build), .bool s.lo.aft]) (by kernel_rfl) rfl (by kernel_rfl) (by kernel_rfl) (by kernel_rfl) ?_
        refine q_call (k := 42) (args := #[cutV p.hi, .agg #[.int .i64 s.lo.e, .int .i64 s.lo.v.maj, .int .i64 s.lo.v.min, .int .i64 s.lo.v.pat, .string (mkS s.lo.v.pre), .string (mkS s.lo.v.build), .bool s.lo.aft]]) (.int .i64 (cmpC p.hi s.lo)) (by kernel_rfl) (fun _ => by kernel_rfl) (fun w _ => cmpC_any p.hi s.lo w hpk.2 hsk.1) ?_
        by_cases h4 : (0 : Int) ≤ cmpC p.hi s.lo
        · skip
          refine q_dec (p := (0 : Int) ≤ cmpC p.hi s.lo) true (by kernel_rfl) (fun _ => by kernel_rfl) (decide_eq_true (h4)) ?_
          refine q_val (.bool true) (by kernel_rfl) (fun _ => by kernel_rfl) ?_
          refine q_nil ?_
          refine fin_seq ?_
          refine ok_true (by kernel_rfl) ?_
          refine ok_seq ?_
          refine ok_region ?_
          refine s_val (.bool false) (by kernel_rfl) (fun _ => by kernel_rfl) ?_
          refine s_nil ?_
          refine fin_seq ?_
          refine ok_ret ?_
          refine fin_block_ret ?_
          refine fin_seq_ret ?_
          refine fin_round_ret ?_
          refine fin_block_ret ?_
          refine fin_seq_ret ?_
          refine fin_ret (.bool false) Tryz.results23 (by kernel_rfl) ?_
          exact fun w hO => ⟨by rw [may_not hk (by omega) (by simp only [hp, hs]; omega)], hO.below⟩
        · skip
          refine q_dec (p := (0 : Int) ≤ cmpC p.hi s.lo) false (by kernel_rfl) (fun _ => by kernel_rfl) (decide_eq_false (h4)) ?_
          refine q_val (.bool false) (by kernel_rfl) (fun _ => by kernel_rfl) ?_
          refine q_nil ?_
          refine fin_seq ?_
          refine ok_false (by kernel_rfl) ?_
          refine ok_skip ?_
          refine fin_block ?_
          refine fin_seq ?_
          refine ok_region ?_
          refine s_sum (k := .i64) (((k + 1 : Nat) : Int)) (by kernel_rfl) (fun _ => by kernel_rfl) (IntWalk.i64_in _ (by omega)) ?_
          refine s_val (.int .i64 ((k + 1 : Nat) : Int)) (by kernel_rfl) (fun _ => by kernel_rfl) ?_
          refine s_nil ?_
          have hnext : rowMay (l.take (k + 1)) = true := may_step hk hrel.2 (by rw [hs]; assumption) (fun h0 => by simp only [hp, hs]; omega)
          refine fin_take (fun w hO => Own.sub [_] hO) ?_
          exact fin_round (m' := l.length - (k + 1)) (by omega) ⟨k + 1, _, ⟨by omega, hnext⟩, rfl, upds_self _ ⟨by kernel_rfl, by kernel_rfl, by kernel_rfl, by kernel_rfl, trivial⟩, rfl⟩
      · skip
        refine q_dec (p := (0 : Int) < (k : Int)) false (by kernel_rfl) (fun _ => by kernel_rfl) (decide_eq_false (h3)) ?_
        refine q_val (.bool false) (by kernel_rfl) (fun _ => by kernel_rfl) ?_
        refine q_skip (by kernel_rfl) ?_
        refine q_skip (by kernel_rfl) ?_
        refine q_skip (by kernel_rfl) ?_
        refine q_skip (by kernel_rfl) ?_
        refine q_skip (by kernel_rfl) ?_
        refine q_skip (by kernel_rfl) ?_
        refine q_skip (by kernel_rfl) ?_
        refine q_skip (by kernel_rfl) ?_
        refine q_skip (by kernel_rfl) ?_
        refine q_skip (by kernel_rfl) ?_
        refine q_val (.bool false) (by kernel_rfl) (fun _ => by kernel_rfl) ?_
        refine q_nil ?_
        refine fin_seq ?_
        refine ok_false (by kernel_rfl) ?_
        refine ok_skip ?_
        refine fin_block ?_
        refine fin_seq ?_
        refine ok_region ?_
        refine s_sum (k := .i64) (((k + 1 : Nat) : Int)) (by kernel_rfl) (fun _ => by kernel_rfl) (IntWalk.i64_in _ (by omega)) ?_
        refine s_val (.int .i64 ((k + 1 : Nat) : Int)) (by kernel_rfl) (fun _ => by kernel_rfl) ?_
        refine s_nil ?_
        have hnext : rowMay (l.take (k + 1)) = true := may_step hk hrel.2 (by rw [hs]; assumption) (fun h0 => absurd h0 (by omega))
        refine fin_take (fun w hO => Own.sub [_] hO) ?_
        exact fin_round (m' := l.length - (k + 1)) (by omega) ⟨k + 1, _, ⟨by omega, hnext⟩, rfl, upds_self _ ⟨by kernel_rfl, by kernel_rfl, by kernel_rfl, by kernel_rfl, trivial⟩, rfl⟩
    | false =>
      refine s_val (.bool true) (by kernel_rfl) (fun _ => by kernel_rfl) ?_
      refine s_nil ?_
      refine fin_seq ?_
      refine ok_true (by kernel_rfl) ?_
      refine ok_seq ?_
      refine ok_region ?_
      refine s_val (.bool false) (by kernel_rfl) (fun _ => by kernel_rfl) ?_
      refine s_nil ?_
      refine fin_seq ?_
      refine ok_ret ?_
      refine fin_seq_ret ?_
      refine fin_block_ret ?_
      refine fin_seq_ret ?_
      refine fin_round_ret ?_
      refine fin_block_ret ?_
      refine fin_seq_ret ?_
      refine fin_ret (.bool false) Tryz.results23 (by kernel_rfl) ?_
      exact fun w hO => ⟨by rw [may_take_bad hk (by rw [hs]; assumption)], hO.below⟩
  · skip
    refine s_dec (p := (k : Int) < (l.length : Int)) false (by kernel_rfl) (fun _ => by kernel_rfl) (decide_eq_false (h1)) ?_
    refine s_nil ?_
    refine fin_seq ?_
    refine ok_seq ?_
    refine ok_false (by kernel_rfl) ?_
    refine ok_exit ?_
    refine fin_seq_exit ?_
    refine fin_round_exit ?_
    refine fin_block_exit ?_
    refine fin_seq ?_
    refine ok_seq ?_
    refine ok_region ?_
    refine s_val (.bool true) (by kernel_rfl) (fun _ => by kernel_rfl) ?_
    refine s_nil ?_
    refine fin_seq ?_
    refine ok_ret ?_
    refine fin_ret (.bool true) Tryz.results23 (by kernel_rfl) ?_
    exact fun w hO => ⟨by have h := hrel.2; rw [List.take_of_length_le (by omega)] at h; rw [h], hO.below⟩
theorem has4_any (A : Option Addr) (cap : Nat) (l : List Sp) (v : Ver) (W : World) (hv : Reads spanC W W.heap.size A l) (hn : l.length ≤ 1000000) (hl : ShortL l) (hv2 : v.short) :
    Calls Tryz.prog 22 #[.slice A l.length cap, verV v] W fun e w' => e = .returned (.bool (rowHas l v)) ∧ Below W.heap.size W w' := by
  refine calls_ok (n := 14) Tryz.func22 rfl (by kernel_rfl) (by kernel_rfl) ?_
  refine ok_seq ?_
  refine ok_region ?_
  refine s_box (verV v) (by kernel_rfl) rfl (by kernel_rfl) (fun b1 => ?_)
  refine s_val (.bool false) (by kernel_rfl) (fun _ => by kernel_rfl) ?_
  refine s_nil ?_
  refine fin_seq ?_
  refine ok_seq ?_
  refine ok_region ?_
  refine s_val (.func (.func 38) #[] #[.pointer (some ⟨b1, 0, none⟩)]) (by kernel_rfl) (fun _ => by kernel_rfl) ?_
  refine s_val (.func (.func 38) #[] #[.pointer (some ⟨b1, 0, none⟩)]) (by kernel_rfl) (fun _ => by kernel_rfl) ?_
  refine s_nil ?_
  refine fin_seq ?_
  refine ok_seq ?_
  refine ok_region ?_
  refine s_val (.slice A l.length cap) (by kernel_rfl) (fun _ => by kernel_rfl) ?_
  refine s_call (k := 23) (args := #[.slice A l.length cap]) (.bool (rowMay l)) (by kernel_rfl) (fun _ => by kernel_rfl) (fun w hO => may4_any A cap l w (hv.on hO.below hO.size) hn hl) ?_
  refine s_val (.bool (rowMay l)) (by kernel_rfl) (fun _ => by kernel_rfl) ?_
  cases h1 : rowMay l with
  | true =>
    refine s_val (.slice A l.length cap) (by kernel_rfl) (fun _ => by kernel_rfl) ?_
    refine s_val (.func (.func 38) #[] #[.pointer (some ⟨b1, 0, none⟩)]) (by kernel_rfl) (fun _ => by kernel_rfl) ?_
    refine s_call (k := 40) (args := #[.slice A l.length cap, .func (.func 38) #[] #[.pointer (some ⟨b1, 0, none⟩)]]) (.bool (l.any (holdsC · v))) (by kernel_rfl) (fun _ => by kernel_rfl) (fun w hO => containsf_any A cap b1 l v w (hv.on hO.below hO.size) hn hl (hO.lt List.mem_cons_self) (fun j u h => by rw [cell_of_row w b1 (0 + j) _ 31 _ (hO.held _ List.mem_cons_self)]; simpa using h) hv2) ?_
    refine s_val (.bool (l.any (holdsC · v))) (by kernel_rfl) (fun _ => by kernel_rfl) ?_
    refine s_val (.bool (l.any (holdsC · v))) (by kernel_rfl) (fun _ => by kernel_rfl) ?_
    refine s_nil ?_
    refine fin_seq ?_
    refine ok_ret ?_
    refine fin_ret (.bool (l.any (holdsC · v))) Tryz.results22 (by kernel_rfl) ?_
    exact fun w hO => ⟨by unfold rowHas; rw [h1]; simp, hO.below⟩
  | false =>
    refine s_skip (by kernel_rfl) ?_
    refine s_skip (by kernel_rfl) ?_
    refine s_skip (by kernel_rfl) ?_
    refine s_val (.bool false) (by kernel_rfl) (fun _ => by kernel_rfl) ?_
    refine s_val (.bool false) (by kernel_rfl) (fun _ => by kernel_rfl) ?_
    refine s_nil ?_
    refine fin_seq ?_
    refine ok_ret ?_
    refine fin_ret (.bool false) Tryz.results22 (by kernel_rfl) ?_
    exact fun w hO => ⟨by unfold rowHas; rw [h1]; simp, hO.below⟩
end Go.Proofs.YtmlecnomdamgnaaGreat
end

section
/-
  Package row's unshare (what it writes is what was there), add, Not.
-/
namespace Go.Proofs.YtmlecnomdamgnaaGreat
open Go.RowKit
set_option maxRecDepth 100000
set_option linter.unusedVariables false
set_option linter.unusedSimpArgs false
set_option maxHeartbeats 2000000


theorem unshare_any (A : Option Addr) (cap : Nat) (l : List Sp) (ob : List Blk) (W : World) (hv : SlS (.slice A l.length cap) l ob) (hO : Own (ob.map Blk.b) W W ob) (hn : l.length ≤ 1000000) (hl : ShortL l) :
    Calls Tryz.prog 35 #[.slice A l.length cap] W fun e w' => ∃ ob', e = .returned (.slice A l.length cap) ∧ SlS (.slice A l.length cap) l ob' ∧ Own (ob.map Blk.b) W w' ob' := by
  unfold SlS at hv ⊢
  refine calls_okL (n := 39) hO Tryz.func35 rfl (by kernel_rfl) (by kernel_rfl) ?_
  refine ok_seq ?_
  refine ok_region ?_
  refine s_val (.slice none 0 0) (by kernel_rfl) (fun _ => by kernel_rfl) ?_
  refine s_nil ?_
  refine fin_seq ?_
  refine ok_seq ?_
  refine ok_seq ?_
  refine ok_region ?_
  refine s_val (.slice A l.length cap) (by kernel_rfl) (fun _ => by kernel_rfl) ?_
  refine s_val (.int .i64 (l.length : Int)) (by kernel_rfl) (fun _ => by kernel_rfl) ?_
  refine s_val (.int .i64 0) (by kernel_rfl) (fun _ => by kernel_rfl) ?_
  refine s_nil ?_
  refine fin_seq ?_
  refine ok_block ?_
  refine ok_cast (L' := ob ++ []) (List.append_nil _).symm ?_
  refine ok_loop (fun L f m => ∃ (k : Nat) (oc : List Blk) (j : Nat → Value), (k ≤ l.length ∧ Sl 43 14 (.slice A l.length cap) l.length (l.flatMap spanC) oc) ∧ L = oc ++ [] ∧ f = upds j [(0, .slice A l.length cap), (5, .slice A l.length cap), (6, .int .i64 (l.length : Int)), (7, .int .i64 (k : Int))] ∧ m = l.length - k) (l.length - 0) ⟨0, ob, _, ⟨Nat.zero_le _, hv⟩, rfl, upds_self _ ⟨by kernel_rfl, by kernel_rfl, by kernel_rfl, by kernel_rfl, trivial⟩, rfl⟩ ?_
  rintro L f m ⟨k, oc, j, hrel, rfl, rfl, rfl⟩
  have hkl := hrel.1
  refine ok_seq ?_
  refine ok_region ?_
  by_cases h1 : (k : Int) < (l.length : Int)
  · skip
    have hk : k < l.length := by omega
    obtain ⟨g, cur, hA, rfl, hcap, hmax, hsz, hcur⟩ := hrel.2.block (by omega)
    obtain ⟨s, hs⟩ : ∃ s, l[k] = s := ⟨_, rfl⟩
    have hsk : s.short := hs ▸ hl l[k] (List.getElem_mem hk)
    have hset : l.set k s = l := by rw [← hs]; exact List.set_getElem_self _
    refine s_cast (L' := [⟨g, cur, 43⟩]) (List.append_nil _) ?_
    refine s_dec (p := (k : Int) < (l.length : Int)) true (by kernel_rfl) (fun _ => by kernel_rfl) (decide_eq_true (h1)) ?_
    refine s_nil ?_
    refine fin_seq ?_
    refine ok_seq ?_
    refine ok_true (by kernel_rfl) ?_
    refine ok_skip ?_
    refine fin_seq ?_
    refine ok_seq ?_
    refine ok_block ?_
    refine ok_seq ?_
    refine ok_region ?_
    refine s_val (.int .i64 (k : Int)) (by kernel_rfl) (fun _ => by kernel_rfl) ?_
    refine s_val (.int .i64 (k : Int)) (by kernel_rfl) (fun _ => by kernel_rfl) ?_
    refine s_nil ?_
    refine fin_seq ?_
    refine ok_seq ?_
    refine ok_region ?_
    refine s_val (.slice A l.length cap) (by kernel_rfl) (fun _ => by kernel_rfl) ?_
    refine s_val (.int .i64 (k : Int)) (by kernel_rfl) (fun _ => by kernel_rfl) ?_
    refine s_val (.pointer (some ⟨g, k * 14, none⟩)) (by kernel_rfl) (run_ixA (b := g) (off := 0) (c := cap) (n := l.length) (k := .i64) (j := (k : Int)) (e := 43) (sz := 14) rfl (by kernel_rfl) hA (by kernel_rfl) (by kernel_rfl) (by kernel_rfl) (by omega) (by omega) (by show 0 + k * 14 = k * 14; omega)) ?_
    refine s_val (.pointer (some ⟨g, k * 14, none⟩)) (by kernel_rfl) (fun _ => by kernel_rfl) ?_
    refine s_nil ?_
    refine fin_seq ?_
    refine ok_seq ?_
    refine ok_region ?_
    refine s_val (.pointer (some ⟨g, k * 14, none⟩)) (by kernel_rfl) (fun _ => by kernel_rfl) ?_
    refine s_val (.pointer (some ⟨g, k * 14, none⟩)) (by kernel_rfl) (fun _ => by kernel_rfl) ?_
    refine s_val (.pointer (some ⟨g, k * 14, none⟩)) (by kernel_rfl) (fun _ => by kernel_rfl) ?_
    refine s_val (.pointer (some ⟨g, k * 14 + 0, none⟩)) (by kernel_rfl) (fun _ => by kernel_rfl) ?_
    refine s_val (.pointer (some ⟨g, k * 14 + 1, none⟩)) (by kernel_rfl) (fun _ => by kernel_rfl) ?_
    refine s_val (.pointer (some ⟨g, k * 14 + 4, none⟩)) (by kernel_rfl) (fun _ => by kernel_rfl) ?_
    refine s_load 0 ⟨g, cur, 43⟩ (off := k * 14 + 4) (.string (mkS s.lo.v.pre)) (by kernel_rfl) rfl (by kernel_rfl) (by kernel_rfl) (read_part spanC_len hcur k 4 (by omega) (by omega) _ (by rw [hs]; kernel_rfl)) ?_
    refine s_call (k := 53) (args := #[.string (mkS s.lo.v.pre)]) (.string (mkS s.lo.v.pre)) (by kernel_rfl) (fun _ => by kernel_rfl) (fun w _ => clone_any (mkS s.lo.v.pre) w (by rw [mkS_sz]; have := hsk.1.1; omega)) ?_
    refine s_val (.pointer (some ⟨g, k * 14, none⟩)) (by kernel_rfl) (fun _ => by kernel_rfl) ?_
    refine s_val (.pointer (some ⟨g, k * 14 + 0, none⟩)) (by kernel_rfl) (fun _ => by kernel_rfl) ?_
    refine s_val (.pointer (some ⟨g, k * 14 + 1, none⟩)) (by kernel_rfl) (fun _ => by kernel_rfl) ?_
    refine s_val (.pointer (some ⟨g, k * 14 + 4, none⟩)) (by kernel_rfl) (fun _ => by kernel_rfl) ?_
    refine s_storeS 0 ⟨g, cur, 43⟩ (off := k * 14 + 4) (.string (mkS s.lo.v.pre)) 1 (by kernel_rfl) rfl rfl (by kernel_rfl) (by kernel_rfl) (by kernel_rfl) (by kernel_rfl) (by kernel_rfl) (by show k * 14 + 4 + 1 ≤ cur.size; omega) (by kernel_rfl) ?_
    have hse2 := store_elem spanC_len hcur k 4 (by omega) (Value.string (mkS s.lo.v.pre)).cells s (show 4 + 1 ≤ 14 by decide) (by rw [hs]; rfl)
    rw [hset] at hse2
    obtain ⟨cur2, hc2⟩ : ∃ x, x = storeIn cur (k * 14 + 4) (Value.string (mkS s.lo.v.pre)).cells := ⟨_, rfl⟩
    rw [← hc2] at hse2
    refine s_cast (L' := [⟨g, cur2, 43⟩]) (by rw [hc2]; rfl) ?_
    have hcur2 := hse2.1
    have hsz2 : cur2.size = cap * 14 := by rw [hse2.2]; exact hsz
    refine s_nil ?_
    refine fin_seq ?_
    refine ok_region ?_
    refine s_val (.pointer (some ⟨g, k * 14, none⟩)) (by kernel_rfl) (fun _ => by kernel_rfl) ?_
    refine s_val (.pointer (some ⟨g, k * 14, none⟩)) (by kernel_rfl) (fun _ => by kernel_rfl) ?_
    refine s_val (.pointer (some ⟨g, k * 14, none⟩)) (by kernel_rfl) (fun _ => by kernel_rfl) ?_
    refine s_val (.pointer (some ⟨g, k * 14 + 7, none⟩)) (by kernel_rfl) (fun _ => by kernel_rfl) ?_
    refine s_val (.pointer (some ⟨g, k * 14 + 8, none⟩)) (by kernel_rfl) (fun _ => by kernel_rfl) ?_
    refine s_val (.pointer (some ⟨g, k * 14 + 11, none⟩)) (by kernel_rfl) (fun _ => by kernel_rfl) ?_
    refine s_load 0 ⟨g, cur2, 43⟩ (off := k * 14 + 11) (.string (mkS s.hi.v.pre)) (by kernel_rfl) rfl (by kernel_rfl) (by kernel_rfl) (read_part spanC_len hcur2 k 11 (by omega) (by omega) _ (by rw [hs]; kernel_rfl)) ?_
    refine s_call (k := 53) (args := #[.string (mkS s.hi.v.pre)]) (.string (mkS s.hi.v.pre)) (by kernel_rfl) (fun _ => by kernel_rfl) (fun w _ => clone_any (mkS s.hi.v.pre) w (by rw [mkS_sz]; have := hsk.2.1; omega)) ?_
    refine s_val (.pointer (some ⟨g, k * 14, none⟩)) (by kernel_rfl) (fun _ => by kernel_rfl) ?_
    refine s_val (.pointer (some ⟨g, k * 14 + 7, none⟩)) (by kernel_rfl) (fun _ => by kernel_rfl) ?_
    refine s_val (.pointer (some ⟨g, k * 14 + 8, none⟩)) (by kernel_rfl) (fun _ => by kernel_rfl) ?_
    refine s_val (.pointer (some ⟨g, k * 14 + 11, none⟩)) (by kernel_rfl) (fun _ => by kernel_rfl) ?_
    refine s_storeS 0 ⟨g, cur2, 43⟩ (off := k * 14 + 11) (.string (mkS s.hi.v.pre)) 1 (by kernel_rfl) rfl rfl (by kernel_rfl) (by kernel_rfl) (by kernel_rfl) (by kernel_rfl) (by kernel_rfl) (by show k * 14 + 11 + 1 ≤ cur2.size; omega) (by kernel_rfl) ?_
    have hse3 := store_elem spanC_len hcur2 k 11 (by omega) (Value.string (mkS s.hi.v.pre)).cells s (show 11 + 1 ≤ 14 by decide) (by rw [hs]; rfl)
    rw [hset] at hse3
    obtain ⟨cur3, hc3⟩ : ∃ x, x = storeIn cur2 (k * 14 + 11) (Value.string (mkS s.hi.v.pre)).cells := ⟨_, rfl⟩
    rw [← hc3] at hse3
    refine s_cast (L' := [⟨g, cur3, 43⟩]) (by rw [hc3]; rfl) ?_
    have hcur3 := hse3.1
    have hsz3 : cur3.size = cap * 14 := by rw [hse3.2]; exact hsz2
    refine s_nil ?_
    refine fin_block ?_
    refine fin_seq ?_
    refine ok_region ?_
    refine s_sum (k := .i64) (((k + 1 : Nat) : Int)) (by kernel_rfl) (fun _ => by kernel_rfl) (IntWalk.i64_in _ (by omega)) ?_
    refine s_val (.int .i64 ((k + 1 : Nat) : Int)) (by kernel_rfl) (fun _ => by kernel_rfl) ?_
    refine s_nil ?_
    exact fin_round (m' := l.length - (k + 1)) (by omega) ⟨k + 1, [⟨g, cur3, 43⟩], _, ⟨by omega, by rw [flat_len spanC_len], .inr ⟨g, cap, _, by rw [hA], rfl, hcap, hmax, hsz3, hcur3⟩⟩, rfl, upds_self _ ⟨by kernel_rfl, by kernel_rfl, by kernel_rfl, by kernel_rfl, trivial⟩, rfl⟩
  · skip
    refine s_dec (p := (k : Int) < (l.length : Int)) false (by kernel_rfl) (fun _ => by kernel_rfl) (decide_eq_false (h1)) ?_
    refine s_nil ?_
    refine fin_seq ?_
    refine ok_seq ?_
    refine ok_false (by kernel_rfl) ?_
    refine ok_exit ?_
    refine fin_seq_exit ?_
    refine fin_round_exit ?_
    refine fin_block_exit ?_
    refine fin_seq ?_
    refine ok_seq ?_
    refine ok_region ?_
    refine s_val (.slice A l.length cap) (by kernel_rfl) (fun _ => by kernel_rfl) ?_
    refine s_val (.slice A l.length cap) (by kernel_rfl) (fun _ => by kernel_rfl) ?_
    refine s_nil ?_
    refine fin_seq ?_
    refine ok_ret ?_
    refine fin_ret (.slice A l.length cap) Tryz.results35 (by kernel_rfl) ?_
    exact fun w hO => ⟨oc, rfl, hrel.2, by simpa using hO⟩
end Go.Proofs.YtmlecnomdamgnaaGreat
end

section
/-
  Package row's add, Not.
-/
namespace Go.Proofs.YtmlecnomdamgnaaGreat
open Go.RowKit
set_option maxRecDepth 100000
set_option linter.unusedVariables false
set_option linter.unusedSimpArgs false
set_option maxHeartbeats 2000000


theorem add_short {l : List Sp} {c d : Cu} (hl : ShortL l) (hc : c.short) (hd : d.short) : ShortL (addL l c d) := by
  unfold addL
  split
  · intro x hx
    rcases List.mem_append.1 hx with h | h
    · exact hl x h
    · obtain rfl : x = _ := by simpa using h
      exact ⟨hc, hd⟩
  · exact hl
theorem add_any (A : Option Addr) (cap : Nat) (l : List Sp) (ob : List Blk) (c d : Cu) (W : World) (hv : SlS (.slice A l.length cap) l ob) (hO : Own (ob.map Blk.b) W W ob) (hn : l.length ≤ 1000000) (hl : ShortL l) (hc : c.short) (hd : d.short) :
    Calls Tryz.prog 34 #[.slice A l.length cap, cutV c, cutV d] W fun e w' => ∃ v' ob', e = .returned v' ∧ SlS v' (addL l c d) ob' ∧ Own (ob.map Blk.b) W w' ob' := by
  unfold SlS at hv ⊢
  refine calls_okL (n := 19) hO Tryz.func34 rfl (by kernel_rfl) (by kernel_rfl) ?_
  refine ok_seq ?_
  refine ok_region ?_
  refine s_box (cutV c) (by kernel_rfl) rfl (by kernel_rfl) (fun b1 => ?_)
  refine s_box (cutV d) (by kernel_rfl) rfl (by kernel_rfl) (fun b2 => ?_)
  refine s_val (.slice none 0 0) (by kernel_rfl) (fun _ => by kernel_rfl) ?_
  refine s_nil ?_
  refine fin_seq ?_
  refine ok_seq ?_
  refine ok_region ?_
  refine s_load 1 ⟨b1, (cutV c).cells, 41⟩ (off := 0) (cutV c) (by kernel_rfl) rfl (by kernel_rfl) (by kernel_rfl) (by kernel_rfl) ?_
  refine s_load 0 ⟨b2, (cutV d).cells, 41⟩ (off := 0) (cutV d) (by kernel_rfl) rfl (by kernel_rfl) (by kernel_rfl) (by kernel_rfl) ?_
  refine s_val (.agg #[.int .i64 c.e, .int .i64 c.v.maj, .int .i64 c.v.min, .int .i64 c.v.pat, .string (mkS c.v.pre), .string (mkS c.v.build), .bool c.aft, .int .i64 d.e, .int .i64 d.v.maj, .int .i64 d.v.min, .int .i64 d.v.pat, .string (mkS d.v.pre), .string (mkS d.v.build), .bool d.aft]) (by kernel_rfl) (fun _ => by kernel_rfl) ?_
  refine s_alloc_at (.agg #[.int .i64 0, .int .i64 0, .int .i64 0, .int .i64 0, .string ⟨#[]⟩, .string ⟨#[]⟩, .bool false, .int .i64 0, .int .i64 0, .int .i64 0, .int .i64 0, .string ⟨#[]⟩, .string ⟨#[]⟩, .bool false]) (by kernel_rfl) rfl (by kernel_rfl) (fun b3 => ?_)
  refine s_store_at 0 ⟨b3, #[.int .i64 0, .int .i64 0, .int .i64 0, .int .i64 0, .string ⟨#[]⟩, .string ⟨#[]⟩, .bool false, .int .i64 0, .int .i64 0, .int .i64 0, .int .i64 0, .string ⟨#[]⟩, .string ⟨#[]⟩, .bool false], 43⟩ (off := 0) (.agg #[.int .i64 c.e, .int .i64 c.v.maj, .int .i64 c.v.min, .int .i64 c.v.pat, .string (mkS c.v.pre), .string (mkS c.v.build), .bool c.aft, .int .i64 d.e, .int .i64 d.v.maj, .int .i64 d.v.min, .int .i64 d.v.pat, .string (mkS d.v.pre), .string (mkS d.v.build), .bool d.aft]) (by kernel_rfl) rfl rfl (by kernel_rfl) (by kernel_rfl) (by kernel_rfl) (by kernel_rfl) (by kernel_rfl) ?_
  refine s_nil ?_
  refine fin_seq ?_
  refine ok_seq ?_
  refine ok_seq ?_
  refine ok_region ?_
  refine s_load 0 ⟨b3, #[.int .i64 c.e, .int .i64 c.v.maj, .int .i64 c.v.min, .int .i64 c.v.pat, .string (mkS c.v.pre), .string (mkS c.v.build), .bool c.aft, .int .i64 d.e, .int .i64 d.v.maj, .int .i64 d.v.min, .int .i64 d.v.pat, .string (mkS d.v.pre), .string (mkS d.v.build), .bool d.aft], 43⟩ (off := 0) (.agg #[.int .i64 c.e, .int .i64 c.v.maj, .int .i64 c.v.min, .int .i64 c.v.pat, .string (mkS c.v.pre), .string (mkS c.v.build), .bool c.aft, .int .i64 d.e, .int .i64 d.v.maj, .int .i64 d.v.min, .int .i64 d.v.pat, .string (mkS d.v.pre), .string (mkS d.v.build), .bool d.aft]) (by kernel_rfl) rfl (by kernel_rfl) (by kernel_rfl) (by kernel_rfl) ?_
  refine s_call (k := 41) (args := #[.agg #[.int .i64 c.e, .int .i64 c.v.maj, .int .i64 c.v.min, .int .i64 c.v.pat, .string (mkS c.v.pre), .string (mkS c.v.build), .bool c.aft, .int .i64 d.e, .int .i64 d.v.maj, .int .i64 d.v.min, .int .i64 d.v.pat, .string (mkS d.v.pre), .string (mkS d.v.build), .bool d.aft]]) (.bool ((Sp.mk c d).may)) (by kernel_rfl) (fun _ => by kernel_rfl) (fun w _ => spanMay_any ⟨c, d⟩ w ⟨hc, hd⟩) ?_
  cases h1 : (Sp.mk c d).may with
  | true =>
    refine s_val (.bool false) (by kernel_rfl) (fun _ => by kernel_rfl) ?_
    refine s_nil ?_
    refine fin_seq ?_
    refine ok_false (by kernel_rfl) ?_
    refine ok_skip ?_
    refine fin_seq ?_
    refine ok_seq ?_
    refine ok_region ?_
    refine s_val (.slice A l.length cap) (by kernel_rfl) (fun _ => by kernel_rfl) ?_
    refine s_load 0 ⟨b3, #[.int .i64 c.e, .int .i64 c.v.maj, .int .i64 c.v.min, .int .i64 c.v.pat, .string (mkS c.v.pre), .string (mkS c.v.build), .bool c.aft, .int .i64 d.e, .int .i64 d.v.maj, .int .i64 d.v.min, .int .i64 d.v.pat, .string (mkS d.v.pre), .string (mkS d.v.build), .bool d.aft], 43⟩ (off := 0) (.agg #[.int .i64 c.e, .int .i64 c.v.maj, .int .i64 c.v.min, .int .i64 c.v.pat, .string (mkS c.v.pre), .string (mkS c.v.build), .bool c.aft, .int .i64 d.e, .int .i64 d.v.maj, .int .i64 d.v.min, .int .i64 d.v.pat, .string (mkS d.v.pre), .string (mkS d.v.build), .bool d.aft]) (by kernel_rfl) rfl (by kernel_rfl) (by kernel_rfl) (by kernel_rfl) ?_
    refine s_lit 43 #[.int .i64 c.e, .int .i64 c.v.maj, .int .i64 c.v.min, .int .i64 c.v.pat, .string (mkS c.v.pre), .string (mkS c.v.build), .bool c.aft, .int .i64 d.e, .int .i64 d.v.maj, .int .i64 d.v.min, .int .i64 d.v.pat, .string (mkS d.v.pre), .string (mkS d.v.build), .bool d.aft] (by kernel_rfl) rfl (fun _ => by kernel_rfl) (fun b4 => ?_)
    refine s_cast (L' := [⟨b4, #[.int .i64 c.e, .int .i64 c.v.maj, .int .i64 c.v.min, .int .i64 c.v.pat, .string (mkS c.v.pre), .string (mkS c.v.build), .bool c.aft, .int .i64 d.e, .int .i64 d.v.maj, .int .i64 d.v.min, .int .i64 d.v.pat, .string (mkS d.v.pre), .string (mkS d.v.build), .bool d.aft], 43⟩, ⟨b3, #[.int .i64 c.e, .int .i64 c.v.maj, .int .i64 c.v.min, .int .i64 c.v.pat, .string (mkS c.v.pre), .string (mkS c.v.build), .bool c.aft, .int .i64 d.e, .int .i64 d.v.maj, .int .i64 d.v.min, .int .i64 d.v.pat, .string (mkS d.v.pre), .string (mkS d.v.build), .bool d.aft], 43⟩, ⟨b2, (cutV d).cells, 41⟩, ⟨b1, (cutV c).cells, 41⟩] ++ ob ++ []) (by rw [List.append_nil]; rfl) ?_
    obtain ⟨i, z, e1, e2, e3, e4, e5⟩ := span_info
    refine s_append (sz := 14) (by kernel_rfl) rfl Tryz.underlying22 e1 e2 e3 e4 (by kernel_rfl) hv (a := ⟨b4, 0, none⟩) (m := 1) (c := 1) (news := spanC ⟨c, d⟩) (by kernel_rfl) rfl (fun w hO j u hj => ?_) (span_cells _) (by unfold maxLen; omega) (by rw [e5]; omega) (fun v' ob' hv' => ?_)
    · rw [add_off, cell_of_row w b4 (0 + j) (spanC ⟨c, d⟩).toArray 43 _ (hO.held ⟨b4, (spanC ⟨c, d⟩).toArray, 43⟩ (List.mem_append_left _ (List.mem_append_left _ (List.mem_cons_self ..))))]; simpa using hj
    refine s_val (v') (by kernel_rfl) (fun _ => by kernel_rfl) ?_
    refine s_nil ?_
    refine fin_seq ?_
    refine ok_ret ?_
    refine fin_ret (v') Tryz.results34 (by kernel_rfl) ?_
    refine fun w hO => ⟨v', ob', rfl, by unfold addL; rw [h1, if_pos rfl, List.length_append, List.flatMap_append]; simpa using hv', Own.take hO (fun x hx => List.mem_append_left _ (List.mem_append_right _ hx)) ?_⟩
    have := hO.apart; rw [List.append_nil, List.map_append, List.nodup_append] at this; exact this.2.1
  | false =>
    refine s_val (.bool true) (by kernel_rfl) (fun _ => by kernel_rfl) ?_
    refine s_nil ?_
    refine fin_seq ?_
    refine ok_true (by kernel_rfl) ?_
    refine ok_seq ?_
    refine ok_region ?_
    refine s_val (.slice A l.length cap) (by kernel_rfl) (fun _ => by kernel_rfl) ?_
    refine s_val (.slice A l.length cap) (by kernel_rfl) (fun _ => by kernel_rfl) ?_
    refine s_nil ?_
    refine fin_seq ?_
    refine ok_ret ?_
    refine fin_seq_ret ?_
    refine fin_ret (.slice A l.length cap) Tryz.results34 (by kernel_rfl) ?_
    exact fun w hO => ⟨_, ob, rfl, by unfold addL; rw [h1, if_neg (by decide)]; exact hv, Own.sub [_, _, _] hO⟩
/-- add, of a caller that holds other blocks (E) too. -/
theorem add_call {M : List Nat} {W w : World} {v : Value} {l : List Sp} {E ob : List Blk} (c d : Cu) (hO : Own M W w (E ++ ob)) (hv : SlS v l ob) (hn : l.length ≤ 1000000) (hl : ShortL l) (hc : c.short) (hd : d.short) :
    Calls Tryz.prog 34 #[v, cutV c, cutV d] w fun e w' => ∃ v' L', e = .returned v' ∧ (∃ ob', L' = E ++ ob' ∧ SlS v' (addL l c d) ob') ∧ Own M W w' L' := by
  obtain ⟨A, cap, rfl⟩ := hv.form
  refine (add_any A cap l ob c d w hv (Own.lend (hO.sub E)) hn hl hc hd).mono fun e w' ⟨v', ob', h1, h2, h3⟩ => ⟨v', E ++ ob', h1, ⟨ob', rfl, h2⟩, ?_⟩
  have hp : Own M W w (ob ++ E) := hO.perm List.perm_append_comm
  exact (Own.join hp h3).perm List.perm_append_comm
theorem unshare_call {M : List Nat} {W w : World} {v : Value} {l : List Sp} {E ob : List Blk} (hO : Own M W w (E ++ ob)) (hv : SlS v l ob) (hn : l.length ≤ 1000000) (hl : ShortL l) :
    Calls Tryz.prog 35 #[v] w fun e w' => ∃ v' L', e = .returned v' ∧ (∃ ob', L' = E ++ ob' ∧ SlS v' l ob') ∧ Own M W w' L' := by
  obtain ⟨A, cap, rfl⟩ := hv.form
  refine (unshare_any A cap l ob w hv (Own.lend (hO.sub E)) hn hl).mono fun e w' ⟨ob', h1, h2, h3⟩ => ⟨_, E ++ ob', h1, ⟨ob', rfl, h2⟩, ?_⟩
  have hp : Own M W w (ob ++ E) := hO.perm List.perm_append_comm
  exact (Own.join hp h3).perm List.perm_append_comm
theorem end_short (k : Int) : (endC k).short := ⟨Nat.zero_le 1000000, Nat.zero_le 1000000⟩
structure NotB (l : List Sp) (k : Nat) (v : Value) (out : List Sp) (f : Cu) (ob : List Blk) : Prop where
  le : k ≤ l.length
  sl : SlS v out ob
  len : out.length ≤ k
  short : ShortL out
  fs : f.short
  eq : (l.take k).foldl nstep ([], endC (-1)) = (out, f)
theorem NotB.start (l : List Sp) : NotB l 0 (.slice none 0 0) [] (endC (-1)) [] := ⟨Nat.zero_le _, Sl.nil _ _, Nat.le_refl _, fun s hs => by simp at hs, end_short _, by rw [List.take_zero]; rfl⟩
theorem NotB.step {l : List Sp} {k : Nat} {v v2 : Value} {out : List Sp} {f : Cu} {ob ob2 : List Blk} (h : NotB l k v out f ob) (hk : k < l.length) {s : Sp} (hs : l[k] = s) (hss : s.short) (h2 : SlS v2 (addL out f s.lo) ob2) : NotB l (k + 1) v2 (addL out f s.lo) s.hi ob2 :=
  ⟨by omega, h2, by have := h.len; have := add_len out f s.lo; omega, add_short h.short h.fs hss.1, hss.2, by rw [List.take_succ_eq_append_getElem hk, List.foldl_append, h.eq, hs]; rfl⟩
theorem not4_any (A : Option Addr) (cap : Nat) (l : List Sp) (W : World) (hv : Reads spanC W W.heap.size A l) (hn : l.length ≤ 300000) (hl : ShortL l) :
    Calls Tryz.prog 17 #[.slice A l.length cap] W fun e w' => ∃ v' ob', e = .returned v' ∧ SlS v' (if rowMay l then notL l else []) ob' ∧ Own [] W w' ob' := by
  refine calls_ok (n := 30) Tryz.func17 rfl (by kernel_rfl) (by kernel_rfl) ?_
  refine ok_seq ?_
  refine ok_region ?_
  refine s_val (.slice none 0 0) (by kernel_rfl) (fun _ => by kernel_rfl) ?_
  refine s_nil ?_
  refine fin_seq ?_
  refine ok_seq ?_
  refine ok_seq ?_
  refine ok_region ?_
  refine s_val (.slice A l.length cap) (by kernel_rfl) (fun _ => by kernel_rfl) ?_
  refine s_call (k := 23) (args := #[.slice A l.length cap]) (.bool (rowMay l)) (by kernel_rfl) (fun _ => by kernel_rfl) (fun w hO => may4_any A cap l w (hv.on hO.below hO.size) (by omega) hl) ?_
  cases h1 : rowMay l with
  | true =>
    refine s_val (.bool false) (by kernel_rfl) (fun _ => by kernel_rfl) ?_
    refine s_nil ?_
    refine fin_seq ?_
    refine ok_false (by kernel_rfl) ?_
    refine ok_skip ?_
    refine fin_seq ?_
    refine ok_seq ?_
    refine ok_region ?_
    refine s_val (.slice none 0 0) (by kernel_rfl) (fun _ => by kernel_rfl) ?_
    refine s_nil ?_
    refine fin_seq ?_
    refine ok_seq ?_
    refine ok_region ?_
    refine s_val (.agg #[.int .i64 (-1), .int .i64 0, .int .i64 0, .int .i64 0, .string ⟨#[]⟩, .string ⟨#[]⟩, .bool false]) (by kernel_rfl) (fun _ => by kernel_rfl) ?_
    refine s_alloc_at (.agg #[.int .i64 0, .int .i64 0, .int .i64 0, .int .i64 0, .string ⟨#[]⟩, .string ⟨#[]⟩, .bool false]) (by kernel_rfl) rfl (by kernel_rfl) (fun b1 => ?_)
    refine s_store_at 0 ⟨b1, #[.int .i64 0, .int .i64 0, .int .i64 0, .int .i64 0, .string ⟨#[]⟩, .string ⟨#[]⟩, .bool false], 41⟩ (off := 0) (.agg #[.int .i64 (-1), .int .i64 0, .int .i64 0, .int .i64 0, .string ⟨#[]⟩, .string ⟨#[]⟩, .bool false]) (by kernel_rfl) rfl rfl (by kernel_rfl) (by kernel_rfl) (by kernel_rfl) (by kernel_rfl) (by kernel_rfl) ?_
    refine s_nil ?_
    refine fin_seq ?_
    refine ok_seq ?_
    refine ok_seq ?_
    refine ok_region ?_
    refine s_val (.slice A l.length cap) (by kernel_rfl) (fun _ => by kernel_rfl) ?_
    refine s_val (.int .i64 (l.length : Int)) (by kernel_rfl) (fun _ => by kernel_rfl) ?_
    refine s_val (.int .i64 0) (by kernel_rfl) (fun _ => by kernel_rfl) ?_
    refine s_nil ?_
    refine fin_seq ?_
    refine ok_block ?_
    refine ok_loop (fun L f m => ∃ (k : Nat) (v : Value) (out : List Sp) (fc : Cu) (ob : List Blk) (j : Nat → Value), (NotB l k v out fc ob) ∧ L = ⟨b1, (cutV fc).cells, 41⟩ :: ob ∧ f = upds j [(3, v), (4, .pointer (some ⟨b1, 0, none⟩)), (11, .slice A l.length cap), (12, .int .i64 (l.length : Int)), (13, .int .i64 (k : Int))] ∧ m = l.length - k) (l.length - 0) ⟨0, _, [], endC (-1), [], _, NotB.start l, rfl, upds_self _ ⟨by kernel_rfl, by kernel_rfl, by kernel_rfl, by kernel_rfl, by kernel_rfl, trivial⟩, rfl⟩ ?_
    rintro L f m ⟨k, v, out, fc, ob, j, hrel, rfl, rfl, rfl⟩
    have hkl := hrel.le; have hlen := hrel.len
    refine ok_seq ?_
    refine ok_region ?_
    by_cases h2 : (k : Int) < (l.length : Int)
    · skip
      have hk : k < l.length := by omega
      obtain ⟨b, off, hA, hlt, hcell⟩ := hv (by omega)
      obtain ⟨s, hs⟩ : ∃ s, l[k] = s := ⟨_, rfl⟩
      have hsk : s.short := hs ▸ hl l[k] (List.getElem_mem hk)
      refine s_dec (p := (k : Int) < (l.length : Int)) true (by kernel_rfl) (fun _ => by kernel_rfl) (decide_eq_true (h2)) ?_
      refine s_nil ?_
      refine fin_seq ?_
      refine ok_seq ?_
      refine ok_true (by kernel_rfl) ?_
      refine ok_skip ?_
      refine fin_seq ?_
      refine ok_seq ?_
      refine ok_block ?_
      refine ok_seq ?_
      refine ok_region ?_
      refine s_val (.pointer (some ⟨b, off + k * 14, none⟩)) (by kernel_rfl) (run_ixA (b := b) (off := off) (c := cap) (n := l.length) (k := .i64) (j := (k : Int)) (e := 43) (sz := 14) rfl (by kernel_rfl) hA (by kernel_rfl) (by kernel_rfl) (by kernel_rfl) (by omega) (by omega) (by omega)) ?_
      refine s_old (spanV s) (a := ⟨b, off + k * 14, none⟩) (by kernel_rfl) rfl (by kernel_rfl) (fun w hO => elem_load spanC_len (fun j u h => (hO.below.cell (p := ⟨b, off + j, none⟩) hlt).trans (hcell j u h)) k 0 hk (by omega) _ (by rw [hs]; kernel_rfl)) ?_
      refine s_alloc_at (.agg #[.int .i64 0, .int .i64 0, .int .i64 0, .int .i64 0, .string ⟨#[]⟩, .string ⟨#[]⟩, .bool false, .int .i64 0, .int .i64 0, .int .i64 0, .int .i64 0, .string ⟨#[]⟩, .string ⟨#[]⟩, .bool false]) (by kernel_rfl) rfl (by kernel_rfl) (fun b2 => ?_)
      refine s_store_at 0 ⟨b2, #[.int .i64 0, .int .i64 0, .int .i64 0, .int .i64 0, .string ⟨#[]⟩, .string ⟨#[]⟩, .bool false, .int .i64 0, .int .i64 0, .int .i64 0, .int .i64 0, .string ⟨#[]⟩, .string ⟨#[]⟩, .bool false], 43⟩ (off := 0) (spanV s) (by kernel_rfl) rfl rfl (by kernel_rfl) (by kernel_rfl) (by kernel_rfl) (by kernel_rfl) (by kernel_rfl) ?_
      refine s_nil ?_
      refine fin_seq ?_
      refine ok_seq ?_
      refine ok_region ?_
      refine s_val (v) (by kernel_rfl) (fun _ => by kernel_rfl) ?_
      refine s_load 1 ⟨b1, (cutV fc).cells, 41⟩ (off := 0) (.agg #[.int .i64 fc.e, .int .i64 fc.v.maj, .int .i64 fc.v.min, .int .i64 fc.v.pat, .string (mkS fc.v.pre), .string (mkS fc.v.build), .bool fc.aft]) (by kernel_rfl) rfl (by kernel_rfl) (by kernel_rfl) (by kernel_rfl) ?_
      refine s_val (.pointer (some ⟨b2, 0, none⟩)) (by kernel_rfl) (fun _ => by kernel_rfl) ?_
      refine s_load 0 ⟨b2, (spanV s).cells, 43⟩ (off := 0) (.agg #[.int .i64 s.lo.e, .int .i64 s.lo.v.maj, .int .i64 s.lo.v.min, .int .i64 s.lo.v.pat, .string (mkS s.lo.v.pre), .string (mkS s.lo.v.build), .bool s.lo.aft]) (by kernel_rfl) rfl (by kernel_rfl) (by kernel_rfl) (by kernel_rfl) ?_
      refine s_callo (k := 34) (args := #[v, cutV fc, cutV s.lo]) (fun v' L' => ∃ ob', L' = [⟨b2, (spanV s).cells, 43⟩, ⟨b1, (cutV fc).cells, 41⟩] ++ ob' ∧ SlS v' (addL out fc s.lo) ob') (by kernel_rfl) (fun _ => by kernel_rfl) (fun w hO => add_call (E := [⟨b2, (spanV s).cells, 43⟩, ⟨b1, (cutV fc).cells, 41⟩]) fc s.lo hO hrel.sl (by omega) hrel.short hrel.fs hsk.1) (fun v2 L2 hv2 => ?_)
      obtain ⟨ob2, rfl, hs2⟩ := hv2
      refine s_val (v2) (by kernel_rfl) (fun _ => by kernel_rfl) ?_
      refine s_nil ?_
      refine fin_seq ?_
      refine ok_region ?_
      refine s_val (.pointer (some ⟨b2, 7, none⟩)) (by kernel_rfl) (fun _ => by kernel_rfl) ?_
      refine s_load 0 ⟨b2, (spanV s).cells, 43⟩ (off := 7) (.agg #[.int .i64 s.hi.e, .int .i64 s.hi.v.maj, .int .i64 s.hi.v.min, .int .i64 s.hi.v.pat, .string (mkS s.hi.v.pre), .string (mkS s.hi.v.build), .bool s.hi.aft]) (by kernel_rfl) rfl (by kernel_rfl) (by kernel_rfl) (by kernel_rfl) ?_
      refine s_store_at 1 ⟨b1, (cutV fc).cells, 41⟩ (off := 0) (.agg #[.int .i64 s.hi.e, .int .i64 s.hi.v.maj, .int .i64 s.hi.v.min, .int .i64 s.hi.v.pat, .string (mkS s.hi.v.pre), .string (mkS s.hi.v.build), .bool s.hi.aft]) (by kernel_rfl) rfl rfl (by kernel_rfl) (by kernel_rfl) (by kernel_rfl) (by kernel_rfl) (by kernel_rfl) ?_
      refine s_nil ?_
      refine fin_block ?_
      refine fin_seq ?_
      refine ok_region ?_
      refine s_sum (k := .i64) (((k + 1 : Nat) : Int)) (by kernel_rfl) (fun _ => by kernel_rfl) (IntWalk.i64_in _ (by omega)) ?_
      refine s_val (.int .i64 ((k + 1 : Nat) : Int)) (by kernel_rfl) (fun _ => by kernel_rfl) ?_
      refine s_nil ?_
      refine fin_take (fun w hO => Own.sub [_] hO) ?_
      exact fin_round (m' := l.length - (k + 1)) (by omega) ⟨k + 1, v2, addL out fc s.lo, s.hi, ob2, _, hrel.step hk hs hsk hs2, rfl, upds_self _ ⟨by kernel_rfl, by kernel_rfl, by kernel_rfl, by kernel_rfl, by kernel_rfl, trivial⟩, rfl⟩
    · skip
      refine s_dec (p := (k : Int) < (l.length : Int)) false (by kernel_rfl) (fun _ => by kernel_rfl) (decide_eq_false (h2)) ?_
      refine s_nil ?_
      refine fin_seq ?_
      refine ok_seq ?_
      refine ok_false (by kernel_rfl) ?_
      refine ok_exit ?_
      refine fin_seq_exit ?_
      refine fin_round_exit ?_
      refine fin_block_exit ?_
      refine fin_seq ?_
      refine ok_seq ?_
      refine ok_region ?_
      refine s_val (v) (by kernel_rfl) (fun _ => by kernel_rfl) ?_
      refine s_load 0 ⟨b1, (cutV fc).cells, 41⟩ (off := 0) (.agg #[.int .i64 fc.e, .int .i64 fc.v.maj, .int .i64 fc.v.min, .int .i64 fc.v.pat, .string (mkS fc.v.pre), .string (mkS fc.v.build), .bool fc.aft]) (by kernel_rfl) rfl (by kernel_rfl) (by kernel_rfl) (by kernel_rfl) ?_
      refine s_val (.agg #[.int .i64 1, .int .i64 0, .int .i64 0, .int .i64 0, .string ⟨#[]⟩, .string ⟨#[]⟩, .bool false]) (by kernel_rfl) (fun _ => by kernel_rfl) ?_
      refine s_callo (k := 34) (args := #[v, cutV fc, cutV (endC 1)]) (fun v' L' => ∃ ob', L' = [⟨b1, (cutV fc).cells, 41⟩] ++ ob' ∧ SlS v' (addL out fc (endC 1)) ob') (by kernel_rfl) (fun _ => by kernel_rfl) (fun w hO => add_call (E := [⟨b1, (cutV fc).cells, 41⟩]) fc (endC 1) hO hrel.sl (by omega) hrel.short hrel.fs (end_short 1)) (fun v3 L2 hv2 => ?_)
      obtain ⟨ob3, rfl, hs3⟩ := hv2
      refine s_callo (k := 35) (args := #[v3]) (fun v' L' => ∃ ob', L' = [⟨b1, (cutV fc).cells, 41⟩] ++ ob' ∧ SlS v' (addL out fc (endC 1)) ob') (by kernel_rfl) (fun _ => by kernel_rfl) (fun w hO => unshare_call (E := [⟨b1, (cutV fc).cells, 41⟩]) hO hs3 (by have := add_len out fc (endC 1); omega) (add_short hrel.short hrel.fs (end_short 1))) (fun v4 L2 hv2 => ?_)
      obtain ⟨ob4, rfl, hs4⟩ := hv2
      refine s_val (v4) (by kernel_rfl) (fun _ => by kernel_rfl) ?_
      refine s_nil ?_
      refine fin_seq ?_
      refine ok_ret ?_
      refine fin_ret (v4) Tryz.results17 (by kernel_rfl) ?_
      exact fun w hO => ⟨v4, ob4, rfl, by rw [if_pos rfl, show notL l = addL out fc (endC 1) from by rw [← notG_eq h1]; unfold notG; have he := hrel.eq; rw [List.take_of_length_le (by omega)] at he; rw [he]]; exact hs4, Own.sub [_] hO⟩
  | false =>
    refine s_val (.bool true) (by kernel_rfl) (fun _ => by kernel_rfl) ?_
    refine s_nil ?_
    refine fin_seq ?_
    refine ok_true (by kernel_rfl) ?_
    refine ok_seq ?_
    refine ok_region ?_
    refine s_val (.slice none 0 0) (by kernel_rfl) (fun _ => by kernel_rfl) ?_
    refine s_nil ?_
    refine fin_seq ?_
    refine ok_ret ?_
    refine fin_seq_ret ?_
    refine fin_ret (.slice none 0 0) Tryz.results17 (by kernel_rfl) ?_
    exact fun w hO => ⟨_, [], rfl, by rw [if_neg (by decide)]; exact Sl.nil _ _, by simpa using hO⟩
end Go.Proofs.YtmlecnomdamgnaaGreat
end

section
/-
  slices.SortFunc of valid spans by their beginnings: a permutation of them, sorted. (By the library's contract of slices.SortFunc at a struct.)
-/
namespace Go.Proofs.YtmlecnomdamgnaaGreat
open Go.RowKit
set_option maxRecDepth 100000
set_option linter.unusedVariables false
set_option linter.unusedSimpArgs false
set_option maxHeartbeats 2000000


abbrev VSp := {s : Sp // s.may = true ∧ s.short}
instance : Inhabited VSp := ⟨⟨⟨endC (-1), endC 1⟩, by decide, end_short _, end_short _⟩⟩
def encV (x : VSp) : List Value := spanC x.1
def cfV (x y : VSp) : Int := cmpC x.1.lo y.1.lo
theorem swoV : Go.Sort.SWO (ltOf cfV) := by
  have ml : ∀ x : VSp, x.1.lo.may = true := fun x => (span_mays x.2.1).1
  refine ⟨fun x => ?_, fun x y z h1 h2 => ?_, fun x y z h1 h2 => ?_⟩
  · unfold ltOf cfV; rw [cut_self]; rfl
  · unfold ltOf cfV at *
    rw [decide_eq_true_eq] at *
    exact clt_trans (ml x) (ml y) (ml z) h1 h2
  · unfold ltOf cfV at *
    rw [decide_eq_false_iff_not] at *
    have := cle_trans (ml z) (ml y) (ml x) (cle_flip h2) (cle_flip h1)
    have h3 := cut_anti (a := x.1.lo) (b := z.1.lo)
    omega
theorem make1_any (s t : Sp) (W : World) (hs : s.short) (ht : t.short) :
    Calls Tryz.prog 48 #[spanV s, spanV t] W fun e w' => e = .returned (.int .i64 (cmpC s.lo t.lo)) ∧ Below W.heap.size W w' := by
  refine calls_ok (n := 10) Tryz.func48 rfl (by kernel_rfl) (by kernel_rfl) ?_
  refine ok_seq ?_
  refine ok_region ?_
  refine s_box (spanV s) (by kernel_rfl) rfl (by kernel_rfl) (fun b1 => ?_)
  refine s_box (spanV t) (by kernel_rfl) rfl (by kernel_rfl) (fun b2 => ?_)
  refine s_val (.int .i64 0) (by kernel_rfl) (fun _ => by kernel_rfl) ?_
  refine s_nil ?_
  refine fin_seq ?_
  refine ok_seq ?_
  refine ok_region ?_
  refine s_val (.pointer (some ⟨b1, 0, none⟩)) (by kernel_rfl) (fun _ => by kernel_rfl) ?_
  refine s_load 1 ⟨b1, (spanV s).cells, 43⟩ (off := 0) (.agg #[.int .i64 s.lo.e, .int .i64 s.lo.v.maj, .int .i64 s.lo.v.min, .int .i64 s.lo.v.pat, .string (mkS s.lo.v.pre), .string (mkS s.lo.v.build), .bool s.lo.aft]) (by kernel_rfl) rfl (by kernel_rfl) (by kernel_rfl) (by kernel_rfl) ?_
  refine s_val (.pointer (some ⟨b2, 0, none⟩)) (by kernel_rfl) (fun _ => by kernel_rfl) ?_
  refine s_load 0 ⟨b2, (spanV t).cells, 43⟩ (off := 0) (.agg #[.int .i64 t.lo.e, .int .i64 t.lo.v.maj, .int .i64 t.lo.v.min, .int .i64 t.lo.v.pat, .string (mkS t.lo.v.pre), .string (mkS t.lo.v.build), .bool t.lo.aft]) (by kernel_rfl) rfl (by kernel_rfl) (by kernel_rfl) (by kernel_rfl) ?_
  refine s_call (k := 42) (args := #[.agg #[.int .i64 s.lo.e, .int .i64 s.lo.v.maj, .int .i64 s.lo.v.min, .int .i64 s.lo.v.pat, .string (mkS s.lo.v.pre), .string (mkS s.lo.v.build), .bool s.lo.aft], .agg #[.int .i64 t.lo.e, .int .i64 t.lo.v.maj, .int .i64 t.lo.v.min, .int .i64 t.lo.v.pat, .string (mkS t.lo.v.pre), .string (mkS t.lo.v.build), .bool t.lo.aft]]) (.int .i64 (cmpC s.lo t.lo)) (by kernel_rfl) (fun _ => by kernel_rfl) (fun w _ => cmpC_any s.lo t.lo w hs.1 ht.1) ?_
  refine s_val (.int .i64 (cmpC s.lo t.lo)) (by kernel_rfl) (fun _ => by kernel_rfl) ?_
  refine s_nil ?_
  refine fin_seq ?_
  refine ok_ret ?_
  refine fin_ret (.int .i64 (cmpC s.lo t.lo)) Tryz.results48 (by kernel_rfl) ?_
  exact fun w hO => ⟨rfl, hO.below⟩
theorem lays4 (blk off size : Nat) (w : World) : CmpLays Tryz.prog 48 #[] encV 14 cfV blk off size w := fun m os dk _ x y =>
  (make1_any x.1 y.1 _ x.2.2 y.2.2).mono fun e w' ⟨h1, h2⟩ => ⟨h1, h2.asGrow⟩
theorem flatK_list (d : Array VSp) : (Go.Sort.flatK encV 14 d).toList = d.toList.flatMap encV := by
  apply List.ext_getElem?
  intro t
  have hlen : (d.toList.flatMap encV).length = d.size * 14 := by rw [flat_len (g := encV) (sz := 14) (fun x : VSp => spanC_len x.1)]; simp
  by_cases ht : t < d.size * 14
  · have hk : t / 14 < d.toList.length := by simp; omega
    have h1 : (Go.Sort.flatK encV 14 d).toList[t]? = some (Go.Sort.flatK encV 14 d)[t]! := by
      rw [getElem!_pos _ t (by simpa using ht), Array.getElem?_toList, Array.getElem?_eq_getElem (by simpa using ht)]
    have h2 := flat_at (g := encV) (sz := 14) (fun x : VSp => spanC_len x.1) d.toList (t / 14) hk
    have h3 : (d.toList.flatMap encV)[t]? = (encV d.toList[t / 14])[t % 14]? := by
      have e : t = t / 14 * 14 + t % 14 := by omega
      have hm : t % 14 < 14 := Nat.mod_lt _ (by decide)
      rw [← h2, List.getElem?_take, if_pos hm, List.getElem?_drop, ← e]
    rw [h1, h3, Go.Sort.get_flatK encV 14 d t ht]
    have hd : d[t / 14]! = d.toList[t / 14] := by rw [getElem!_pos d (t / 14) (by simpa using hk)]; simp
    have hlt : t % 14 < (encV d.toList[t / 14]).length := by rw [show (encV d.toList[t / 14]).length = 14 from spanC_len _]; exact Nat.mod_lt _ (by decide)
    rw [hd, List.getElem?_eq_getElem hlt, getElem!_pos (encV d.toList[t / 14]) (t % 14) hlt]
  · rw [List.getElem?_eq_none (by simpa using Nat.le_of_not_lt ht), List.getElem?_eq_none (by rw [hlen]; omega)]
theorem take_put (cur F : Array Value) (h : F.size ≤ cur.size) : (Go.Sort.putCells id 0 F cur).toList.take F.size = F.toList := by
  apply List.ext_getElem?
  intro j
  by_cases hj : j < F.size
  · rw [List.getElem?_take_of_lt hj, Array.getElem?_toList]
    simp [Go.Sort.putCells, hj, show j < cur.size by omega]
  · rw [List.getElem?_take_eq_none (by omega), List.getElem?_eq_none (by simp; omega)]
theorem size_put (cur F : Array Value) : (Go.Sort.putCells id 0 F cur).size = cur.size := by simp [Go.Sort.putCells]
theorem perm_val {l m : List VSp} (h : l.Perm m) : (l.map (·.1)).Perm (m.map (·.1)) := h.map _
theorem sorted_of (l : List VSp) (h : ∀ i j (hi : i < j) (hj : j < l.length), ¬ cmpC l[j].1.lo (l[i]'(by omega)).1.lo < 0) : SortedC (l.map (·.1)) := by
  induction l with
  | nil => trivial
  | cons s r ih =>
    refine ⟨fun t ht => ?_, ih fun i j hi hj => h (i + 1) (j + 1) (by omega) (by simpa using hj)⟩
    obtain ⟨y, hy, rfl⟩ := List.mem_map.1 ht
    obtain ⟨j, hj, rfl⟩ := List.mem_iff_getElem.1 hy
    exact cle_flip (h 0 (j + 1) (by omega) (by simpa using hj))
theorem lift_list (l : List Sp) (hm : ∀ s ∈ l, s.may = true ∧ s.short) : ∃ m : List VSp, m.map (·.1) = l := by
  induction l with
  | nil => exact ⟨[], rfl⟩
  | cons s r ih =>
    obtain ⟨m, e⟩ := ih (fun t ht => hm t (List.mem_cons_of_mem _ ht))
    exact ⟨⟨s, hm s (List.mem_cons_self ..)⟩ :: m, by rw [List.map_cons, e]⟩
theorem sort_any (g cap : Nat) (cur : Array Value) (l : List Sp) (W : World) (hm : ∀ s ∈ l, s.may = true ∧ s.short) (hO : Own [g] W W [⟨g, cur, 43⟩]) (hcap : l.length ≤ cap) (hmax : cap ≤ maxLen) (hsz : cur.size = cap * 14) (hcur : cur.toList.take (l.length * 14) = l.flatMap spanC) (hn : l.length ≤ 1000000) :
    Calls Tryz.prog 47 #[.slice (some ⟨g, 0, none⟩) l.length cap, .func (.func 48) #[] #[]] W fun e w' =>
      e = .returned (.tuple #[]) ∧ ∃ l' cur', l'.Perm l ∧ SortedC l' ∧ cur'.size = cap * 14 ∧ cur'.toList.take (l.length * 14) = l'.flatMap spanC ∧ Own [g] W w' [⟨g, cur', 43⟩] := by
  obtain ⟨m, rfl⟩ := lift_list l hm
  have hlen : (m.map (·.1)).length = m.toArray.size := by simp
  have hg : W.heap[g]? = some (.cells cur 43) := hO.held _ List.mem_cons_self
  have hglt : g < W.heap.size := hO.lt (x := ⟨g, cur, 43⟩) List.mem_cons_self
  have hflat : (m.map (·.1)).flatMap spanC = m.flatMap encV := by rw [List.flatMap_map]; rfl
  have hH : Go.Sort.HoldsK encV 14 W g 0 m.toArray := by
    intro j hj
    have hj' : j < m.length * 14 := by simpa using hj
    have e : (Go.Sort.flatK encV 14 m.toArray).toList[j]? = cur.toList[j]? := by
      rw [flatK_list, show m.toArray.toList = m from by simp, ← hflat, ← hcur, List.getElem?_take, if_pos (by simpa using hj')]
    have e2 : cur[j]? = some (Go.Sort.flatK encV 14 m.toArray)[j]! := by
      rw [← Array.getElem?_toList, ← e, Array.getElem?_toList, Array.getElem?_eq_getElem hj, getElem!_pos _ j hj]
    refine ⟨?_, by simp [World.frozen?, hg]⟩
    simp only [World.cell?, hg, Nat.zero_add]
    simpa using e2
  have hcon := Tryz.slices_SortFunc 14 Tryz.isAgg43 Tryz.sizeOf43 encV (fun x => spanC_len x.1) (fun x v hv => span_cells x.1 v hv) cfV swoV 48 #[] g 0 cap m.toArray W
    (enters_of Tryz.func48 (by kernel_rfl) rfl) (lays4 g 0 m.toArray.size W) hH hglt (by simp at hlen ⊢; rw [List.length_map] at hn; omega)
  rw [hlen]
  change Calls Tryz.prog 47 _ _ _ at hcon
  refine hcon.mono fun e w' ⟨he, d', n, os, hp, hs, hw⟩ => ⟨he, d'.toList.map (·.1), Go.Sort.putCells id 0 (Go.Sort.flatK encV 14 d') cur, ?_, ?_, ?_, ?_, ?_⟩
  · have h2 := hp.2.2
    have hsz2 := hp.1
    rw [show d'.extract 0 m.toArray.size = d' from by rw [← hsz2]; simp, show m.toArray.extract 0 m.toArray.size = m.toArray from by simp] at h2
    have := perm_val h2
    simpa using this
  · refine sorted_of _ fun i j hi hj => ?_
    have hj' : j < d'.size := by simpa using hj
    have := hs i j (Nat.zero_le _) hi (by rw [← hp.1]; exact hj')
    unfold ltOf cfV at this
    rw [decide_eq_false_iff_not, getElem!_pos d' j hj', getElem!_pos d' i (by omega)] at this
    simpa using this
  · rw [size_put]; exact hsz
  · have hF : (Go.Sort.flatK encV 14 d').size = m.toArray.size * 14 := by rw [Go.Sort.size_flatK, hp.1]
    have := take_put cur (Go.Sort.flatK encV 14 d') (by rw [hF, hsz, ← hlen]; exact Nat.mul_le_mul_right _ hcap)
    rw [hF, flatK_list] at this
    rw [this, List.flatMap_map]; rfl
  · subst hw
    have hheap : ∀ k, k < W.heap.size → (sortWorldK encV 14 W g 0 n d' os).heap[k]? = (Go.Sort.putRowK encV 14 (Go.Sort.ahead W n) g 0 d').heap[k]? := fun k hk => by
      show ((Go.Sort.putRowK encV 14 (Go.Sort.ahead W n) g 0 d').heap ++ os)[k]? = _
      rw [Array.getElem?_append_left (by rw [Go.Sort.size_putRowK]; exact hk)]
    refine ⟨rfl, rfl, rfl, ?_, Nat.le_add_right _ _, fun k hk hne => ?_, fun x hx => ?_, fun x hx => .inr (by rw [List.mem_singleton] at hx; rw [hx]; exact List.mem_singleton_self _), by simp⟩
    · show W.heap.size ≤ ((Go.Sort.putRowK encV 14 (Go.Sort.ahead W n) g 0 d').heap ++ os).size
      rw [Array.size_append, Go.Sort.size_putRowK]; exact Nat.le_add_right _ _
    · rw [hheap k hk]
      have hne' : g ≠ k := fun e => hne (by simp [e])
      simp [Go.Sort.putRowK, Go.Sort.putRow, Go.Sort.mapBlock, Go.Sort.ahead, Array.getElem?_modify, hne']
    · obtain rfl : x = _ := by simpa using hx
      show (sortWorldK encV 14 W g 0 n d' os).heap[g]? = _
      rw [hheap g hglt]
      simp [Go.Sort.putRowK, Go.Sort.putRow, Go.Sort.mapBlock, Go.Sort.ahead, Array.getElem?_modify, hg, Go.Sort.onCells]
end Go.Proofs.YtmlecnomdamgnaaGreat
end

section
/-
  slices.Clone of spans; the sort, of a caller that holds other blocks; package row's Make.
-/
namespace Go.Proofs.YtmlecnomdamgnaaGreat
open Go.RowKit
set_option maxRecDepth 100000
set_option linter.unusedVariables false
set_option linter.unusedSimpArgs false
set_option maxHeartbeats 2000000


theorem clone4_any (A : Option Addr) (cap : Nat) (l : List Sp) (W : World) (hv : Reads spanC W W.heap.size A l) (hn : l.length ≤ 1000000) :
    Calls Tryz.prog 46 #[.slice A l.length cap] W fun e w' => ∃ v' ob', e = .returned v' ∧ SlS v' l ob' ∧ Own [] W w' ob' := by
  cases A with
  | none =>
    obtain rfl : l = [] := by
      cases l with
      | nil => rfl
      | cons x r => obtain ⟨b, off, e, _⟩ := hv (by simp); cases e
    refine calls_ok (n := 8) Tryz.func46 rfl (by kernel_rfl) (by kernel_rfl) ?_
    refine ok_seq ?_
    refine ok_region ?_
    refine s_val (.slice none 0 0) (by kernel_rfl) (fun _ => by kernel_rfl) ?_
    refine s_nil ?_
    refine fin_seq ?_
    refine ok_seq ?_
    refine ok_seq ?_
    refine ok_region ?_
    refine s_val (.slice none (([] : List Sp).length) cap) (by kernel_rfl) (fun _ => by kernel_rfl) ?_
    refine s_val (.bool true) (by kernel_rfl) (fun _ => by kernel_rfl) ?_
    refine s_nil ?_
    refine fin_seq ?_
    refine ok_true (by kernel_rfl) ?_
    refine ok_seq ?_
    refine ok_region ?_
    refine s_val (.slice none 0 0) (by kernel_rfl) (fun _ => by kernel_rfl) ?_
    refine s_nil ?_
    refine fin_seq ?_
    refine ok_ret ?_
    refine fin_seq_ret ?_
    refine fin_ret (.slice none 0 0) Tryz.results46 (by kernel_rfl) ?_
    exact fun w hO => ⟨_, [], rfl, Sl.nil _ _, by simpa using hO⟩
  | some a =>
    refine calls_ok (n := 8) Tryz.func46 rfl (by kernel_rfl) (by kernel_rfl) ?_
    refine ok_seq ?_
    refine ok_region ?_
    refine s_val (.slice none 0 0) (by kernel_rfl) (fun _ => by kernel_rfl) ?_
    refine s_nil ?_
    refine fin_seq ?_
    refine ok_seq ?_
    refine ok_seq ?_
    refine ok_region ?_
    refine s_val (.slice (some a) l.length cap) (by kernel_rfl) (fun _ => by kernel_rfl) ?_
    refine s_val (.bool false) (by kernel_rfl) (fun _ => by kernel_rfl) ?_
    refine s_nil ?_
    refine fin_seq ?_
    refine ok_false (by kernel_rfl) ?_
    refine ok_skip ?_
    refine fin_seq ?_
    refine ok_seq ?_
    refine ok_region ?_
    refine s_lit 43 #[] (by kernel_rfl) rfl (fun _ => by kernel_rfl) (fun b1 => ?_)
    refine s_val (.slice (some a) l.length cap) (by kernel_rfl) (fun _ => by kernel_rfl) ?_
    obtain ⟨i, z, e1, e2, e3, e4, e5⟩ := span_info
    refine s_cast (L' := [] ++ [⟨b1, #[], 43⟩] ++ []) rfl ?_
    refine s_appendR (E := []) (ob := [⟨b1, #[], 43⟩]) (L0 := []) (sz := 14) (l := l) (A := some a) (c := cap) (n := 0) (xs := []) spanC_len (by kernel_rfl) rfl Tryz.underlying22 e1 e2 e3 e4 (by kernel_rfl) ⟨rfl, .inr ⟨b1, 0, #[], rfl, rfl, Nat.le_refl _, Nat.zero_le _, rfl, rfl⟩⟩ (by kernel_rfl) (fun w hO => hv.on hO.below hO.size) span_cells (by unfold maxLen; omega) (by rw [e5]; omega) (fun va oa hva => ?_)
    refine s_val (va) (by kernel_rfl) (fun _ => by kernel_rfl) ?_
    refine s_nil ?_
    refine fin_seq ?_
    refine ok_ret ?_
    refine fin_ret (va) Tryz.results46 (by kernel_rfl) ?_
    exact fun w hO => ⟨va, oa, rfl, hva.to (by simp) (by simp), by simpa using hO⟩
theorem sort_call {M : List Nat} {W w : World} {v : Value} {l : List Sp} {E ob : List Blk} (hO : Own M W w (E ++ ob)) (hv : SlS v l ob) (hn : l.length ≤ 1000000) (hm : ∀ s ∈ l, s.may = true ∧ s.short) :
    Calls Tryz.prog 47 #[v, .func (.func 48) #[] #[]] w fun e w' => ∃ v' L', e = .returned v' ∧ (∃ l' ob', v' = .tuple #[] ∧ L' = E ++ ob' ∧ l'.Perm l ∧ SortedC l' ∧ SlS v l' ob') ∧ Own M W w' L' := by
  obtain ⟨A, cap, rfl⟩ := hv.form
  by_cases h0 : l.length = 0
  · obtain rfl : l = [] := List.eq_nil_of_length_eq_zero h0
    have h := Tryz.slices_SortFunc_none (α := Nat) A cap (.func (.func 48) #[] #[]) w
    change Calls Tryz.prog 47 _ _ _ at h
    exact h.mono fun e w' ⟨h1, h2⟩ => ⟨_, E ++ ob, h1, ⟨[], ob, rfl, rfl, List.Perm.refl _, trivial, hv⟩, h2 ▸ hO⟩
  · unfold SlS at hv
    obtain ⟨g, cur, rfl, rfl, hcap, hmax, hsz, hcur⟩ := hv.block (by omega)
    refine (sort_any g cap cur l w hm (Own.lend (hO.sub E)) hcap hmax hsz hcur hn).mono fun e w' ⟨h1, l', cur', h2, h3, h4, h5, h6⟩ => ⟨_, E ++ [⟨g, cur', 43⟩], h1, ⟨l', _, rfl, rfl, h2, h3, ?_⟩, ?_⟩
    · unfold SlS
      have hl := h2.length_eq
      rw [← hl] at h5 hcap ⊢
      exact ⟨by rw [flat_len spanC_len], .inr ⟨g, cap, cur', rfl, rfl, hcap, hmax, h4, h5⟩⟩
    · have hp : Own M W w ([⟨g, cur, 43⟩] ++ E) := hO.perm List.perm_append_comm
      exact (Own.join hp h6).perm List.perm_append_comm
structure Merged (d : List Sp) (k : Nat) (V : Option Addr) (c : Nat) (out : List Sp) (ob : List Blk) : Prop where
  le : k ≤ d.length
  sl : Sl 43 14 (.slice V out.length c) out.length (out.flatMap spanC) ob
  len : out.length ≤ k
  short : ShortL out
  eq : (d.take k).foldl mstep [] = out
theorem Merged.start (d : List Sp) : Merged d 0 none 0 [] [] := ⟨Nat.zero_le _, Sl.nil _ _, Nat.le_refl _, fun s hs => by simp at hs, by rw [List.take_zero]; rfl⟩
theorem mstep_app {out : List Sp} {s : Sp} (h : ∀ t ∈ out.getLast?, cmpC t.hi s.lo < 0) : mstep out s = out ++ [s] := by
  unfold mstep
  cases hg : out.getLast? with
  | none => have : out = [] := by simpa using hg
            subst this; rfl
  | some t => dsimp only; rw [if_pos (h t hg)]
theorem mstep_set {out : List Sp} {s t : Sp} (h0 : 0 < out.length) (ht : out[out.length - 1]'(by omega) = t) (h : ¬ cmpC t.hi s.lo < 0) : mstep out s = out.set (out.length - 1) ⟨t.lo, maxC t.hi s.hi⟩ := by
  have hg : out.getLast? = some t := by rw [List.getLast?_eq_getElem?, List.getElem?_eq_getElem (by omega), ht]
  unfold mstep
  rw [hg]
  dsimp only
  rw [if_neg h, List.dropLast_eq_take, List.set_eq_take_append_cons_drop, if_pos (by omega), List.drop_of_length_le (by omega)]
theorem mstep_short {out : List Sp} {s : Sp} (ho : ShortL out) (hs : s.short) : ShortL (mstep out s) := by
  unfold mstep
  split
  · intro x hx; obtain rfl : x = _ := by simpa using hx
    exact hs
  · rename_i t ht
    split
    · intro x hx
      rcases List.mem_append.1 hx with h | h
      · exact ho x h
      · obtain rfl : x = _ := by simpa using h
        exact hs
    · intro x hx
      rcases List.mem_append.1 hx with h | h
      · exact ho x (List.dropLast_subset _ h)
      · obtain rfl : x = _ := by simpa using h
        exact ⟨(ho t (List.mem_of_getLast? ht)).1, maxC_short (ho t (List.mem_of_getLast? ht)).2 hs.2⟩
theorem Merged.step {d : List Sp} {k : Nat} {V V2 : Option Addr} {c c2 : Nat} {out out2 : List Sp} {ob ob2 : List Blk} (h : Merged d k V c out ob) (hk : k < d.length) {s : Sp} (hs : d[k] = s) (hss : s.short) (he : mstep out s = out2) (h2 : Sl 43 14 (.slice V2 out2.length c2) out2.length (out2.flatMap spanC) ob2) : Merged d (k + 1) V2 c2 out2 ob2 :=
  ⟨by omega, h2, by have := h.len; have := mstep_len out s; rw [he] at this; omega, he ▸ mstep_short h.short hss, by rw [List.take_succ_eq_append_getElem hk, List.foldl_append, h.eq, hs]; exact he⟩
end Go.Proofs.YtmlecnomdamgnaaGreat
end

section
/-
  Package row's Make.
-/
namespace Go.Proofs.YtmlecnomdamgnaaGreat
open Go.RowKit
set_option maxRecDepth 100000
set_option linter.unusedVariables false
set_option linter.unusedSimpArgs false
set_option maxHeartbeats 2000000


set_option maxHeartbeats 4000000 in
theorem make4_any (A : Option Addr) (cap : Nat) (l : List Sp) (W : World) (hv : Reads spanC W W.heap.size A l) (hn : l.length ≤ 300000) (hl : ShortL l) :
    Calls Tryz.prog 26 #[.slice A l.length cap] W fun e w' => ∃ v' ob', e = .returned (.tuple #[v', .bool (allMay l)]) ∧ SlS v' (if allMay l then makeL l else []) ob' ∧ Own [] W w' ob' := by
  refine calls_ok (n := 69) Tryz.func26 rfl (by kernel_rfl) (by kernel_rfl) ?_
  refine ok_seq ?_
  refine ok_region ?_
  refine s_val (.slice none 0 0) (by kernel_rfl) (fun _ => by kernel_rfl) ?_
  refine s_val (.bool false) (by kernel_rfl) (fun _ => by kernel_rfl) ?_
  refine s_nil ?_
  refine fin_seq ?_
  refine ok_seq ?_
  refine ok_seq ?_
  refine ok_region ?_
  refine s_val (.slice A l.length cap) (by kernel_rfl) (fun _ => by kernel_rfl) ?_
  refine s_val (.int .i64 (l.length : Int)) (by kernel_rfl) (fun _ => by kernel_rfl) ?_
  refine s_val (.int .i64 0) (by kernel_rfl) (fun _ => by kernel_rfl) ?_
  refine s_nil ?_
  refine fin_seq ?_
  refine ok_block ?_
  refine ok_loop (fun L f m => ∃ (k : Nat) (j : Nat → Value), (k ≤ l.length ∧ allMay (l.take k) = true) ∧ L = [] ∧ f = upds j [(0, .slice A l.length cap), (11, .slice A l.length cap), (12, .int .i64 (l.length : Int)), (13, .int .i64 (k : Int))] ∧ m = l.length - k) (l.length - 0) ⟨0, _, ⟨Nat.zero_le _, by rw [List.take_zero]; rfl⟩, rfl, upds_self _ ⟨by kernel_rfl, by kernel_rfl, by kernel_rfl, by kernel_rfl, trivial⟩, rfl⟩ ?_
  rintro L f m ⟨k, j, hrel, rfl, rfl, rfl⟩
  have hkl := hrel.1
  refine ok_seq ?_
  refine ok_region ?_
  by_cases h1 : (k : Int) < (l.length : Int)
  · skip
    have hk : k < l.length := by omega
    obtain ⟨b, off, hA, hlt, hcell⟩ := hv (by omega)
    obtain ⟨s, hs⟩ : ∃ s, l[k] = s := ⟨_, rfl⟩
    have hsk : s.short := hs ▸ hl _ (List.getElem_mem _)
    refine s_dec (p := (k : Int) < (l.length : Int)) true (by kernel_rfl) (fun _ => by kernel_rfl) (decide_eq_true (h1)) ?_
    refine s_nil ?_
    refine fin_seq ?_
    refine ok_seq ?_
    refine ok_true (by kernel_rfl) ?_
    refine ok_skip ?_
    refine fin_seq ?_
    refine ok_seq ?_
    refine ok_block ?_
    refine ok_seq ?_
    refine ok_region ?_
    refine s_val (.pointer (some ⟨b, off + k * 14, none⟩)) (by kernel_rfl) (run_ixA (b := b) (off := off) (c := cap) (n := l.length) (k := .i64) (j := (k : Int)) (e := 43) (sz := 14) rfl (by kernel_rfl) hA (by kernel_rfl) (by kernel_rfl) (by kernel_rfl) (by omega) (by omega) (by omega)) ?_
    refine s_old (spanV s) (a := ⟨b, off + k * 14, none⟩) (by kernel_rfl) rfl (by kernel_rfl) (fun w hO => elem_load spanC_len (fun j u h => (hO.below.cell (p := ⟨b, off + j, none⟩) hlt).trans (hcell j u h)) k 0 hk (by omega) _ (by rw [hs]; kernel_rfl)) ?_
    refine s_alloc_at (.agg #[.int .i64 0, .int .i64 0, .int .i64 0, .int .i64 0, .string ⟨#[]⟩, .string ⟨#[]⟩, .bool false, .int .i64 0, .int .i64 0, .int .i64 0, .int .i64 0, .string ⟨#[]⟩, .string ⟨#[]⟩, .bool false]) (by kernel_rfl) rfl (by kernel_rfl) (fun b1 => ?_)
    refine s_store_at 0 ⟨b1, #[.int .i64 0, .int .i64 0, .int .i64 0, .int .i64 0, .string ⟨#[]⟩, .string ⟨#[]⟩, .bool false, .int .i64 0, .int .i64 0, .int .i64 0, .int .i64 0, .string ⟨#[]⟩, .string ⟨#[]⟩, .bool false], 43⟩ (off := 0) (spanV s) (by kernel_rfl) rfl rfl (by kernel_rfl) (by kernel_rfl) (by kernel_rfl) (by kernel_rfl) (by kernel_rfl) ?_
    refine s_nil ?_
    refine fin_seq ?_
    refine ok_seq ?_
    refine ok_region ?_
    refine s_load 0 ⟨b1, (spanV s).cells, 43⟩ (off := 0) (spanV s) (by kernel_rfl) rfl (by kernel_rfl) (by kernel_rfl) (by kernel_rfl) ?_
    refine s_call (k := 41) (args := #[spanV s]) (.bool s.may) (by kernel_rfl) (fun _ => by kernel_rfl) (fun w _ => spanMay_any s w hsk) ?_
    cases h2 : s.may with
    | true =>
      refine s_val (.bool false) (by kernel_rfl) (fun _ => by kernel_rfl) ?_
      refine s_nil ?_
      refine fin_seq ?_
      refine ok_false (by kernel_rfl) ?_
      refine ok_skip ?_
      refine fin_block ?_
      refine fin_seq ?_
      refine ok_region ?_
      refine s_sum (k := .i64) (((k + 1 : Nat) : Int)) (by kernel_rfl) (fun _ => by kernel_rfl) (IntWalk.i64_in _ (by omega)) ?_
      refine s_val (.int .i64 ((k + 1 : Nat) : Int)) (by kernel_rfl) (fun _ => by kernel_rfl) ?_
      refine s_nil ?_
      have hnext : allMay (l.take (k + 1)) = true := allMay_take l k hk hrel.2 (by rw [hs]; assumption)
      refine fin_take (fun w hO => Own.sub [_] hO) ?_
      exact fin_round (m' := l.length - (k + 1)) (by omega) ⟨k + 1, _, ⟨by omega, hnext⟩, rfl, upds_self _ ⟨by kernel_rfl, by kernel_rfl, by kernel_rfl, by kernel_rfl, trivial⟩, rfl⟩
    | false =>
      refine s_val (.bool true) (by kernel_rfl) (fun _ => by kernel_rfl) ?_
      refine s_nil ?_
      refine fin_seq ?_
      refine ok_true (by kernel_rfl) ?_
      refine ok_seq ?_
      refine ok_region ?_
      refine s_val (.slice none 0 0) (by kernel_rfl) (fun _ => by kernel_rfl) ?_
      refine s_val (.bool false) (by kernel_rfl) (fun _ => by kernel_rfl) ?_
      refine s_nil ?_
      refine fin_seq ?_
      refine ok_ret ?_
      refine fin_block_ret ?_
      refine fin_seq_ret ?_
      refine fin_round_ret ?_
      refine fin_block_ret ?_
      refine fin_seq_ret ?_
      refine fin_ret2 (.slice none 0 0) (.bool false) Tryz.results26 (by kernel_rfl) (by kernel_rfl) ?_
      exact fun w hO => ⟨_, [], by rw [allMay_not l k hk (by rw [hs]; assumption)], by rw [allMay_not l k hk (by rw [hs]; assumption), if_neg (by decide)]; exact Sl.nil _ _, Own.take hO (by simp) (by simp)⟩
  · skip
    have hall : allMay l = true := by have h := hrel.2; rwa [List.take_of_length_le (by omega)] at h
    refine s_dec (p := (k : Int) < (l.length : Int)) false (by kernel_rfl) (fun _ => by kernel_rfl) (decide_eq_false (h1)) ?_
    refine s_nil ?_
    refine fin_seq ?_
    refine ok_seq ?_
    refine ok_false (by kernel_rfl) ?_
    refine ok_exit ?_
    refine fin_seq_exit ?_
    refine fin_round_exit ?_
    refine fin_block_exit ?_
    refine fin_seq ?_
    refine ok_seq ?_
    refine ok_region ?_
    refine s_val (.slice A l.length cap) (by kernel_rfl) (fun _ => by kernel_rfl) ?_
    refine s_callo (k := 46) (args := #[.slice A l.length cap]) (fun v' L' => SlS v' l L') (by kernel_rfl) (fun _ => by kernel_rfl) (fun w hO => (clone4_any A cap l w (hv.on hO.below hO.size) (by omega)).mono fun e w' ⟨v', ob', h1, h2, h3⟩ => ⟨v', ob', h1, h2, by simpa using Own.joinN hO h3⟩) (fun cv oc hcv => ?_)
    obtain ⟨B, capb, rfl⟩ := hcv.form
    refine s_val (.slice B l.length capb) (by kernel_rfl) (fun _ => by kernel_rfl) ?_
    refine s_nil ?_
    refine fin_seq ?_
    refine ok_seq ?_
    refine ok_region ?_
    refine s_val (.slice B l.length capb) (by kernel_rfl) (fun _ => by kernel_rfl) ?_
    refine s_callo (k := 47) (args := #[.slice B l.length capb, .func (.func 48) #[] #[]]) (fun v' L' => ∃ l', v' = .tuple #[] ∧ l'.Perm l ∧ SortedC l' ∧ SlS (.slice B l.length capb) l' L') (by kernel_rfl) (fun _ => by kernel_rfl) (fun w hO => (sort_call (E := []) hO hcv (by omega) (fun s hs => ⟨allMay_mem.1 hall s hs, hl s hs⟩)).mono fun e w' ⟨v', L', k1, ⟨l', ob', k2, k3, k4, k5, k6⟩, k7⟩ => ⟨v', L', k1, ⟨l', k2, k4, k5, by subst k3; exact k6⟩, k7⟩) (fun v5 od hv5 => ?_)
    obtain ⟨d, rfl, hdp, hdso, hds⟩ := hv5
    have hdl : d.length = l.length := hdp.length_eq
    have hdm : ∀ s ∈ d, s.may = true ∧ s.short := fun s hs => ⟨allMay_mem.1 hall s (hdp.mem_iff.1 hs), hl s (hdp.mem_iff.1 hs)⟩
    unfold SlS at hds
    rw [← hdl] at hds ⊢
    refine s_cast (L' := od ++ []) (by simp) ?_
    refine s_nil ?_
    refine fin_seq ?_
    refine ok_seq ?_
    refine ok_region ?_
    refine s_val (.slice none 0 0) (by kernel_rfl) (fun _ => by kernel_rfl) ?_
    refine s_nil ?_
    refine fin_seq ?_
    refine ok_seq ?_
    refine ok_seq ?_
    refine ok_region ?_
    refine s_val (.slice B d.length capb) (by kernel_rfl) (fun _ => by kernel_rfl) ?_
    refine s_val (.int .i64 (d.length : Int)) (by kernel_rfl) (fun _ => by kernel_rfl) ?_
    refine s_val (.int .i64 0) (by kernel_rfl) (fun _ => by kernel_rfl) ?_
    refine s_nil ?_
    refine fin_seq ?_
    refine ok_block ?_
    refine ok_loop (fun L f m => ∃ (k : Nat) (V : Option Addr) (q : Nat) (cv : Nat) (out : List Sp) (ob : List Blk) (j : Nat → Value), (q = out.length ∧ Merged d k V cv out ob) ∧ L = od ++ ob ∧ f = upds j [(7, .slice V q cv), (25, .slice B d.length capb), (26, .int .i64 (d.length : Int)), (27, .int .i64 (k : Int))] ∧ m = d.length - k) (d.length - 0) ⟨0, none, 0, 0, [], [], _, ⟨rfl, Merged.start d⟩, rfl, upds_self _ ⟨by kernel_rfl, by kernel_rfl, by kernel_rfl, by kernel_rfl, trivial⟩, rfl⟩ ?_
    rintro L f m ⟨k, V, q, cv, out, ob, j, hrel, rfl, rfl, rfl⟩
    obtain ⟨hq, hrel⟩ := hrel; subst hq; have hkl := hrel.le; have hlen := hrel.len
    refine ok_seq ?_
    refine ok_region ?_
    by_cases h3 : (k : Int) < (d.length : Int)
    · skip
      have hk : k < d.length := by omega
      obtain ⟨gb, curb, hB, rfl, hcapb, hmaxb, hszb, hcurb⟩ := Sl.block hds (by omega)
      obtain ⟨s, hs⟩ : ∃ s, d[k] = s := ⟨_, rfl⟩
      have hsk : s.short := (hdm s (hs ▸ List.getElem_mem _)).2
      refine s_dec (p := (k : Int) < (d.length : Int)) true (by kernel_rfl) (fun _ => by kernel_rfl) (decide_eq_true (h3)) ?_
      refine s_nil ?_
      refine fin_seq ?_
      refine ok_seq ?_
      refine ok_true (by kernel_rfl) ?_
      refine ok_skip ?_
      refine fin_seq ?_
      refine ok_seq ?_
      refine ok_block ?_
      refine ok_seq ?_
      refine ok_region ?_
      refine s_val (.pointer (some ⟨gb, k * 14, none⟩)) (by kernel_rfl) (run_ixA (b := gb) (off := 0) (c := capb) (n := d.length) (k := .i64) (j := (k : Int)) (e := 43) (sz := 14) rfl (by kernel_rfl) hB (by kernel_rfl) (by kernel_rfl) (by kernel_rfl) (by omega) (by omega) (by show 0 + k * 14 = k * 14; omega)) ?_
      refine s_load 0 ⟨gb, curb, 43⟩ (off := k * 14) (spanV s) (by kernel_rfl) rfl (by kernel_rfl) (by kernel_rfl) (read_part spanC_len hcurb k 0 (by omega) (by omega) _ (by rw [hs]; kernel_rfl)) ?_
      refine s_alloc_at (.agg #[.int .i64 0, .int .i64 0, .int .i64 0, .int .i64 0, .string ⟨#[]⟩, .string ⟨#[]⟩, .bool false, .int .i64 0, .int .i64 0, .int .i64 0, .int .i64 0, .string ⟨#[]⟩, .string ⟨#[]⟩, .bool false]) (by kernel_rfl) rfl (by kernel_rfl) (fun b1 => ?_)
      refine s_store_at 0 ⟨b1, #[.int .i64 0, .int .i64 0, .int .i64 0, .int .i64 0, .string ⟨#[]⟩, .string ⟨#[]⟩, .bool false, .int .i64 0, .int .i64 0, .int .i64 0, .int .i64 0, .string ⟨#[]⟩, .string ⟨#[]⟩, .bool false], 43⟩ (off := 0) (spanV s) (by kernel_rfl) rfl rfl (by kernel_rfl) (by kernel_rfl) (by kernel_rfl) (by kernel_rfl) (by kernel_rfl) ?_
      refine s_nil ?_
      refine fin_seq ?_
      refine ok_seq ?_
      refine ok_region ?_
      refine s_val (.slice V out.length cv) (by kernel_rfl) (fun _ => by kernel_rfl) ?_
      refine s_val (.int .i64 (out.length : Int)) (by kernel_rfl) (fun _ => by kernel_rfl) ?_
      refine s_sum (k := .i64) (((out.length : Int) : Int) - 1) (by kernel_rfl) (fun _ => by kernel_rfl) (IntWalk.i64_in _ (by omega)) ?_
      refine s_val (.int .i64 (((out.length : Int) : Int) - 1)) (by kernel_rfl) (fun _ => by kernel_rfl) ?_
      refine s_nil ?_
      refine fin_seq ?_
      refine ok_seq ?_
      refine ok_seq ?_
      refine ok_draw (by kernel_rfl) (by kernel_rfl) ?_
      refine q_val (.int .i64 (((out.length : Int) : Int) - 1)) (by kernel_rfl) (fun _ => by kernel_rfl) ?_
      by_cases h4 : (((out.length : Int) : Int) - 1 : Int) < 0
      · skip
        refine q_dec (p := (((out.length : Int) : Int) - 1 : Int) < 0) true (by kernel_rfl) (fun _ => by kernel_rfl) (decide_eq_true (h4)) ?_
        refine q_val (.bool true) (by kernel_rfl) (fun _ => by kernel_rfl) ?_
        refine q_skip (by kernel_rfl) ?_
        refine q_skip (by kernel_rfl) ?_
        refine q_skip (by kernel_rfl) ?_
        refine q_skip (by kernel_rfl) ?_
        refine q_skip (by kernel_rfl) ?_
        refine q_skip (by kernel_rfl) ?_
        refine q_skip (by kernel_rfl) ?_
        refine q_skip (by kernel_rfl) ?_
        refine q_skip (by kernel_rfl) ?_
        refine q_val (.bool true) (by kernel_rfl) (fun _ => by kernel_rfl) ?_
        refine q_nil ?_
        refine fin_seq ?_
        refine ok_true (by kernel_rfl) ?_
        refine ok_seq ?_
        refine ok_region ?_
        refine s_val (.slice V out.length cv) (by kernel_rfl) (fun _ => by kernel_rfl) ?_
        refine s_load 0 ⟨b1, (spanV s).cells, 43⟩ (off := 0) (spanV s) (by kernel_rfl) rfl (by kernel_rfl) (by kernel_rfl) (by kernel_rfl) ?_
        refine s_lit 43 #[.int .i64 s.lo.e, .int .i64 s.lo.v.maj, .int .i64 s.lo.v.min, .int .i64 s.lo.v.pat, .string (mkS s.lo.v.pre), .string (mkS s.lo.v.build), .bool s.lo.aft, .int .i64 s.hi.e, .int .i64 s.hi.v.maj, .int .i64 s.hi.v.min, .int .i64 s.hi.v.pat, .string (mkS s.hi.v.pre), .string (mkS s.hi.v.build), .bool s.hi.aft] (by kernel_rfl) rfl (fun _ => by kernel_rfl) (fun b2 => ?_)
        refine s_cast (L' := [⟨b2, #[.int .i64 s.lo.e, .int .i64 s.lo.v.maj, .int .i64 s.lo.v.min, .int .i64 s.lo.v.pat, .string (mkS s.lo.v.pre), .string (mkS s.lo.v.build), .bool s.lo.aft, .int .i64 s.hi.e, .int .i64 s.hi.v.maj, .int .i64 s.hi.v.min, .int .i64 s.hi.v.pat, .string (mkS s.hi.v.pre), .string (mkS s.hi.v.build), .bool s.hi.aft], 43⟩, ⟨b1, (spanV s).cells, 43⟩, ⟨gb, curb, 43⟩] ++ ob ++ []) (by rw [List.append_nil]; rfl) ?_
        obtain ⟨i, z, e1, e2, e3, e4, e5⟩ := span_info
        refine s_append (sz := 14) (by kernel_rfl) rfl Tryz.underlying22 e1 e2 e3 e4 (by kernel_rfl) hrel.sl (a := ⟨b2, 0, none⟩) (m := 1) (c := 1) (news := spanC s) (by kernel_rfl) rfl (fun w hO j u hj => ?_) (span_cells _) (by unfold maxLen; omega) (by rw [e5]; omega) (fun v2 ob2 hv2 => ?_)
        · rw [add_off, cell_of_row w b2 (0 + j) (spanC s).toArray 43 _ (hO.held ⟨b2, (spanC s).toArray, 43⟩ (List.mem_append_left _ (List.mem_append_left _ (List.mem_cons_self ..))))]; simpa using hj
        have hv3 : SlS v2 (out ++ [s]) ob2 := hv2.to (by simp) (by simp)
        obtain ⟨V2, c2, rfl⟩ := hv3.form
        refine s_val (.slice V2 ((out ++ [s]).length) c2) (by kernel_rfl) (fun _ => by kernel_rfl) ?_
        refine s_nil ?_
        refine fin_seq ?_
        refine ok_exit ?_
        refine fin_seq_exit ?_
        refine fin_block_exit ?_
        refine fin_seq ?_
        refine ok_region ?_
        refine s_sum (k := .i64) (((k + 1 : Nat) : Int)) (by kernel_rfl) (fun _ => by kernel_rfl) (IntWalk.i64_in _ (by omega)) ?_
        refine s_val (.int .i64 ((k + 1 : Nat) : Int)) (by kernel_rfl) (fun _ => by kernel_rfl) ?_
        refine s_nil ?_
        refine fin_take (L' := [⟨gb, curb, 43⟩] ++ ob2) (fun w hO => ?_) ?_
        · have h2 := hO.apart; rw [List.append_nil] at hO; exact Own.sub [_, _] hO
        exact fin_round (m' := d.length - (k + 1)) (by omega) ⟨k + 1, V2, (out ++ [s]).length, c2, out ++ [s], ob2, _, ⟨rfl, hrel.step hk hs hsk (mstep_app (fun t' ht' => by have : out = [] := List.eq_nil_of_length_eq_zero (by omega); subst this; simp at ht')) hv3⟩, rfl, upds_self _ ⟨by kernel_rfl, by kernel_rfl, by kernel_rfl, by kernel_rfl, trivial⟩, rfl⟩
      · skip
        obtain ⟨g, cur, hV, rfl, hcapc, hmaxc, hszc, hcurc⟩ := Sl.block hrel.sl (by omega)
        obtain ⟨t, ht⟩ : ∃ t, out[out.length - 1]'(by omega) = t := ⟨_, rfl⟩
        have htk : t.short := ht ▸ hrel.short _ (List.getElem_mem _)
        refine q_dec (p := (((out.length : Int) : Int) - 1 : Int) < 0) false (by kernel_rfl) (fun _ => by kernel_rfl) (decide_eq_false (h4)) ?_
        refine q_val (.bool false) (by kernel_rfl) (fun _ => by kernel_rfl) ?_
        refine q_val (.slice V out.length cv) (by kernel_rfl) (fun _ => by kernel_rfl) ?_
        refine q_val (.int .i64 (((out.length : Int) : Int) - 1)) (by kernel_rfl) (fun _ => by kernel_rfl) ?_
        refine q_val (.pointer (some ⟨g, (out.length - 1) * 14, none⟩)) (by kernel_rfl) (run_ixA (b := g) (off := 0) (c := cv) (n := out.length) (k := .i64) (j := (out.length : Int) - 1) (e := 43) (sz := 14) rfl (by kernel_rfl) hV (by kernel_rfl) (by kernel_rfl) (by kernel_rfl) (by omega) (by omega) (by omega)) ?_
        refine q_val (.pointer (some ⟨g, (out.length - 1) * 14 + 7, none⟩)) (by kernel_rfl) (fun _ => by kernel_rfl) ?_
        refine q_load 2 ⟨g, cur, 43⟩ (off := (out.length - 1) * 14 + 7) (cutV t.hi) (by kernel_rfl) rfl (by kernel_rfl) (by kernel_rfl) (read_part spanC_len hcurc (out.length - 1) 7 (by omega) (by omega) _ (by rw [ht]; kernel_rfl)) ?_
        refine q_val (.pointer (some ⟨b1, 0, none⟩)) (by kernel_rfl) (fun _ => by kernel_rfl) ?_
        refine q_load 0 ⟨b1, (spanV s).cells, 43⟩ (off := 0) (.agg #[.int .i64 s.lo.e, .int .i64 s.lo.v.maj, .int .i64 s.lo.v.min, .int .i64 s.lo.v.pat, .string (mkS s.lo.v.pre), .string (mkS s.lo.v.build), .bool s.lo.aft]) (by kernel_rfl) rfl (by kernel_rfl) (by kernel_rfl) (by kernel_rfl) ?_
        refine q_call (k := 42) (args := #[cutV t.hi, .agg #[.int .i64 s.lo.e, .int .i64 s.lo.v.maj, .int .i64 s.lo.v.min, .int .i64 s.lo.v.pat, .string (mkS s.lo.v.pre), .string (mkS s.lo.v.build), .bool s.lo.aft]]) (.int .i64 (cmpC t.hi s.lo)) (by kernel_rfl) (fun _ => by kernel_rfl) (fun w _ => cmpC_any t.hi s.lo w htk.2 hsk.1) ?_
        by_cases h5 : (cmpC t.hi s.lo : Int) < 0
        · skip
          refine q_dec (p := (cmpC t.hi s.lo : Int) < 0) true (by kernel_rfl) (fun _ => by kernel_rfl) (decide_eq_true (h5)) ?_
          refine q_val (.bool true) (by kernel_rfl) (fun _ => by kernel_rfl) ?_
          refine q_nil ?_
          refine fin_seq ?_
          refine ok_true (by kernel_rfl) ?_
          refine ok_seq ?_
          refine ok_region ?_
          refine s_val (.slice V out.length cv) (by kernel_rfl) (fun _ => by kernel_rfl) ?_
          refine s_load 0 ⟨b1, (spanV s).cells, 43⟩ (off := 0) (spanV s) (by kernel_rfl) rfl (by kernel_rfl) (by kernel_rfl) (by kernel_rfl) ?_
          refine s_lit 43 #[.int .i64 s.lo.e, .int .i64 s.lo.v.maj, .int .i64 s.lo.v.min, .int .i64 s.lo.v.pat, .string (mkS s.lo.v.pre), .string (mkS s.lo.v.build), .bool s.lo.aft, .int .i64 s.hi.e, .int .i64 s.hi.v.maj, .int .i64 s.hi.v.min, .int .i64 s.hi.v.pat, .string (mkS s.hi.v.pre), .string (mkS s.hi.v.build), .bool s.hi.aft] (by kernel_rfl) rfl (fun _ => by kernel_rfl) (fun b2 => ?_)
          refine s_cast (L' := [⟨b2, #[.int .i64 s.lo.e, .int .i64 s.lo.v.maj, .int .i64 s.lo.v.min, .int .i64 s.lo.v.pat, .string (mkS s.lo.v.pre), .string (mkS s.lo.v.build), .bool s.lo.aft, .int .i64 s.hi.e, .int .i64 s.hi.v.maj, .int .i64 s.hi.v.min, .int .i64 s.hi.v.pat, .string (mkS s.hi.v.pre), .string (mkS s.hi.v.build), .bool s.hi.aft], 43⟩, ⟨b1, (spanV s).cells, 43⟩, ⟨gb, curb, 43⟩] ++ [⟨g, cur, 43⟩] ++ []) (by rw [List.append_nil]; rfl) ?_
          obtain ⟨i, z, e1, e2, e3, e4, e5⟩ := span_info
          refine s_append (sz := 14) (by kernel_rfl) rfl Tryz.underlying22 e1 e2 e3 e4 (by kernel_rfl) hrel.sl (a := ⟨b2, 0, none⟩) (m := 1) (c := 1) (news := spanC s) (by kernel_rfl) rfl (fun w hO j u hj => ?_) (span_cells _) (by unfold maxLen; omega) (by rw [e5]; omega) (fun v2 ob2 hv2 => ?_)
          · rw [add_off, cell_of_row w b2 (0 + j) (spanC s).toArray 43 _ (hO.held ⟨b2, (spanC s).toArray, 43⟩ (List.mem_append_left _ (List.mem_append_left _ (List.mem_cons_self ..))))]; simpa using hj
          have hv3 : SlS v2 (out ++ [s]) ob2 := hv2.to (by simp) (by simp)
          obtain ⟨V2, c2, rfl⟩ := hv3.form
          refine s_val (.slice V2 ((out ++ [s]).length) c2) (by kernel_rfl) (fun _ => by kernel_rfl) ?_
          refine s_nil ?_
          refine fin_seq ?_
          refine ok_exit ?_
          refine fin_seq_exit ?_
          refine fin_block_exit ?_
          refine fin_seq ?_
          refine ok_region ?_
          refine s_sum (k := .i64) (((k + 1 : Nat) : Int)) (by kernel_rfl) (fun _ => by kernel_rfl) (IntWalk.i64_in _ (by omega)) ?_
          refine s_val (.int .i64 ((k + 1 : Nat) : Int)) (by kernel_rfl) (fun _ => by kernel_rfl) ?_
          refine s_nil ?_
          refine fin_take (L' := [⟨gb, curb, 43⟩] ++ ob2) (fun w hO => ?_) ?_
          · have h2 := hO.apart; rw [List.append_nil] at hO; exact Own.sub [_, _] hO
          exact fin_round (m' := d.length - (k + 1)) (by omega) ⟨k + 1, V2, (out ++ [s]).length, c2, out ++ [s], ob2, _, ⟨rfl, hrel.step hk hs hsk (mstep_app (fun t' ht' => by rw [last_at (by omega) ht ht']; assumption)) hv3⟩, rfl, upds_self _ ⟨by kernel_rfl, by kernel_rfl, by kernel_rfl, by kernel_rfl, trivial⟩, rfl⟩
        · skip
          refine q_dec (p := (cmpC t.hi s.lo : Int) < 0) false (by kernel_rfl) (fun _ => by kernel_rfl) (decide_eq_false (h5)) ?_
          refine q_val (.bool false) (by kernel_rfl) (fun _ => by kernel_rfl) ?_
          refine q_nil ?_
          refine fin_seq ?_
          refine ok_false (by kernel_rfl) ?_
          refine ok_skip ?_
          refine fin_seq ?_
          refine ok_drawt 14 (by kernel_rfl) (by kernel_rfl) (by kernel_rfl) ?_
          simp only [List.take_succ_cons, List.take_zero, List.drop_succ_cons, List.drop_zero]
          refine q_val (.slice V out.length cv) (by kernel_rfl) (fun _ => by kernel_rfl) ?_
          refine q_val (.int .i64 (((out.length : Int) : Int) - 1)) (by kernel_rfl) (fun _ => by kernel_rfl) ?_
          refine q_val (.slice V out.length cv) (by kernel_rfl) (fun _ => by kernel_rfl) ?_
          refine q_val (.int .i64 (((out.length : Int) : Int) - 1)) (by kernel_rfl) (fun _ => by kernel_rfl) ?_
          refine q_val (.pointer (some ⟨g, (out.length - 1) * 14, none⟩)) (by kernel_rfl) (run_ixA (b := g) (off := 0) (c := cv) (n := out.length) (k := .i64) (j := (out.length : Int) - 1) (e := 43) (sz := 14) rfl (by kernel_rfl) hV (by kernel_rfl) (by kernel_rfl) (by kernel_rfl) (by omega) (by omega) (by omega)) ?_
          refine q_val (.pointer (some ⟨g, (out.length - 1) * 14 + 7, none⟩)) (by kernel_rfl) (fun _ => by kernel_rfl) ?_
          refine q_load 2 ⟨g, cur, 43⟩ (off := (out.length - 1) * 14 + 7) (cutV t.hi) (by kernel_rfl) rfl (by kernel_rfl) (by kernel_rfl) (read_part spanC_len hcurc (out.length - 1) 7 (by omega) (by omega) _ (by rw [ht]; kernel_rfl)) ?_
          refine q_val (.pointer (some ⟨b1, 7, none⟩)) (by kernel_rfl) (fun _ => by kernel_rfl) ?_
          refine q_load 0 ⟨b1, (spanV s).cells, 43⟩ (off := 7) (.agg #[.int .i64 s.hi.e, .int .i64 s.hi.v.maj, .int .i64 s.hi.v.min, .int .i64 s.hi.v.pat, .string (mkS s.hi.v.pre), .string (mkS s.hi.v.build), .bool s.hi.aft]) (by kernel_rfl) rfl (by kernel_rfl) (by kernel_rfl) (by kernel_rfl) ?_
          refine q_call (k := 33) (args := #[cutV t.hi, .agg #[.int .i64 s.hi.e, .int .i64 s.hi.v.maj, .int .i64 s.hi.v.min, .int .i64 s.hi.v.pat, .string (mkS s.hi.v.pre), .string (mkS s.hi.v.build), .bool s.hi.aft]]) (.tuple #[cutV (minC t.hi s.hi), cutV (maxC t.hi s.hi)]) (by kernel_rfl) (fun _ => by kernel_rfl) (fun w _ => order_any t.hi s.hi w htk.2 hsk.2) ?_
          refine q_val (.tuple #[cutV (minC t.hi s.hi), cutV (maxC t.hi s.hi)]) (by kernel_rfl) (fun _ => by kernel_rfl) ?_
          refine q_val (cutV (minC t.hi s.hi)) (by kernel_rfl) (fun _ => by kernel_rfl) ?_
          refine q_val (cutV (maxC t.hi s.hi)) (by kernel_rfl) (fun _ => by kernel_rfl) ?_
          refine q_val (.pointer (some ⟨g, (out.length - 1) * 14, none⟩)) (by kernel_rfl) (run_ixA (b := g) (off := 0) (c := cv) (n := out.length) (k := .i64) (j := (out.length : Int) - 1) (e := 43) (sz := 14) rfl (by kernel_rfl) hV (by kernel_rfl) (by kernel_rfl) (by kernel_rfl) (by omega) (by omega) (by omega)) ?_
          refine q_nil ?_
          refine s_val (.pointer (some ⟨g, (out.length - 1) * 14 + 7, none⟩)) (by kernel_rfl) (fun _ => by kernel_rfl) ?_
          refine s_storeS 2 ⟨g, cur, 43⟩ (off := (out.length - 1) * 14 + 7) (cutV (maxC t.hi s.hi)) 7 (by kernel_rfl) rfl rfl (by kernel_rfl) (by kernel_rfl) (by kernel_rfl) (by kernel_rfl) (by kernel_rfl) (by show (out.length - 1) * 14 + 7 + 7 ≤ cur.size; omega) (by kernel_rfl) ?_
          have hse := store_elem spanC_len hcurc (out.length - 1) 7 (by omega) (cutV (maxC t.hi s.hi)).cells ⟨t.lo, maxC t.hi s.hi⟩ (show 7 + 7 ≤ 14 by decide) (by rw [ht]; rfl)
          refine s_nil ?_
          refine fin_block ?_
          refine fin_seq ?_
          refine ok_region ?_
          refine s_sum (k := .i64) (((k + 1 : Nat) : Int)) (by kernel_rfl) (fun _ => by kernel_rfl) (IntWalk.i64_in _ (by omega)) ?_
          refine s_val (.int .i64 ((k + 1 : Nat) : Int)) (by kernel_rfl) (fun _ => by kernel_rfl) ?_
          refine s_nil ?_
          have hset : Merged d (k + 1) V cv (out.set (out.length - 1) ⟨t.lo, maxC t.hi s.hi⟩) [⟨g, storeIn cur ((out.length - 1) * 14 + 7) (cutV (maxC t.hi s.hi)).cells, 43⟩] := hrel.step hk hs hsk (mstep_set (by omega) ht (by assumption)) (by rw [List.length_set]; exact ⟨by rw [flat_len spanC_len, List.length_set], .inr ⟨g, cv, _, by rw [hV], rfl, hcapc, hmaxc, by rw [hse.2]; exact hszc, hse.1⟩⟩)
          refine fin_take (L' := [⟨gb, curb, 43⟩] ++ [⟨g, storeIn cur ((out.length - 1) * 14 + 7) (cutV (maxC t.hi s.hi)).cells, 43⟩]) (fun w hO => Own.sub [_] hO) ?_
          have hls : (out.set (out.length - 1) ⟨t.lo, maxC t.hi s.hi⟩).length = out.length := List.length_set
          exact fin_round (m' := d.length - (k + 1)) (by omega) ⟨k + 1, V, out.length, cv, out.set (out.length - 1) ⟨t.lo, maxC t.hi s.hi⟩, [⟨g, storeIn cur ((out.length - 1) * 14 + 7) (cutV (maxC t.hi s.hi)).cells, 43⟩], _, ⟨by rw [List.length_set], hset⟩, rfl, upds_self _ ⟨by kernel_rfl, by kernel_rfl, by kernel_rfl, by kernel_rfl, trivial⟩, rfl⟩
    · skip
      refine s_dec (p := (k : Int) < (d.length : Int)) false (by kernel_rfl) (fun _ => by kernel_rfl) (decide_eq_false (h3)) ?_
      refine s_nil ?_
      refine fin_seq ?_
      refine ok_seq ?_
      refine ok_false (by kernel_rfl) ?_
      refine ok_exit ?_
      refine fin_seq_exit ?_
      refine fin_round_exit ?_
      refine fin_block_exit ?_
      refine fin_seq ?_
      refine ok_seq ?_
      refine ok_region ?_
      refine s_val (.slice V out.length cv) (by kernel_rfl) (fun _ => by kernel_rfl) ?_
      refine s_callo (k := 35) (args := #[.slice V out.length cv]) (fun v' L' => ∃ ob', L' = od ++ ob' ∧ SlS v' out ob') (by kernel_rfl) (fun _ => by kernel_rfl) (fun w hO => unshare_call (E := od) hO hrel.sl (by omega) hrel.short) (fun v4 L2 hv2 => ?_)
      obtain ⟨ob4, rfl, hs4⟩ := hv2
      refine s_val (v4) (by kernel_rfl) (fun _ => by kernel_rfl) ?_
      refine s_val (.bool true) (by kernel_rfl) (fun _ => by kernel_rfl) ?_
      refine s_nil ?_
      refine fin_seq ?_
      refine ok_ret ?_
      refine fin_ret2 (v4) (.bool true) Tryz.results26 (by kernel_rfl) (by kernel_rfl) ?_
      exact fun w hO => ⟨v4, ob4, by rw [hall], by rw [hall, if_pos rfl, show makeL l = out from by rw [← merge_eq (allMay_mem.1 hall) hdp hdso]; have he := hrel.eq; rw [List.take_of_length_le (by omega)] at he; exact he]; exact hs4, hO.sub od⟩
end Go.Proofs.YtmlecnomdamgnaaGreat
end

section
/-
  Steps: append(nil, make([]T, n)...); s[1:] of a slice that came in. No condition of their own but the bounds that each theorem names.
-/
namespace Go.Proofs.YtmlecnomdamgnaaGreat
open Go.RowKit
set_option linter.unusedVariables false
set_option linter.unusedSimpArgs false
section
variable {M : List Nat} {P : Program} {n0 : Nat} {ops : Array Oper} {W : World} {Q : Exit → Act → World → Prop} {rest : List Oper} {o : Oper} {L : List Blk} {f : Nat → Value}
theorem s_append0 {t tn e : TypeId} {x y : Operand} {i : TypeInfo} {z : Value} {kn : IntKind} {k sz : Nat} (hw : want ops n0 f o = true) (ho : o.op = .call { callee := .builtin .append, args := #[x, y], argTypes := #[t, tn] })
    (hx : ev n0 f x = .slice none 0 0) (hy : ev n0 f y = .int .i64 k) (ht : P.underlying t = some (.slice e)) (htn : P.underlying tn = some (.int kn)) (hi : P.info? e = some i) (hz : i.zero = some z) (hsz : i.size = sz) (hzs : z.cells.size = sz) (h0 : 0 < k) (hs : 0 < sz)
    (h63 : k ≤ maxLen) (h48 : k * i.bytes ≤ 140737488355328)
    (h : ∀ b cs cap, cs.size = cap * sz → k ≤ cap → cap ≤ maxLen → Seg M P n0 ops W Q rest (⟨b, cs, e⟩ :: L) (upd f o.dst (.slice (some ⟨b, 0, none⟩) k cap))) : Seg M P n0 ops W Q (o :: rest) L f :=
  s_step hw fun w hO => by
    subst hsz
    have hsmall : k ≤ 9223372036854775807 := by simp only [maxLen] at h63; omega
    have hr := Lib.run_append_grow_zeros (P := P) w t tn o.type e i z .i64 kn ht htn hi hz none 0 0 [] (run_firstCells_none w.drew i.size 0 0 0) k h0 hs (by omega) (by omega) (by omega) (by rw [Nat.zero_add, nextslicecap_zero h0]; omega)
    have hge := grownCap_ge w (0 + k) 0 e
    have hcm := grownCap_le_maxLen w (0 + k) 0 e (by omega)
    obtain ⟨cs, hcs⟩ : ∃ cs : Array Value, cs = #[] ++ Builtin.zeroCells z.cells k ++ Builtin.zeroCells z.cells (grownCap w (0 + k) 0 e - (0 + k)) := ⟨_, rfl⟩
    have hr2 : (Builtin.append_ #[t, tn] o.type #[.slice none 0 0, .int .i64 k]).run P w = .ok (.slice (some ⟨w.heap.size, 0, none⟩) k (grownCap w (0 + k) 0 e)) (w.drew.alloc (.cells cs e)) := by rw [hr, hcs, Nat.zero_add]
    have hcz : cs.size = grownCap w (0 + k) 0 e * i.size := by
      rw [hcs]
      simp only [Array.size_append, size_zeroCells, hzs, List.size_toArray, List.length_nil, Array.size_empty]
      rw [Nat.zero_add, ← Nat.add_mul]
      congr 1
      omega
    refine wp_val (.slice (some ⟨w.heap.size, 0, none⟩) k (grownCap w (0 + k) 0 e)) (w' := w.drew.alloc (.cells cs e)) ?_ ((h w.heap.size cs (grownCap w (0 + k) 0 e) hcz (by omega) hcm).go _ (Own.alloc (L := L) (drew_own hO) cs e))
    unfold execOp
    simp only [ho, resolve, invoke, builtin, Sem.run_bind, Sem.run_pure, Result.andThen_ok, List.map_toArray, List.map_cons, List.map_nil, hx, hy, hr2]
end
theorem run_sllA {P : Program} {ρ : Operand → Value} {o : Oper} {t e : TypeId} {x y : Operand} {A : Option Addr} {b off n c sz : Nat} {k : IntKind} {j : Int} (ho : o.op = .slice t x (some y) none none) (hx : ρ x = .slice A n c) (hA : A = some ⟨b, off, none⟩) (hy : ρ y = .int k j)
    (hu : P.underlying t = some (.slice e)) (hs : (P.info? e).map (·.size) = some sz) (h0 : 0 ≤ j) (h1 : j ≤ n) (w : World) : (execOp ρ o).run P w = .ok (.value (.slice (some ⟨b, off + (if c = j.toNat then 0 else j.toNat * sz), none⟩) (n - j.toNat) (c - j.toNat))) w := by
  subst hA
  exact run_sllo ho hx hy hu hs h0 h1 w
/-- s[1:] of a slice that came in. -/
theorem Reads.drop1 {α : Type} {g : α → List Value} {sz : Nat} (hg : ∀ x, (g x).length = sz) {w : World} {B b off c : Nat} {A : Option Addr} {l : List α} (h : Reads g w B A l) (hA : A = some ⟨b, off, none⟩) (hc : l.length ≤ c) : Reads g w B (some ⟨b, off + (if c = (1 : Int).toNat then 0 else (1 : Int).toNat * sz), none⟩) (l.drop 1) := by
  subst hA
  cases l with
  | nil => exact fun h0 => by simp at h0
  | cons x r => exact h.tail hg (by rw [List.length_cons] at hc; omega)
end Go.Proofs.YtmlecnomdamgnaaGreat
end

section
/-
  slices.Equal, Grow, Concat of spans (two slices).
-/
namespace Go.Proofs.YtmlecnomdamgnaaGreat
open Go.RowKit
set_option maxRecDepth 100000
set_option linter.unusedVariables false
set_option linter.unusedSimpArgs false
set_option maxHeartbeats 2000000


theorem equal4_any (A B : Option Addr) (cap capb : Nat) (a b : List Sp) (W : World) (hv : Reads spanC W W.heap.size A a) (hu : Reads spanC W W.heap.size B b) (hn : a.length ≤ 1000000) (hm : b.length ≤ 1000000) :
    Calls Tryz.prog 36 #[.slice A a.length cap, .slice B b.length capb] W fun e w' => e = .returned (.bool (decide (a = b))) ∧ Below W.heap.size W w' := by
  refine calls_ok (n := 26) Tryz.func36 rfl (by kernel_rfl) (by kernel_rfl) ?_
  refine ok_seq ?_
  refine ok_region ?_
  refine s_val (.bool false) (by kernel_rfl) (fun _ => by kernel_rfl) ?_
  refine s_nil ?_
  refine fin_seq ?_
  refine ok_seq ?_
  refine ok_seq ?_
  refine ok_region ?_
  refine s_val (.slice A a.length cap) (by kernel_rfl) (fun _ => by kernel_rfl) ?_
  refine s_val (.int .i64 (a.length : Int)) (by kernel_rfl) (fun _ => by kernel_rfl) ?_
  refine s_val (.slice B b.length capb) (by kernel_rfl) (fun _ => by kernel_rfl) ?_
  refine s_val (.int .i64 (b.length : Int)) (by kernel_rfl) (fun _ => by kernel_rfl) ?_
  by_cases h1 : (a.length : Int) = (b.length : Int)
  · skip
    refine s_ndec (p := (a.length : Int) = (b.length : Int)) true (by kernel_rfl) (fun _ => by kernel_rfl) (decide_eq_true (h1)) ?_
    refine s_nil ?_
    refine fin_seq ?_
    refine ok_false (by kernel_rfl) ?_
    refine ok_skip ?_
    refine fin_seq ?_
    refine ok_seq ?_
    refine ok_seq ?_
    refine ok_region ?_
    refine s_val (.slice A a.length cap) (by kernel_rfl) (fun _ => by kernel_rfl) ?_
    refine s_val (.int .i64 (a.length : Int)) (by kernel_rfl) (fun _ => by kernel_rfl) ?_
    refine s_val (.int .i64 0) (by kernel_rfl) (fun _ => by kernel_rfl) ?_
    refine s_nil ?_
    refine fin_seq ?_
    refine ok_block ?_
    refine ok_loop (fun L f m => ∃ (k : Nat) (j : Nat → Value), (k ≤ a.length ∧ a.take k = b.take k) ∧ L = [] ∧ f = upds j [(0, .slice A a.length cap), (1, .slice B b.length capb), (12, .int .i64 (a.length : Int)), (13, .int .i64 (k : Int))] ∧ m = a.length - k) (a.length - 0) ⟨0, _, ⟨Nat.zero_le _, by rw [List.take_zero, List.take_zero]⟩, rfl, upds_self _ ⟨by kernel_rfl, by kernel_rfl, by kernel_rfl, by kernel_rfl, trivial⟩, rfl⟩ ?_
    rintro L f m ⟨k, j, hrel, rfl, rfl, rfl⟩
    have hkl := hrel.1
    refine ok_seq ?_
    refine ok_region ?_
    by_cases h2 : (k : Int) < (a.length : Int)
    · skip
      have hk : k < a.length := by omega
      have hkb : k < b.length := by omega
      obtain ⟨g, off, hA, hlt, hcell⟩ := hv (by omega)
      obtain ⟨gb, ofh, hB, hlu, hcelu⟩ := hu (by omega)
      obtain ⟨s, hs⟩ : ∃ s, a[k] = s := ⟨_, rfl⟩
      obtain ⟨t, ht⟩ : ∃ t, b[k] = t := ⟨_, rfl⟩
      refine s_dec (p := (k : Int) < (a.length : Int)) true (by kernel_rfl) (fun _ => by kernel_rfl) (decide_eq_true (h2)) ?_
      refine s_nil ?_
      refine fin_seq ?_
      refine ok_seq ?_
      refine ok_true (by kernel_rfl) ?_
      refine ok_skip ?_
      refine fin_seq ?_
      refine ok_seq ?_
      refine ok_block ?_
      refine ok_seq ?_
      refine ok_region ?_
      refine s_val (.int .i64 (k : Int)) (by kernel_rfl) (fun _ => by kernel_rfl) ?_
      refine s_val (.int .i64 (k : Int)) (by kernel_rfl) (fun _ => by kernel_rfl) ?_
      refine s_nil ?_
      refine fin_seq ?_
      refine ok_seq ?_
      refine ok_draw (by kernel_rfl) (by kernel_rfl) ?_
      refine q_val (.slice A a.length cap) (by kernel_rfl) (fun _ => by kernel_rfl) ?_
      refine q_val (.int .i64 (k : Int)) (by kernel_rfl) (fun _ => by kernel_rfl) ?_
      refine q_val (.pointer (some ⟨g, off + k * 14, none⟩)) (by kernel_rfl) (run_ixA (b := g) (off := off) (c := cap) (n := a.length) (k := .i64) (j := (k : Int)) (e := 43) (sz := 14) rfl (by kernel_rfl) hA (by kernel_rfl) (by kernel_rfl) (by kernel_rfl) (by omega) (by omega) (by omega)) ?_
      refine q_old (spanV s) (a := ⟨g, off + k * 14, none⟩) (by kernel_rfl) rfl (by kernel_rfl) (fun w hO => elem_load spanC_len (fun j u h => (hO.below.cell (p := ⟨g, off + j, none⟩) hlt).trans (hcell j u h)) k 0 hk (by omega) _ (by rw [hs]; kernel_rfl)) ?_
      refine q_val (.slice B b.length capb) (by kernel_rfl) (fun _ => by kernel_rfl) ?_
      refine q_val (.int .i64 (k : Int)) (by kernel_rfl) (fun _ => by kernel_rfl) ?_
      refine q_val (.pointer (some ⟨gb, ofh + k * 14, none⟩)) (by kernel_rfl) (run_ixA (b := gb) (off := ofh) (c := capb) (n := b.length) (k := .i64) (j := (k : Int)) (e := 43) (sz := 14) rfl (by kernel_rfl) hB (by kernel_rfl) (by kernel_rfl) (by kernel_rfl) (by omega) (by omega) (by omega)) ?_
      refine q_old (spanV t) (a := ⟨gb, ofh + k * 14, none⟩) (by kernel_rfl) rfl (by kernel_rfl) (fun w hO => elem_load spanC_len (fun j u h => (hO.below.cell (p := ⟨gb, ofh + j, none⟩) hlu).trans (hcelu j u h)) k 0 hkb (by omega) _ (by rw [ht]; kernel_rfl)) ?_
      by_cases h3 : s = t
      · skip
        refine q_val (.bool false) (by kernel_rfl) (op_ne_span rfl (by kernel_rfl) (by kernel_rfl) (decide_eq_true (h3))) ?_
        refine q_nil ?_
        refine fin_seq ?_
        refine ok_false (by kernel_rfl) ?_
        refine ok_skip ?_
        refine fin_block ?_
        refine fin_seq ?_
        refine ok_region ?_
        refine s_sum (k := .i64) (((k + 1 : Nat) : Int)) (by kernel_rfl) (fun _ => by kernel_rfl) (IntWalk.i64_in _ (by omega)) ?_
        refine s_val (.int .i64 ((k + 1 : Nat) : Int)) (by kernel_rfl) (fun _ => by kernel_rfl) ?_
        refine s_nil ?_
        have hnext : a.take (k + 1) = b.take (k + 1) := same_step hk hkb hrel.2 (by rw [hs, ht]; assumption)
        exact fin_round (m' := a.length - (k + 1)) (by omega) ⟨k + 1, _, ⟨by omega, hnext⟩, rfl, upds_self _ ⟨by kernel_rfl, by kernel_rfl, by kernel_rfl, by kernel_rfl, trivial⟩, rfl⟩
      · skip
        refine q_val (.bool true) (by kernel_rfl) (op_ne_span rfl (by kernel_rfl) (by kernel_rfl) (decide_eq_false (h3))) ?_
        refine q_nil ?_
        refine fin_seq ?_
        refine ok_true (by kernel_rfl) ?_
        refine ok_seq ?_
        refine ok_region ?_
        refine s_val (.bool false) (by kernel_rfl) (fun _ => by kernel_rfl) ?_
        refine s_nil ?_
        refine fin_seq ?_
        refine ok_ret ?_
        refine fin_block_ret ?_
        refine fin_seq_ret ?_
        refine fin_round_ret ?_
        refine fin_block_ret ?_
        refine fin_seq_ret ?_
        refine fin_ret (.bool false) Tryz.results36 (by kernel_rfl) ?_
        exact fun w hO => ⟨by rw [decide_eq_false (show ¬ a = b from fun e => by subst e; first | omega | exact absurd (hs.symm.trans ht) (by assumption))], hO.below⟩
    · skip
      refine s_dec (p := (k : Int) < (a.length : Int)) false (by kernel_rfl) (fun _ => by kernel_rfl) (decide_eq_false (h2)) ?_
      refine s_nil ?_
      refine fin_seq ?_
      refine ok_seq ?_
      refine ok_false (by kernel_rfl) ?_
      refine ok_exit ?_
      refine fin_seq_exit ?_
      refine fin_round_exit ?_
      refine fin_block_exit ?_
      refine fin_seq ?_
      refine ok_seq ?_
      refine ok_region ?_
      refine s_val (.bool true) (by kernel_rfl) (fun _ => by kernel_rfl) ?_
      refine s_nil ?_
      refine fin_seq ?_
      refine ok_ret ?_
      refine fin_ret (.bool true) Tryz.results36 (by kernel_rfl) ?_
      exact fun w hO => ⟨by rw [decide_eq_true (show a = b from by have h := hrel.2; rwa [List.take_of_length_le (by omega), List.take_of_length_le (by omega)] at h)], hO.below⟩
  · skip
    refine s_ndec (p := (a.length : Int) = (b.length : Int)) false (by kernel_rfl) (fun _ => by kernel_rfl) (decide_eq_false (h1)) ?_
    refine s_nil ?_
    refine fin_seq ?_
    refine ok_true (by kernel_rfl) ?_
    refine ok_seq ?_
    refine ok_region ?_
    refine s_val (.bool false) (by kernel_rfl) (fun _ => by kernel_rfl) ?_
    refine s_nil ?_
    refine fin_seq ?_
    refine ok_ret ?_
    refine fin_seq_ret ?_
    refine fin_ret (.bool false) Tryz.results36 (by kernel_rfl) ?_
    exact fun w hO => ⟨by rw [decide_eq_false (show ¬ a = b from fun e => by subst e; first | omega | exact absurd (hs.symm.trans ht) (by assumption))], hO.below⟩
theorem sub0 {P : Program} {ρ : Operand → Value} {o : Oper} (k : Nat) (hr : ∀ w, (execOp ρ o).run P w = .ok (.value (.int .i64 (IntKind.i64.wrap ((k : Int) - 0)))) w) (hk : (k : Int) ≤ 9223372036854775807) (w : World) : (execOp ρ o).run P w = .ok (.value (.int .i64 (k : Int))) w := by
  rw [hr w, Int.sub_zero, IntWalk.i64_in _ (by omega)]
theorem grow4_any (k : Nat) (W : World) (hk : k ≤ 600000) :
    Calls Tryz.prog 52 #[.slice none 0 0, .int .i64 (k : Int)] W fun e w' => ∃ v' ob', e = .returned v' ∧ SlS v' [] ob' ∧ Own [] W w' ob' := by
  refine calls_ok (n := 27) Tryz.func52 rfl (by kernel_rfl) (by kernel_rfl) ?_
  refine ok_seq ?_
  refine ok_region ?_
  refine s_val (.slice none 0 0) (by kernel_rfl) (fun _ => by kernel_rfl) ?_
  refine s_nil ?_
  refine fin_seq ?_
  refine ok_seq ?_
  refine ok_seq ?_
  refine ok_region ?_
  refine s_val (.int .i64 (k : Int)) (by kernel_rfl) (fun _ => by kernel_rfl) ?_
  refine s_dec (p := (k : Int) < 0) false (by kernel_rfl) (fun _ => by kernel_rfl) (decide_eq_false (by omega)) ?_
  refine s_nil ?_
  refine fin_seq ?_
  refine ok_false (by kernel_rfl) ?_
  refine ok_skip ?_
  refine fin_seq ?_
  refine ok_seq ?_
  refine ok_seq ?_
  refine ok_region ?_
  refine s_val (.int .i64 (k : Int)) (by kernel_rfl) (fun _ => by kernel_rfl) ?_
  refine s_val (.slice none 0 0) (by kernel_rfl) (fun _ => by kernel_rfl) ?_
  refine s_val (.int .i64 (0 : Int)) (by kernel_rfl) (fun _ => by kernel_rfl) ?_
  refine s_val (.slice none 0 0) (by kernel_rfl) (fun _ => by kernel_rfl) ?_
  refine s_val (.int .i64 (0 : Int)) (by kernel_rfl) (fun _ => by kernel_rfl) ?_
  refine s_val (.int .i64 0) (by kernel_rfl) (fun _ => by kernel_rfl) ?_
  refine s_val (.int .i64 (k : Int)) (by kernel_rfl) (fun w => sub0 k (fun _ => by kernel_rfl) (by omega) w) ?_
  refine s_val (.int .i64 (k : Int)) (by kernel_rfl) (fun _ => by kernel_rfl) ?_
  refine s_nil ?_
  refine fin_seq ?_
  refine ok_seq ?_
  refine ok_region ?_
  refine s_val (.int .i64 (k : Int)) (by kernel_rfl) (fun _ => by kernel_rfl) ?_
  by_cases h1 : (0 : Int) < (k : Int)
  · skip
    refine s_dec (p := (0 : Int) < (k : Int)) true (by kernel_rfl) (fun _ => by kernel_rfl) (decide_eq_true (h1)) ?_
    refine s_nil ?_
    refine fin_seq ?_
    refine ok_true (by kernel_rfl) ?_
    refine ok_region ?_
    refine s_val (.slice none 0 0) (by kernel_rfl) (fun _ => by kernel_rfl) ?_
    refine s_val (.slice none 0 0) (by kernel_rfl) (fun _ => by kernel_rfl) ?_
    refine s_val (.int .i64 (0 : Int)) (by kernel_rfl) (fun _ => by kernel_rfl) ?_
    refine s_val (.slice none 0 0) (by kernel_rfl) (fun _ => by kernel_rfl) ?_
    refine s_val (.int .i64 (k : Int)) (by kernel_rfl) (fun _ => by kernel_rfl) ?_
    obtain ⟨i, z, e1, e2, e3, e4, e5⟩ := span_info
    refine s_append0 (sz := 14) (k := k) (by kernel_rfl) rfl (by kernel_rfl) (by kernel_rfl) Tryz.underlying22 Tryz.underlying3 e1 e2 e3 e4 (by omega) (by decide) (by unfold maxLen; omega) (by rw [e5]; omega) (fun b cs cap hcs hkc hcm => ?_)
    refine s_val (.slice none 0 0) (by kernel_rfl) (fun _ => by kernel_rfl) ?_
    refine s_val (.int .i64 (0 : Int)) (by kernel_rfl) (fun _ => by kernel_rfl) ?_
    refine s_val (.slice (some ⟨b, 0, none⟩) 0 cap) (by kernel_rfl) (run_slhi (b := b) (off := 0) (n := k) (c := cap) (k := .i64) (j := 0) (e := 43) (sz := 14) rfl (by kernel_rfl) (by kernel_rfl) (by kernel_rfl) (by kernel_rfl) (by omega) (by omega)) ?_
    refine s_val (.slice (some ⟨b, 0, none⟩) 0 cap) (by kernel_rfl) (fun _ => by kernel_rfl) ?_
    refine s_nil ?_
    refine fin_seq ?_
    refine ok_seq ?_
    refine ok_region ?_
    refine s_val (.slice (some ⟨b, 0, none⟩) 0 cap) (by kernel_rfl) (fun _ => by kernel_rfl) ?_
    refine s_val (.slice (some ⟨b, 0, none⟩) 0 cap) (by kernel_rfl) (fun _ => by kernel_rfl) ?_
    refine s_nil ?_
    refine fin_seq ?_
    refine ok_ret ?_
    refine fin_ret (.slice (some ⟨b, 0, none⟩) 0 cap) Tryz.results52 (by kernel_rfl) ?_
    exact fun w hO => ⟨_, [⟨b, cs, 43⟩], rfl, ⟨rfl, .inr ⟨b, cap, cs, rfl, rfl, Nat.zero_le _, hcm, hcs, by simp⟩⟩, hO⟩
  · skip
    refine s_dec (p := (0 : Int) < (k : Int)) false (by kernel_rfl) (fun _ => by kernel_rfl) (decide_eq_false (h1)) ?_
    refine s_nil ?_
    refine fin_seq ?_
    refine ok_false (by kernel_rfl) ?_
    refine ok_skip ?_
    refine fin_seq ?_
    refine ok_seq ?_
    refine ok_region ?_
    refine s_val (.slice none 0 0) (by kernel_rfl) (fun _ => by kernel_rfl) ?_
    refine s_val (.slice none 0 0) (by kernel_rfl) (fun _ => by kernel_rfl) ?_
    refine s_nil ?_
    refine fin_seq ?_
    refine ok_ret ?_
    refine fin_ret (.slice none 0 0) Tryz.results52 (by kernel_rfl) ?_
    exact fun w hO => ⟨_, [], rfl, Sl.nil _ _, by simpa using hO⟩
end Go.Proofs.YtmlecnomdamgnaaGreat
end

section
/-
  slices.Concat of two slices of spans; package row's Or.
-/
namespace Go.Proofs.YtmlecnomdamgnaaGreat
open Go.RowKit
set_option maxRecDepth 100000
set_option linter.unusedVariables false
set_option linter.unusedSimpArgs false
set_option maxHeartbeats 2000000


theorem one_load {P : Program} {ty : TypeId} {w : World} {b o : Nat} {v : Value} (hc : w.cell? ⟨b, o, none⟩ = some v) (hr : readAt P ty [v].toArray 0 = some v) : (loadVar ty ⟨b, o, none⟩).run P w = .ok v w :=
  old_load [v] v (fun j u h => by
    cases j with
    | zero => simp only [List.getElem?_cons_zero, Option.some.injEq] at h; rw [← h]; exact hc
    | succ j => simp at h) hr
theorem concat4_any (A B : Option Addr) (cap capb : Nat) (a b : List Sp) (W : World) (hv : Reads spanC W W.heap.size A a) (hu : Reads spanC W W.heap.size B b) (hn : a.length ≤ 100000) (hm : b.length ≤ 100000) (g : Nat) (hg : W.heap[g]? = some (.cells #[.slice A a.length cap, .slice B b.length capb] 22)) :
    Calls Tryz.prog 32 #[.slice (some ⟨g, 0, none⟩) 2 2] W fun e w' => ∃ v' ob', e = .returned v' ∧ SlS v' (a ++ b) ob' ∧ Own [] W w' ob' := by
  have hglt : g < W.heap.size := (Array.getElem?_eq_some_iff.1 hg).1
  have hcell : ∀ j u, (#[.slice A a.length cap, .slice B b.length capb] : Array Value).toList[j]? = some u → W.cell? ⟨g, 0 + j, none⟩ = some u := fun j u h => by rw [cell_of_row W g (0 + j) _ _ _ hg]; simpa using h
  refine calls_ok (n := 36) Tryz.func32 rfl (by kernel_rfl) (by kernel_rfl) ?_
  refine ok_seq ?_
  refine ok_region ?_
  refine s_val (.slice none 0 0) (by kernel_rfl) (fun _ => by kernel_rfl) ?_
  refine s_nil ?_
  refine fin_seq ?_
  refine ok_seq ?_
  refine ok_region ?_
  refine s_val (.int .i64 0) (by kernel_rfl) (fun _ => by kernel_rfl) ?_
  refine s_nil ?_
  refine fin_seq ?_
  refine ok_seq ?_
  refine ok_seq ?_
  refine ok_region ?_
  refine s_val (.slice (some ⟨g, 0, none⟩) 2 2) (by kernel_rfl) (fun _ => by kernel_rfl) ?_
  refine s_val (.int .i64 (2 : Int)) (by kernel_rfl) (fun _ => by kernel_rfl) ?_
  refine s_val (.int .i64 0) (by kernel_rfl) (fun _ => by kernel_rfl) ?_
  refine s_nil ?_
  refine fin_seq ?_
  refine ok_block ?_
  refine ok_loop (fun L f m => (∃  (j : Nat → Value), (True) ∧ L = [] ∧ f = upds j [(0, .slice (some ⟨g, 0, none⟩) 2 2), (3, .int .i64 0), (9, .slice (some ⟨g, 0, none⟩) 2 2), (10, .int .i64 2), (11, .int .i64 0)] ∧ m = 3) ∨ (∃  (j : Nat → Value), (True) ∧ L = [] ∧ f = upds j [(0, .slice (some ⟨g, 0, none⟩) 2 2), (3, .int .i64 ((0 + a.length : Nat) : Int)), (9, .slice (some ⟨g, 0, none⟩) 2 2), (10, .int .i64 2), (11, .int .i64 1)] ∧ m = 2) ∨ (∃  (j : Nat → Value), (True) ∧ L = [] ∧ f = upds j [(0, .slice (some ⟨g, 0, none⟩) 2 2), (3, .int .i64 ((0 + a.length + b.length : Nat) : Int)), (9, .slice (some ⟨g, 0, none⟩) 2 2), (10, .int .i64 2), (11, .int .i64 2)] ∧ m = 1)) 3 (.inl ⟨_, trivial, rfl, upds_self _ ⟨by kernel_rfl, by kernel_rfl, by kernel_rfl, by kernel_rfl, by kernel_rfl, trivial⟩, rfl⟩) ?_
  rintro L f m (⟨j, hrel, rfl, rfl, rfl⟩ | ⟨j, hrel, rfl, rfl, rfl⟩ | ⟨j, hrel, rfl, rfl, rfl⟩)
  · skip
    refine ok_seq ?_
    refine ok_region ?_
    refine s_val (.bool true) (by kernel_rfl) (fun _ => by kernel_rfl) ?_
    refine s_nil ?_
    refine fin_seq ?_
    refine ok_seq ?_
    refine ok_true (by kernel_rfl) ?_
    refine ok_skip ?_
    refine fin_seq ?_
    refine ok_seq ?_
    refine ok_block ?_
    refine ok_seq ?_
    refine ok_region ?_
    refine s_val (.pointer (some ⟨g, 0, none⟩)) (by kernel_rfl) (run_ixsl (b := g) (off := 0) (n := 2) (c := 2) (k := .i64) (j := 0) (e := 22) (sz := 1) rfl (by kernel_rfl) (by kernel_rfl) (by kernel_rfl) (by kernel_rfl) (by omega) (by omega) (by omega)) ?_
    refine s_old (.slice A a.length cap) (a := ⟨g, 0, none⟩) (by kernel_rfl) rfl (by kernel_rfl) (fun w hO => one_load ((hO.below.cell (p := ⟨g, 0, none⟩) hglt).trans (by simpa using hcell 0 _ rfl)) (by kernel_rfl)) ?_
    refine s_val (.slice A a.length cap) (by kernel_rfl) (fun _ => by kernel_rfl) ?_
    refine s_nil ?_
    refine fin_seq ?_
    refine ok_seq ?_
    refine ok_region ?_
    refine s_val (.int .i64 0) (by kernel_rfl) (fun _ => by kernel_rfl) ?_
    refine s_val (.slice A a.length cap) (by kernel_rfl) (fun _ => by kernel_rfl) ?_
    refine s_val (.int .i64 (a.length : Int)) (by kernel_rfl) (fun _ => by kernel_rfl) ?_
    refine s_sum (k := .i64) (((0 + a.length : Nat) : Int)) (by kernel_rfl) (fun _ => by kernel_rfl) (IntWalk.i64_in _ (by omega)) ?_
    refine s_val (.int .i64 ((0 + a.length : Nat) : Int)) (by kernel_rfl) (fun _ => by kernel_rfl) ?_
    refine s_nil ?_
    refine fin_seq ?_
    refine ok_seq ?_
    refine ok_region ?_
    refine s_val (.int .i64 ((0 + a.length : Nat) : Int)) (by kernel_rfl) (fun _ => by kernel_rfl) ?_
    refine s_dec (p := ((0 + a.length : Nat) : Int) < 0) false (by kernel_rfl) (fun _ => by kernel_rfl) (decide_eq_false (by omega)) ?_
    refine s_nil ?_
    refine fin_seq ?_
    refine ok_false (by kernel_rfl) ?_
    refine ok_skip ?_
    refine fin_block ?_
    refine fin_seq ?_
    refine ok_region ?_
    refine s_val (.int .i64 1) (by kernel_rfl) (fun _ => by kernel_rfl) ?_
    refine s_val (.int .i64 1) (by kernel_rfl) (fun _ => by kernel_rfl) ?_
    refine s_nil ?_
    exact fin_round (m' := 2) (by decide) (.inr (.inl ⟨_, trivial, rfl, upds_self _ ⟨by kernel_rfl, by kernel_rfl, by kernel_rfl, by kernel_rfl, by kernel_rfl, trivial⟩, rfl⟩))
  · skip
    refine ok_seq ?_
    refine ok_region ?_
    refine s_val (.bool true) (by kernel_rfl) (fun _ => by kernel_rfl) ?_
    refine s_nil ?_
    refine fin_seq ?_
    refine ok_seq ?_
    refine ok_true (by kernel_rfl) ?_
    refine ok_skip ?_
    refine fin_seq ?_
    refine ok_seq ?_
    refine ok_block ?_
    refine ok_seq ?_
    refine ok_region ?_
    refine s_val (.pointer (some ⟨g, 1, none⟩)) (by kernel_rfl) (run_ixsl (b := g) (off := 0) (n := 2) (c := 2) (k := .i64) (j := 1) (e := 22) (sz := 1) rfl (by kernel_rfl) (by kernel_rfl) (by kernel_rfl) (by kernel_rfl) (by omega) (by omega) (by omega)) ?_
    refine s_old (.slice B b.length capb) (a := ⟨g, 1, none⟩) (by kernel_rfl) rfl (by kernel_rfl) (fun w hO => one_load ((hO.below.cell (p := ⟨g, 1, none⟩) hglt).trans (by simpa using hcell 1 _ rfl)) (by kernel_rfl)) ?_
    refine s_val (.slice B b.length capb) (by kernel_rfl) (fun _ => by kernel_rfl) ?_
    refine s_nil ?_
    refine fin_seq ?_
    refine ok_seq ?_
    refine ok_region ?_
    refine s_val (.int .i64 ((0 + a.length : Nat) : Int)) (by kernel_rfl) (fun _ => by kernel_rfl) ?_
    refine s_val (.slice B b.length capb) (by kernel_rfl) (fun _ => by kernel_rfl) ?_
    refine s_val (.int .i64 (b.length : Int)) (by kernel_rfl) (fun _ => by kernel_rfl) ?_
    refine s_sum (k := .i64) (((0 + a.length + b.length : Nat) : Int)) (by kernel_rfl) (fun _ => by kernel_rfl) (IntWalk.i64_in _ (by omega)) ?_
    refine s_val (.int .i64 ((0 + a.length + b.length : Nat) : Int)) (by kernel_rfl) (fun _ => by kernel_rfl) ?_
    refine s_nil ?_
    refine fin_seq ?_
    refine ok_seq ?_
    refine ok_region ?_
    refine s_val (.int .i64 ((0 + a.length + b.length : Nat) : Int)) (by kernel_rfl) (fun _ => by kernel_rfl) ?_
    refine s_dec (p := ((0 + a.length + b.length : Nat) : Int) < 0) false (by kernel_rfl) (fun _ => by kernel_rfl) (decide_eq_false (by omega)) ?_
    refine s_nil ?_
    refine fin_seq ?_
    refine ok_false (by kernel_rfl) ?_
    refine ok_skip ?_
    refine fin_block ?_
    refine fin_seq ?_
    refine ok_region ?_
    refine s_val (.int .i64 2) (by kernel_rfl) (fun _ => by kernel_rfl) ?_
    refine s_val (.int .i64 2) (by kernel_rfl) (fun _ => by kernel_rfl) ?_
    refine s_nil ?_
    exact fin_round (m' := 1) (by decide) (.inr (.inr (⟨_, trivial, rfl, upds_self _ ⟨by kernel_rfl, by kernel_rfl, by kernel_rfl, by kernel_rfl, by kernel_rfl, trivial⟩, rfl⟩)))
  · skip
    refine ok_seq ?_
    refine ok_region ?_
    refine s_val (.bool false) (by kernel_rfl) (fun _ => by kernel_rfl) ?_
    refine s_nil ?_
    refine fin_seq ?_
    refine ok_seq ?_
    refine ok_false (by kernel_rfl) ?_
    refine ok_exit ?_
    refine fin_seq_exit ?_
    refine fin_round_exit ?_
    refine fin_block_exit ?_
    refine fin_seq ?_
    refine ok_seq ?_
    refine ok_region ?_
    refine s_val (.int .i64 ((0 + a.length + b.length : Nat) : Int)) (by kernel_rfl) (fun _ => by kernel_rfl) ?_
    refine s_callo (k := 52) (args := #[.slice none 0 0, .int .i64 ((0 + a.length + b.length : Nat) : Int)]) (fun v' L' => SlS v' [] L') (by kernel_rfl) (fun _ => by kernel_rfl) (fun w hO => (grow4_any (0 + a.length + b.length) w (by omega)).mono fun e w' ⟨v', ob', h1, h2, h3⟩ => ⟨v', ob', h1, h2, by simpa using Own.joinN hO h3⟩) (fun v0 o0 hv0 => ?_)
    refine s_cast (L' := o0 ++ []) (List.append_nil _).symm ?_
    refine s_val (v0) (by kernel_rfl) (fun _ => by kernel_rfl) ?_
    refine s_nil ?_
    refine fin_seq ?_
    refine ok_seq ?_
    refine ok_seq ?_
    refine ok_region ?_
    refine s_val (.slice (some ⟨g, 0, none⟩) 2 2) (by kernel_rfl) (fun _ => by kernel_rfl) ?_
    refine s_val (.int .i64 (2 : Int)) (by kernel_rfl) (fun _ => by kernel_rfl) ?_
    refine s_val (.int .i64 0) (by kernel_rfl) (fun _ => by kernel_rfl) ?_
    refine s_nil ?_
    refine fin_seq ?_
    refine ok_block ?_
    refine ok_loop (fun L f m => (∃ (v : Value) (oq : List Blk) (j : Nat → Value), (SlS v ([]) oq) ∧ L = oq ++ [] ∧ f = upds j [(6, v), (25, .slice (some ⟨g, 0, none⟩) 2 2), (26, .int .i64 2), (27, .int .i64 0)] ∧ m = 3) ∨ (∃ (v : Value) (oq : List Blk) (j : Nat → Value), (SlS v (a) oq) ∧ L = oq ++ [] ∧ f = upds j [(6, v), (25, .slice (some ⟨g, 0, none⟩) 2 2), (26, .int .i64 2), (27, .int .i64 1)] ∧ m = 2) ∨ (∃ (v : Value) (oq : List Blk) (j : Nat → Value), (SlS v (a ++ b) oq) ∧ L = oq ++ [] ∧ f = upds j [(6, v), (25, .slice (some ⟨g, 0, none⟩) 2 2), (26, .int .i64 2), (27, .int .i64 2)] ∧ m = 1)) 3 (.inl ⟨_, _, _, hv0, rfl, upds_self _ ⟨by kernel_rfl, by kernel_rfl, by kernel_rfl, by kernel_rfl, trivial⟩, rfl⟩) ?_
    rintro L f m (⟨v, oq, j, hrel, rfl, rfl, rfl⟩ | ⟨v, oq, j, hrel, rfl, rfl, rfl⟩ | ⟨v, oq, j, hrel, rfl, rfl, rfl⟩)
    · skip
      unfold SlS at hrel
      refine ok_seq ?_
      refine ok_region ?_
      refine s_val (.bool true) (by kernel_rfl) (fun _ => by kernel_rfl) ?_
      refine s_nil ?_
      refine fin_seq ?_
      refine ok_seq ?_
      refine ok_true (by kernel_rfl) ?_
      refine ok_skip ?_
      refine fin_seq ?_
      refine ok_seq ?_
      refine ok_block ?_
      refine ok_seq ?_
      refine ok_region ?_
      refine s_val (.pointer (some ⟨g, 0, none⟩)) (by kernel_rfl) (run_ixsl (b := g) (off := 0) (n := 2) (c := 2) (k := .i64) (j := 0) (e := 22) (sz := 1) rfl (by kernel_rfl) (by kernel_rfl) (by kernel_rfl) (by kernel_rfl) (by omega) (by omega) (by omega)) ?_
      refine s_old (.slice A a.length cap) (a := ⟨g, 0, none⟩) (by kernel_rfl) rfl (by kernel_rfl) (fun w hO => one_load ((hO.below.cell (p := ⟨g, 0, none⟩) hglt).trans (by simpa using hcell 0 _ rfl)) (by kernel_rfl)) ?_
      refine s_val (.slice A a.length cap) (by kernel_rfl) (fun _ => by kernel_rfl) ?_
      refine s_nil ?_
      refine fin_seq ?_
      refine ok_region ?_
      refine s_val (v) (by kernel_rfl) (fun _ => by kernel_rfl) ?_
      refine s_val (.slice A a.length cap) (by kernel_rfl) (fun _ => by kernel_rfl) ?_
      obtain ⟨i, z, e1, e2, e3, e4, e5⟩ := span_info
      refine s_cast (L' := [] ++ oq ++ []) (by simp) ?_
      refine s_appendR (E := []) (ob := oq) (L0 := []) (sz := 14) (l := a) (A := A) (c := cap) spanC_len (by kernel_rfl) rfl Tryz.underlying22 e1 e2 e3 e4 (by kernel_rfl) hrel (by kernel_rfl) (fun w hO => hv.on hO.below hO.size) span_cells (by unfold maxLen; first | (simp; omega) | omega) (by rw [e5]; first | (simp; omega) | omega) (fun va oa hva => ?_)
      refine s_cast (L' := oa ++ []) (by simp) ?_
      have hva2 : SlS va (a) oa := hva.to (by simp) (by simp)
      refine s_val (va) (by kernel_rfl) (fun _ => by kernel_rfl) ?_
      refine s_nil ?_
      refine fin_block ?_
      refine fin_seq ?_
      refine ok_region ?_
      refine s_val (.int .i64 1) (by kernel_rfl) (fun _ => by kernel_rfl) ?_
      refine s_val (.int .i64 1) (by kernel_rfl) (fun _ => by kernel_rfl) ?_
      refine s_nil ?_
      exact fin_round (m' := 2) (by decide) (.inr (.inl ⟨va, oa, _, hva2, rfl, upds_self _ ⟨by kernel_rfl, by kernel_rfl, by kernel_rfl, by kernel_rfl, trivial⟩, rfl⟩))
    · skip
      unfold SlS at hrel
      refine ok_seq ?_
      refine ok_region ?_
      refine s_val (.bool true) (by kernel_rfl) (fun _ => by kernel_rfl) ?_
      refine s_nil ?_
      refine fin_seq ?_
      refine ok_seq ?_
      refine ok_true (by kernel_rfl) ?_
      refine ok_skip ?_
      refine fin_seq ?_
      refine ok_seq ?_
      refine ok_block ?_
      refine ok_seq ?_
      refine ok_region ?_
      refine s_val (.pointer (some ⟨g, 1, none⟩)) (by kernel_rfl) (run_ixsl (b := g) (off := 0) (n := 2) (c := 2) (k := .i64) (j := 1) (e := 22) (sz := 1) rfl (by kernel_rfl) (by kernel_rfl) (by kernel_rfl) (by kernel_rfl) (by omega) (by omega) (by omega)) ?_
      refine s_old (.slice B b.length capb) (a := ⟨g, 1, none⟩) (by kernel_rfl) rfl (by kernel_rfl) (fun w hO => one_load ((hO.below.cell (p := ⟨g, 1, none⟩) hglt).trans (by simpa using hcell 1 _ rfl)) (by kernel_rfl)) ?_
      refine s_val (.slice B b.length capb) (by kernel_rfl) (fun _ => by kernel_rfl) ?_
      refine s_nil ?_
      refine fin_seq ?_
      refine ok_region ?_
      refine s_val (v) (by kernel_rfl) (fun _ => by kernel_rfl) ?_
      refine s_val (.slice B b.length capb) (by kernel_rfl) (fun _ => by kernel_rfl) ?_
      obtain ⟨i, z, e1, e2, e3, e4, e5⟩ := span_info
      refine s_cast (L' := [] ++ oq ++ []) (by simp) ?_
      refine s_appendR (E := []) (ob := oq) (L0 := []) (sz := 14) (l := b) (A := B) (c := capb) spanC_len (by kernel_rfl) rfl Tryz.underlying22 e1 e2 e3 e4 (by kernel_rfl) hrel (by kernel_rfl) (fun w hO => hu.on hO.below hO.size) span_cells (by unfold maxLen; first | (simp; omega) | omega) (by rw [e5]; first | (simp; omega) | omega) (fun va oa hva => ?_)
      refine s_cast (L' := oa ++ []) (by simp) ?_
      have hva2 : SlS va (a ++ b) oa := hva.to (by simp) (by simp)
      refine s_val (va) (by kernel_rfl) (fun _ => by kernel_rfl) ?_
      refine s_nil ?_
      refine fin_block ?_
      refine fin_seq ?_
      refine ok_region ?_
      refine s_val (.int .i64 2) (by kernel_rfl) (fun _ => by kernel_rfl) ?_
      refine s_val (.int .i64 2) (by kernel_rfl) (fun _ => by kernel_rfl) ?_
      refine s_nil ?_
      exact fin_round (m' := 1) (by decide) (.inr (.inr (⟨va, oa, _, hva2, rfl, upds_self _ ⟨by kernel_rfl, by kernel_rfl, by kernel_rfl, by kernel_rfl, trivial⟩, rfl⟩)))
    · skip
      unfold SlS at hrel
      refine ok_seq ?_
      refine ok_region ?_
      refine s_val (.bool false) (by kernel_rfl) (fun _ => by kernel_rfl) ?_
      refine s_nil ?_
      refine fin_seq ?_
      refine ok_seq ?_
      refine ok_false (by kernel_rfl) ?_
      refine ok_exit ?_
      refine fin_seq_exit ?_
      refine fin_round_exit ?_
      refine fin_block_exit ?_
      refine fin_seq ?_
      refine ok_seq ?_
      refine ok_region ?_
      refine s_val (v) (by kernel_rfl) (fun _ => by kernel_rfl) ?_
      refine s_val (v) (by kernel_rfl) (fun _ => by kernel_rfl) ?_
      refine s_nil ?_
      refine fin_seq ?_
      refine ok_ret ?_
      refine fin_ret (v) Tryz.results32 (by kernel_rfl) ?_
      exact fun w hO => ⟨v, oq, rfl, hrel, by simpa using hO⟩
theorem or4_any (A B : Option Addr) (cap capb : Nat) (a b : List Sp) (W : World) (hv : Reads spanC W W.heap.size A a) (hu : Reads spanC W W.heap.size B b) (hn : a.length ≤ 100000) (hm : b.length ≤ 100000) (ha : ShortL a) (hb : ShortL b) :
    Calls Tryz.prog 15 #[.slice A a.length cap, .slice B b.length capb] W fun e w' => ∃ v' ob', e = .returned v' ∧ SlS v' (if rowMay a && rowMay b then orL a b else []) ob' ∧ Own [] W w' ob' := by
  refine calls_ok (n := 24) Tryz.func15 rfl (by kernel_rfl) (by kernel_rfl) ?_
  refine ok_seq ?_
  refine ok_region ?_
  refine s_val (.slice none 0 0) (by kernel_rfl) (fun _ => by kernel_rfl) ?_
  refine s_nil ?_
  refine fin_seq ?_
  refine ok_seq ?_
  refine ok_seq ?_
  refine ok_region ?_
  refine s_val (.slice A a.length cap) (by kernel_rfl) (fun _ => by kernel_rfl) ?_
  refine s_call (k := 23) (args := #[.slice A a.length cap]) (.bool (rowMay a)) (by kernel_rfl) (fun _ => by kernel_rfl) (fun w hO => may4_any A cap a w (hv.on hO.below hO.size) (by omega) ha) ?_
  cases h1 : rowMay a with
  | true =>
    refine s_val (.bool false) (by kernel_rfl) (fun _ => by kernel_rfl) ?_
    refine s_val (.bool false) (by kernel_rfl) (fun _ => by kernel_rfl) ?_
    refine s_val (.slice B b.length capb) (by kernel_rfl) (fun _ => by kernel_rfl) ?_
    refine s_call (k := 23) (args := #[.slice B b.length capb]) (.bool (rowMay b)) (by kernel_rfl) (fun _ => by kernel_rfl) (fun w hO => may4_any B capb b w (hu.on hO.below hO.size) (by omega) hb) ?_
    cases h2 : rowMay b with
    | true =>
      refine s_val (.bool false) (by kernel_rfl) (fun _ => by kernel_rfl) ?_
      refine s_val (.bool false) (by kernel_rfl) (fun _ => by kernel_rfl) ?_
      refine s_nil ?_
      refine fin_seq ?_
      refine ok_false (by kernel_rfl) ?_
      refine ok_skip ?_
      refine fin_seq ?_
      refine ok_seq ?_
      refine ok_region ?_
      refine s_val (.slice A a.length cap) (by kernel_rfl) (fun _ => by kernel_rfl) ?_
      refine s_val (.slice B b.length capb) (by kernel_rfl) (fun _ => by kernel_rfl) ?_
      refine s_lit 22 #[.slice A a.length cap, .slice B b.length capb] (by kernel_rfl) rfl (fun _ => by kernel_rfl) (fun b1 => ?_)
      refine s_callo (k := 32) (args := #[.slice (some ⟨b1, 0, none⟩) 2 2]) (fun v' L' => SlS v' (a ++ b) L') (by kernel_rfl) (fun _ => by kernel_rfl) (fun w hO => (concat4_any A B cap capb a b w (hv.on hO.below hO.size) (hu.on hO.below hO.size) hn hm b1 (hO.held _ List.mem_cons_self)).mono fun e w' ⟨v', ob', h1, h2, h3⟩ => ⟨v', ob', h1, h2, Own.take (Own.joinN hO h3) (fun x hx => List.mem_append_left _ hx) h3.apart⟩) (fun cv oc hcv => ?_)
      obtain ⟨C, capc, rfl⟩ := hcv.form
      have hlen : (a ++ b).length ≤ 200000 := by rw [List.length_append]; omega
      have hlab := both_short ha hb
      refine s_callo (k := 26) (args := #[.slice C (a ++ b).length capc]) (fun v' L' => ∃ mv, v' = .tuple #[mv, .bool (allMay (a ++ b))] ∧ SlS mv (if allMay (a ++ b) then makeL (a ++ b) else []) L') (by kernel_rfl) (fun _ => by kernel_rfl) (fun w hO => (make4_any C capc (a ++ b) w (Sl.reads hcv rfl hO (fun x hx => hx)) (by omega) hlab).mono fun e w' ⟨v', ob', h1, h2, h3⟩ => ⟨_, ob', h1, ⟨v', rfl, h2⟩, Own.take (Own.joinN hO h3) (fun x hx => List.mem_append_left _ hx) h3.apart⟩) (fun tv om htv => ?_)
      obtain ⟨mv, rfl, hmv⟩ := htv
      refine s_val (.tuple #[mv, .bool (allMay (a ++ b))]) (by kernel_rfl) (fun _ => by kernel_rfl) ?_
      refine s_val (mv) (by kernel_rfl) (fun _ => by kernel_rfl) ?_
      refine s_val (.bool (allMay (a ++ b))) (by kernel_rfl) (fun _ => by kernel_rfl) ?_
      refine s_val (mv) (by kernel_rfl) (fun _ => by kernel_rfl) ?_
      refine s_val (.bool (allMay (a ++ b))) (by kernel_rfl) (fun _ => by kernel_rfl) ?_
      refine s_nil ?_
      refine fin_seq ?_
      refine ok_seq ?_
      refine ok_region ?_
      refine s_val (mv) (by kernel_rfl) (fun _ => by kernel_rfl) ?_
      refine s_val (mv) (by kernel_rfl) (fun _ => by kernel_rfl) ?_
      refine s_nil ?_
      refine fin_seq ?_
      refine ok_ret ?_
      refine fin_ret (mv) Tryz.results15 (by kernel_rfl) ?_
      exact fun w hO => ⟨mv, om, rfl, by rw [if_pos (by simp)]; unfold orL; have hall : allMay (a ++ b) = true := allMay_mem.2 (both_may (by assumption) (by assumption)); rw [hall, if_pos rfl] at hmv; exact hmv, hO⟩
    | false =>
      refine s_val (.bool true) (by kernel_rfl) (fun _ => by kernel_rfl) ?_
      refine s_val (.bool true) (by kernel_rfl) (fun _ => by kernel_rfl) ?_
      refine s_nil ?_
      refine fin_seq ?_
      refine ok_true (by kernel_rfl) ?_
      refine ok_seq ?_
      refine ok_region ?_
      refine s_val (.slice none 0 0) (by kernel_rfl) (fun _ => by kernel_rfl) ?_
      refine s_nil ?_
      refine fin_seq ?_
      refine ok_ret ?_
      refine fin_seq_ret ?_
      refine fin_ret (.slice none 0 0) Tryz.results15 (by kernel_rfl) ?_
      exact fun w hO => ⟨_, [], rfl, by rw [if_neg (by simp)]; exact Sl.nil _ _, by simpa using hO⟩
  | false =>
    refine s_val (.bool true) (by kernel_rfl) (fun _ => by kernel_rfl) ?_
    refine s_val (.bool true) (by kernel_rfl) (fun _ => by kernel_rfl) ?_
    refine s_skip (by kernel_rfl) ?_
    refine s_skip (by kernel_rfl) ?_
    refine s_skip (by kernel_rfl) ?_
    refine s_val (.bool true) (by kernel_rfl) (fun _ => by kernel_rfl) ?_
    refine s_nil ?_
    refine fin_seq ?_
    refine ok_true (by kernel_rfl) ?_
    refine ok_seq ?_
    refine ok_region ?_
    refine s_val (.slice none 0 0) (by kernel_rfl) (fun _ => by kernel_rfl) ?_
    refine s_nil ?_
    refine fin_seq ?_
    refine ok_ret ?_
    refine fin_seq_ret ?_
    refine fin_ret (.slice none 0 0) Tryz.results15 (by kernel_rfl) ?_
    exact fun w hO => ⟨_, [], rfl, by rw [if_neg (by simp)]; exact Sl.nil _ _, by simpa using hO⟩
end Go.Proofs.YtmlecnomdamgnaaGreat
end
