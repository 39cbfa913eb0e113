/-
  SetList: for every input the call returns true, and each argument reads afterwards as it read before. Conditions: none but the row's own.
-/
import Derived.Test.YtgeccfdofmnphaaRows
import Derived.Test.YtgeccfdofmnphaaM5

section
/-
  SetList: for any lists of numbers the law returns true, and nothing that was there is changed. No condition.
-/
namespace Go.Proofs.Ytgeccfdofmnphaa
open Go.RowKit
set_option maxRecDepth 100000
set_option linter.unusedVariables false
set_option linter.unusedSimpArgs false
set_option maxHeartbeats 2000000

/-- How many spans a row has at most after k rounds. -/
def bdK : Nat → Nat
  | 0 => 0
  | k + 1 => 2 + 2 * (bdK k + 1)
theorem bd_le {k : Nat} (h : k ≤ 8) : bdK k ≤ 1020 := (by decide : ∀ k, k < 9 → bdK k ≤ 1020) k (by omega)
structure LiI (x0 v : Ver) (k : Nat) (s : St) (q : Bool) : Prop where
  le : k ≤ 8
  sf : SF s (bdK k)
  has : setHas s v = q
  first : 0 < k → andT (exactT x0) s = exactT x0
theorem LiI.start (x0 v : Ver) : LiI x0 v 0 noneT false := ⟨Nat.zero_le _, none_sf, setHas_none, fun h => absurd h (Nat.lt_irrefl 0)⟩
theorem LiI.step {x0 x v : Ver} {k : Nat} {s : St} {q r : Bool} (h : LiI x0 v k s q) (hk : k < 8) (mx0 : x0.may = true) (mx : x.may = true) (mv : v.may = true) (h0 : k = 0 → x = x0) (hr : (q || decide (cmpR x v = 0)) = r) : LiI x0 v (k + 1) (orT s (exactT x)) r := by
  have e0 := exact_sf x0
  have e1 := exact_sf x
  refine ⟨hk, h.sf.or e1, ?_, fun _ => ?_⟩
  · rw [setHas_or h.sf e1 mv, h.has, exact_has mx mv]; exact hr
  · by_cases hz : k = 0
    · rw [h0 hz]
      exact andT_eq.2 ⟨within_or_r e0.rel.may h.sf.rel.may e0.rel.may (within_self e0.rel.may), within_or_r e0.pre.may h.sf.pre.may e0.pre.may (within_self e0.pre.may)⟩
    · have hf := andT_eq.1 (h.first (by omega))
      exact andT_eq.2 ⟨within_or_l e0.rel.may h.sf.rel.may e1.rel.may hf.1, within_or_l e0.pre.may h.sf.pre.may e1.pre.may hf.2⟩
theorem own_li {M : List Nat} {W w : World} {x y z : Blk} {A B C : List Blk} (h : Own M W w ((x :: (A ++ (B ++ []))) ++ (y :: z :: C))) : Own M W w (x :: z :: A) :=
  (h.sublist (by rw [List.append_nil, List.cons_append, List.append_assoc]; exact List.Sublist.cons_cons x ((List.Sublist.refl A).append ((List.Sublist.cons y (List.Sublist.cons_cons z (List.nil_sublist C))).trans (List.sublist_append_right B _))))).perm ((List.perm_append_comm (l₁ := A) (l₂ := [z])).cons x)
theorem minus_self {s : St} {v : Ver} {n : Nat} (h : SF s n) (mv : v.may = true) : setHas (minusT s (exactT v)) v = false := by
  rw [setHas_minus h (exact_sf v) mv, exact_has mv mv, decide_eq_true ((cmpR_core rfl : cmpR v v = 0))]
  simp
set_option maxHeartbeats 8000000 in
theorem setList.law (W : World) (x : Value) (xl : List Int) (hxl : ReadsI W W.heap.size x xl) (lxl : xl.length ≤ maxLen) (y : Value) (yl : List Int) (hyl : ReadsI W W.heap.size y yl) (lyl : yl.length ≤ maxLen) :
    Calls Try.prog 4 #[x, y] W fun e w' => e = .returned (.bool true) ∧ Below W.heap.size W w' := by
  obtain ⟨x0, ex0⟩ : ∃ q, q = genV xl 0 := ⟨_, rfl⟩
  have mx0 : x0.may = true := ex0 ▸ gen_may xl 0
  have sx0 : x0.short := ex0 ▸ ⟨Nat.le_trans (gen_pre xl 0) (by decide), Nat.le_trans (gen_bld xl 0) (by decide)⟩
  obtain ⟨v, ev⟩ : ∃ q, q = genV yl 0 := ⟨_, rfl⟩
  have mv : v.may = true := ev ▸ gen_may yl 0
  have sv : v.short := ev ▸ ⟨Nat.le_trans (gen_pre yl 0) (by decide), Nat.le_trans (gen_bld yl 0) (by decide)⟩
  refine calls_ok (n := 60) Try.func4 rfl (by kernel_rfl) (by kernel_rfl) ?_
  refine ok_seq ?_
  refine ok_region ?_
  refine s_val (.bool false) (by kernel_rfl) (fun _ => by kernel_rfl) ?_
  refine s_nil ?_
  refine fin_seq ?_
  refine ok_seq ?_
  refine ok_region ?_
  refine s_call (k := 16) (args := #[]) (.agg #[.slice none 0 0, .slice none 0 0]) (by kernel_rfl) (fun _ => by kernel_rfl) (fun w _ => sNone_any w) ?_
  refine s_val (y) (by kernel_rfl) (fun _ => by kernel_rfl) ?_
  refine s_call (k := 5) (args := #[y, .int .i64 0]) (verV v) (by kernel_rfl) (fun _ => by kernel_rfl) (fun w hO => ret_v (by rw [ev]) (gen_any y yl 0 w ((hyl.below hO.below).more hO.below.size) (by unfold maxLen at lyl; omega) (by omega))) ?_
  refine s_alloc_at (.agg #[.slice none 0 0, .slice none 0 0]) (by kernel_rfl) rfl (by kernel_rfl) (fun b1 => ?_)
  refine s_alloc_at (.agg #[.int .i64 0, .int .i64 0, .int .i64 0, .string ⟨#[]⟩, .string ⟨#[]⟩]) (by kernel_rfl) rfl (by kernel_rfl) (fun b2 => ?_)
  refine s_store_at 1 ⟨b1, #[.slice none 0 0, .slice none 0 0], 28⟩ (off := 0) (.agg #[.slice none 0 0, .slice none 0 0]) (by kernel_rfl) rfl rfl (by kernel_rfl) (by kernel_rfl) (by kernel_rfl) (by kernel_rfl) (by kernel_rfl) ?_
  refine s_store_at 0 ⟨b2, #[.int .i64 0, .int .i64 0, .int .i64 0, .string ⟨#[]⟩, .string ⟨#[]⟩], 24⟩ (off := 0) (verV v) (by kernel_rfl) rfl rfl (by kernel_rfl) (by kernel_rfl) (by kernel_rfl) (by kernel_rfl) (by kernel_rfl) ?_
  refine s_take (L' := [⟨b1, #[.slice none 0 0, .slice none 0 0], 28⟩, ⟨b2, (verV v).cells, 24⟩]) (fun w hO => hO.perm (List.Perm.swap ..)) ?_
  refine s_nil ?_
  refine fin_seq ?_
  refine ok_seq ?_
  refine ok_region ?_
  refine s_val (.bool false) (by kernel_rfl) (fun _ => by kernel_rfl) ?_
  refine s_nil ?_
  refine fin_seq ?_
  refine ok_seq ?_
  refine ok_seq ?_
  refine ok_region ?_
  refine s_val (.int .i64 0) (by kernel_rfl) (fun _ => by kernel_rfl) ?_
  refine s_nil ?_
  refine fin_seq ?_
  refine ok_block ?_
  refine ok_loop (fun L f m => ∃ (k : Nat) (A : Option Addr) (B : Option Addr) (c : Nat) (d : Nat) (s : St) (q : Bool) (ob : List Blk) (j : Nat → Value), (LiI x0 v k s q ∧ SetO (.agg #[.slice A s.rel.length c, .slice B s.pre.length d]) s ob) ∧ L = ⟨b1, #[.slice A s.rel.length c, .slice B s.pre.length d], 28⟩ :: ⟨b2, (verV v).cells, 24⟩ :: ob ∧ f = upds j [(0, x), (5, .pointer (some ⟨b1, 0, none⟩)), (6, .pointer (some ⟨b2, 0, none⟩)), (7, .bool q), (8, .int .i64 (k : Int))] ∧ m = 8 - k) (8 - 0) ⟨0, none, none, 0, 0, noneT, false, [], _, ⟨LiI.start x0 v, SetO.none⟩, rfl, upds_self _ ⟨by kernel_rfl, by kernel_rfl, by kernel_rfl, by kernel_rfl, by kernel_rfl, trivial⟩, rfl⟩ ?_
  rintro L f m ⟨k, A, B, c, d, s, q, ob, j, hrel, rfl, rfl, rfl⟩
  obtain ⟨hrel, hrs⟩ := hrel; have hkl := hrel.le; have hF : SF s 1020 := hrel.sf.le (bd_le hrel.le); obtain ⟨x1, ex1⟩ : ∃ q, q = genV xl (5 * k) := ⟨_, rfl⟩; have mx1 : x1.may = true := ex1 ▸ gen_may xl (5 * k); have sx1 : x1.short := ex1 ▸ ⟨Nat.le_trans (gen_pre xl (5 * k)) (by decide), Nat.le_trans (gen_bld xl (5 * k)) (by decide)⟩
  refine ok_seq ?_
  refine ok_seq ?_
  refine ok_region ?_
  refine s_val (.int .i64 (k : Int)) (by kernel_rfl) (fun _ => by kernel_rfl) ?_
  by_cases h1 : (k : Int) < 8
  · skip
    refine s_dec (p := (k : Int) < 8) true (by kernel_rfl) (fun _ => by kernel_rfl) (decide_eq_true (h1)) ?_
    refine s_nil ?_
    refine fin_seq ?_
    refine ok_true (by kernel_rfl) ?_
    refine ok_skip ?_
    refine fin_seq ?_
    refine ok_seq ?_
    refine ok_block ?_
    refine ok_seq ?_
    refine ok_region ?_
    refine s_val (x) (by kernel_rfl) (fun _ => by kernel_rfl) ?_
    refine s_val (.int .i64 (k : Int)) (by kernel_rfl) (fun _ => by kernel_rfl) ?_
    refine s_sum (k := .i64) (((5 * k : Nat) : Int)) (by kernel_rfl) (fun _ => by kernel_rfl) (IntWalk.i64_in _ (by omega)) ?_
    refine s_call (k := 5) (args := #[x, .int .i64 ((5 * k : Nat) : Int)]) (verV x1) (by kernel_rfl) (fun _ => by kernel_rfl) (fun w hO => ret_v (by rw [ex1]) (gen_any x xl (5 * k) w ((hxl.below hO.below).more hO.below.size) (by unfold maxLen at lxl; omega) (by omega))) ?_
    refine s_alloc_at (.agg #[.int .i64 0, .int .i64 0, .int .i64 0, .string ⟨#[]⟩, .string ⟨#[]⟩]) (by kernel_rfl) rfl (by kernel_rfl) (fun b3 => ?_)
    refine s_store_at 0 ⟨b3, #[.int .i64 0, .int .i64 0, .int .i64 0, .string ⟨#[]⟩, .string ⟨#[]⟩], 24⟩ (off := 0) (verV x1) (by kernel_rfl) rfl rfl (by kernel_rfl) (by kernel_rfl) (by kernel_rfl) (by kernel_rfl) (by kernel_rfl) ?_
    refine s_take (L' := ⟨b1, #[.slice A s.rel.length c, .slice B s.pre.length d], 28⟩ :: (⟨b3, (verV x1).cells, 24⟩ :: (⟨b2, (verV v).cells, 24⟩ :: (ob)))) (fun w hO => hO.perm (List.Perm.swap ..)) ?_
    refine s_nil ?_
    refine fin_seq ?_
    refine ok_seq ?_
    refine ok_anyhL (⟨b3, (verV x1).cells, 24⟩ :: (⟨b2, (verV v).cells, 24⟩ :: (ob))) (by kernel_rfl) (fun w hO => Own.sub [⟨b1, #[.slice A s.rel.length c, .slice B s.pre.length d], 28⟩] hO) ?_
    refine h_load 1 [⟨b1, #[.slice A s.rel.length c, .slice B s.pre.length d], 28⟩] _ 0 ⟨b3, (verV x1).cells, 24⟩ (off := 0) (verV x1) rfl (by kernel_rfl) (by kernel_rfl) (by kernel_rfl) (pq_seq (pq_block (pq_seq (pq_round (pq_block (pq_seq pq_body)))))) (by kernel_rfl) rfl (by kernel_rfl) (by kernel_rfl) (by kernel_rfl) ?_
    refine h_two 0 2 (by kernel_rfl) ?_ ?_
    · skip
      refine hs_val [⟨b1, #[.slice A s.rel.length c, .slice B s.pre.length d], 28⟩] _ (.agg #[.slice A s.rel.length c, .slice B s.pre.length d]) rfl (by kernel_rfl) (fun w hO => run_load_op (a := ⟨b1, 0, none⟩) rfl (by kernel_rfl) (run_readAt (off := 0) (cs := (⟨b1, #[.slice A s.rel.length c, .slice B s.pre.length d], 28⟩ : Blk).cs) (by kernel_rfl) (hO.held ⟨b1, #[.slice A s.rel.length c, .slice B s.pre.length d], 28⟩ (by simp)))) ?_
      refine h_one 2 (by kernel_rfl) ?_
      refine hl_callx _ (k := 6) (args := #[verV x1]) (fun v' L' => ∃ ob', L' = ob' ++ ([⟨b1, #[.slice A s.rel.length c, .slice B s.pre.length d], 28⟩] ++ (⟨b3, (verV x1).cells, 24⟩ :: (⟨b2, (verV v).cells, 24⟩ :: (ob)))) ∧ SetO v' (exactT x1) ob') rfl (by kernel_rfl) (fun _ => by kernel_rfl) (fun w hO => (sExact_any x1 w sx1).mono fun e w' ⟨v', ob', k1, k2, k3⟩ => ⟨v', _, k1, ⟨ob', rfl, k2⟩, Own.joinN hO k3⟩) (fun v' L' ⟨ob', e, _⟩ w hO => by subst e; exact Own.sub [⟨b1, #[.slice A s.rel.length c, .slice B s.pre.length d], 28⟩] (Own.sub ob' hO)) (fun v1 L2 hv2 => ?_)
      obtain ⟨o1, rfl, hr1⟩ := hv2
      obtain ⟨V1, U1, c1, d1, rfl⟩ := hr1.form
      refine h_cast (L' := (o1 ++ ([⟨b1, #[.slice A s.rel.length c, .slice B s.pre.length d], 28⟩] : List Blk)) ++ (⟨b3, (verV x1).cells, 24⟩ :: (⟨b2, (verV v).cells, 24⟩ :: (ob)))) (List.append_assoc _ _ _).symm ?_
      refine h_one 3 (by kernel_rfl) ?_
      refine hl_callx _ (k := 17) (args := #[.agg #[.slice A s.rel.length c, .slice B s.pre.length d], .agg #[.slice V1 ((exactT x1).rel.length) c1, .slice U1 ((exactT x1).pre.length) d1]]) (fun v' L' => ∃ ob', L' = ob' ++ ((o1 ++ ([⟨b1, #[.slice A s.rel.length c, .slice B s.pre.length d], 28⟩] : List Blk)) ++ (⟨b3, (verV x1).cells, 24⟩ :: (⟨b2, (verV v).cells, 24⟩ :: (ob)))) ∧ SetO v' (orT s (exactT x1)) ob') rfl (by kernel_rfl) (fun _ => by kernel_rfl) (fun w hO => (sOr_any A B V1 U1 c d c1 d1 s (exactT x1) w (SetO.inn hrs hO (fun x hx => by simp [hx]) hF (by decide)) (SetO.inn hr1 hO (fun x hx => by simp [hx]) (exact_sf x1) (by decide)) hrs.caps hr1.caps).mono fun e w' ⟨v', ob', k1, k2, k3⟩ => ⟨v', _, k1, ⟨ob', rfl, by rw [if_pos (by rw [(hF).may, (exact_sf x1).may]; rfl)] at k2; exact k2⟩, Own.joinN hO k3⟩) (fun v' L' ⟨ob', e, _⟩ w hO => by subst e; exact Own.sub (o1 ++ ([⟨b1, #[.slice A s.rel.length c, .slice B s.pre.length d], 28⟩] : List Blk)) (Own.sub ob' hO)) (fun v2 L2 hv2 => ?_)
      obtain ⟨o2, rfl, hr2⟩ := hv2
      obtain ⟨V2, U2, c2, d2, rfl⟩ := hr2.form
      refine h_cast (L' := (o2 ++ (o1 ++ ([⟨b1, #[.slice A s.rel.length c, .slice B s.pre.length d], 28⟩] : List Blk))) ++ (⟨b3, (verV x1).cells, 24⟩ :: (⟨b2, (verV v).cells, 24⟩ :: (ob)))) (List.append_assoc _ _ _).symm ?_
      refine h_one 4 (by kernel_rfl) ?_
      refine hs_front (E' := (⟨b1, #[.slice A s.rel.length c, .slice B s.pre.length d], 28⟩ :: (o2 ++ (o1 ++ ([] : List Blk))))) (by simpa [List.append_assoc] using (List.perm_middle (a := ⟨b1, #[.slice A s.rel.length c, .slice B s.pre.length d], 28⟩) (l₁ := (o2 ++ (o1 ++ ([] : List Blk)))) (l₂ := []))) ?_
      refine hs_store (⟨b1, #[.slice A s.rel.length c, .slice B s.pre.length d], 28⟩ :: (o2 ++ (o1 ++ ([] : List Blk)))) _ 0 ⟨b1, #[.slice A s.rel.length c, .slice B s.pre.length d], 28⟩ (off := 0) (.agg #[.slice V2 ((orT s (exactT x1)).rel.length) c2, .slice U2 ((orT s (exactT x1)).pre.length) d2]) rfl (by kernel_rfl) rfl rfl (by kernel_rfl) (by kernel_rfl) (by kernel_rfl) (by kernel_rfl) (by kernel_rfl) ?_
      refine h_done (by kernel_rfl) ?_
      refine fin_seq ?_
      refine ok_region ?_
      refine s_val (.bool q) (by kernel_rfl) (fun _ => by kernel_rfl) ?_
      refine s_val (.bool q) (by kernel_rfl) (fun _ => by kernel_rfl) ?_
      cases h2 : q with
      | true =>
        refine s_skip (by kernel_rfl) ?_
        refine s_skip (by kernel_rfl) ?_
        refine s_skip (by kernel_rfl) ?_
        refine s_skip (by kernel_rfl) ?_
        refine s_val (.bool true) (by kernel_rfl) (fun _ => by kernel_rfl) ?_
        refine s_val (.bool true) (by kernel_rfl) (fun _ => by kernel_rfl) ?_
        refine s_nil ?_
        refine fin_block ?_
        refine fin_seq ?_
        refine ok_region ?_
        refine s_val (.int .i64 (k : Int)) (by kernel_rfl) (fun _ => by kernel_rfl) ?_
        refine s_sum (k := .i64) (((k + 1 : Nat) : Int)) (by kernel_rfl) (fun _ => by kernel_rfl) (IntWalk.i64_in _ (by omega)) ?_
        refine s_val (.int .i64 ((k + 1 : Nat) : Int)) (by kernel_rfl) (fun _ => by kernel_rfl) ?_
        refine s_nil ?_
        refine fin_take (L' := ⟨b1, #[.slice V2 ((orT s (exactT x1)).rel.length) c2, .slice U2 ((orT s (exactT x1)).pre.length) d2], 28⟩ :: ⟨b2, (verV v).cells, 24⟩ :: o2) (fun w hO => own_li hO) ?_
        exact fin_round (m' := 8 - (k + 1)) (by omega) ⟨k + 1, V2, U2, c2, d2, orT s (exactT x1), true, o2, _, ⟨hrel.step (by omega) mx0 mx1 mv (fun hz => by rw [ex1, ex0, hz]) (by simp [h1, h2]), hr2⟩, rfl, upds_self _ ⟨by kernel_rfl, by kernel_rfl, by kernel_rfl, by kernel_rfl, by kernel_rfl, trivial⟩, rfl⟩
      | false =>
        refine s_loadm ⟨b3, (verV x1).cells, 24⟩ (off := 0) (verV x1) (by kernel_rfl) rfl (by simp) (by kernel_rfl) (by kernel_rfl) ?_
        refine s_loadm ⟨b2, (verV v).cells, 24⟩ (off := 0) (verV v) (by kernel_rfl) rfl (by simp) (by kernel_rfl) (by kernel_rfl) ?_
        refine s_call (k := 7) (args := #[verV x1, verV v]) (.int .i64 (cmpR x1 v)) (by kernel_rfl) (fun _ => by kernel_rfl) (fun w _ => vcompare_any x1 v w sx1.1 sx1.2 sv.1 sv.2) ?_
        by_cases h3 : (cmpR x1 v : Int) = 0
        · skip
          refine s_dec (p := (cmpR x1 v : Int) = 0) true (by kernel_rfl) (fun _ => by kernel_rfl) (decide_eq_true (h3)) ?_
          refine s_val (.bool true) (by kernel_rfl) (fun _ => by kernel_rfl) ?_
          refine s_val (.bool true) (by kernel_rfl) (fun _ => by kernel_rfl) ?_
          refine s_nil ?_
          refine fin_block ?_
          refine fin_seq ?_
          refine ok_region ?_
          refine s_val (.int .i64 (k : Int)) (by kernel_rfl) (fun _ => by kernel_rfl) ?_
          refine s_sum (k := .i64) (((k + 1 : Nat) : Int)) (by kernel_rfl) (fun _ => by kernel_rfl) (IntWalk.i64_in _ (by omega)) ?_
          refine s_val (.int .i64 ((k + 1 : Nat) : Int)) (by kernel_rfl) (fun _ => by kernel_rfl) ?_
          refine s_nil ?_
          refine fin_take (L' := ⟨b1, #[.slice V2 ((orT s (exactT x1)).rel.length) c2, .slice U2 ((orT s (exactT x1)).pre.length) d2], 28⟩ :: ⟨b2, (verV v).cells, 24⟩ :: o2) (fun w hO => own_li hO) ?_
          exact fin_round (m' := 8 - (k + 1)) (by omega) ⟨k + 1, V2, U2, c2, d2, orT s (exactT x1), true, o2, _, ⟨hrel.step (by omega) mx0 mx1 mv (fun hz => by rw [ex1, ex0, hz]) (by simp [h1, h2, h3]), hr2⟩, rfl, upds_self _ ⟨by kernel_rfl, by kernel_rfl, by kernel_rfl, by kernel_rfl, by kernel_rfl, trivial⟩, rfl⟩
        · skip
          refine s_dec (p := (cmpR x1 v : Int) = 0) false (by kernel_rfl) (fun _ => by kernel_rfl) (decide_eq_false (h3)) ?_
          refine s_val (.bool false) (by kernel_rfl) (fun _ => by kernel_rfl) ?_
          refine s_val (.bool false) (by kernel_rfl) (fun _ => by kernel_rfl) ?_
          refine s_nil ?_
          refine fin_block ?_
          refine fin_seq ?_
          refine ok_region ?_
          refine s_val (.int .i64 (k : Int)) (by kernel_rfl) (fun _ => by kernel_rfl) ?_
          refine s_sum (k := .i64) (((k + 1 : Nat) : Int)) (by kernel_rfl) (fun _ => by kernel_rfl) (IntWalk.i64_in _ (by omega)) ?_
          refine s_val (.int .i64 ((k + 1 : Nat) : Int)) (by kernel_rfl) (fun _ => by kernel_rfl) ?_
          refine s_nil ?_
          refine fin_take (L' := ⟨b1, #[.slice V2 ((orT s (exactT x1)).rel.length) c2, .slice U2 ((orT s (exactT x1)).pre.length) d2], 28⟩ :: ⟨b2, (verV v).cells, 24⟩ :: o2) (fun w hO => own_li hO) ?_
          exact fin_round (m' := 8 - (k + 1)) (by omega) ⟨k + 1, V2, U2, c2, d2, orT s (exactT x1), false, o2, _, ⟨hrel.step (by omega) mx0 mx1 mv (fun hz => by rw [ex1, ex0, hz]) (by simp [h1, h2, h3]), hr2⟩, rfl, upds_self _ ⟨by kernel_rfl, by kernel_rfl, by kernel_rfl, by kernel_rfl, by kernel_rfl, trivial⟩, rfl⟩
    · skip
      refine hl_callx _ (k := 6) (args := #[verV x1]) (fun v' L' => ∃ ob', L' = ob' ++ ([⟨b1, #[.slice A s.rel.length c, .slice B s.pre.length d], 28⟩] ++ (⟨b3, (verV x1).cells, 24⟩ :: (⟨b2, (verV v).cells, 24⟩ :: (ob)))) ∧ SetO v' (exactT x1) ob') rfl (by kernel_rfl) (fun _ => by kernel_rfl) (fun w hO => (sExact_any x1 w sx1).mono fun e w' ⟨v', ob', k1, k2, k3⟩ => ⟨v', _, k1, ⟨ob', rfl, k2⟩, Own.joinN hO k3⟩) (fun v' L' ⟨ob', e, _⟩ w hO => by subst e; exact Own.sub [⟨b1, #[.slice A s.rel.length c, .slice B s.pre.length d], 28⟩] (Own.sub ob' hO)) (fun v3 L2 hv2 => ?_)
      obtain ⟨o3, rfl, hr3⟩ := hv2
      obtain ⟨V3, U3, c3, d3, rfl⟩ := hr3.form
      refine h_cast (L' := (o3 ++ ([⟨b1, #[.slice A s.rel.length c, .slice B s.pre.length d], 28⟩] : List Blk)) ++ (⟨b3, (verV x1).cells, 24⟩ :: (⟨b2, (verV v).cells, 24⟩ :: (ob)))) (List.append_assoc _ _ _).symm ?_
      refine h_one 0 (by kernel_rfl) ?_
      refine hs_val (o3 ++ ([⟨b1, #[.slice A s.rel.length c, .slice B s.pre.length d], 28⟩] : List Blk)) _ (.agg #[.slice A s.rel.length c, .slice B s.pre.length d]) rfl (by kernel_rfl) (fun w hO => run_load_op (a := ⟨b1, 0, none⟩) rfl (by kernel_rfl) (run_readAt (off := 0) (cs := (⟨b1, #[.slice A s.rel.length c, .slice B s.pre.length d], 28⟩ : Blk).cs) (by kernel_rfl) (hO.held ⟨b1, #[.slice A s.rel.length c, .slice B s.pre.length d], 28⟩ (by simp)))) ?_
      refine h_one 3 (by kernel_rfl) ?_
      refine hl_callx _ (k := 17) (args := #[.agg #[.slice A s.rel.length c, .slice B s.pre.length d], .agg #[.slice V3 ((exactT x1).rel.length) c3, .slice U3 ((exactT x1).pre.length) d3]]) (fun v' L' => ∃ ob', L' = ob' ++ ((o3 ++ ([⟨b1, #[.slice A s.rel.length c, .slice B s.pre.length d], 28⟩] : List Blk)) ++ (⟨b3, (verV x1).cells, 24⟩ :: (⟨b2, (verV v).cells, 24⟩ :: (ob)))) ∧ SetO v' (orT s (exactT x1)) ob') rfl (by kernel_rfl) (fun _ => by kernel_rfl) (fun w hO => (sOr_any A B V3 U3 c d c3 d3 s (exactT x1) w (SetO.inn hrs hO (fun x hx => by simp [hx]) hF (by decide)) (SetO.inn hr3 hO (fun x hx => by simp [hx]) (exact_sf x1) (by decide)) hrs.caps hr3.caps).mono fun e w' ⟨v', ob', k1, k2, k3⟩ => ⟨v', _, k1, ⟨ob', rfl, by rw [if_pos (by rw [(hF).may, (exact_sf x1).may]; rfl)] at k2; exact k2⟩, Own.joinN hO k3⟩) (fun v' L' ⟨ob', e, _⟩ w hO => by subst e; exact Own.sub (o3 ++ ([⟨b1, #[.slice A s.rel.length c, .slice B s.pre.length d], 28⟩] : List Blk)) (Own.sub ob' hO)) (fun v4 L2 hv2 => ?_)
      obtain ⟨o4, rfl, hr4⟩ := hv2
      obtain ⟨V4, U4, c4, d4, rfl⟩ := hr4.form
      refine h_cast (L' := (o4 ++ (o3 ++ ([⟨b1, #[.slice A s.rel.length c, .slice B s.pre.length d], 28⟩] : List Blk))) ++ (⟨b3, (verV x1).cells, 24⟩ :: (⟨b2, (verV v).cells, 24⟩ :: (ob)))) (List.append_assoc _ _ _).symm ?_
      refine h_one 4 (by kernel_rfl) ?_
      refine hs_front (E' := (⟨b1, #[.slice A s.rel.length c, .slice B s.pre.length d], 28⟩ :: (o4 ++ (o3 ++ ([] : List Blk))))) (by simpa [List.append_assoc] using (List.perm_middle (a := ⟨b1, #[.slice A s.rel.length c, .slice B s.pre.length d], 28⟩) (l₁ := (o4 ++ (o3 ++ ([] : List Blk)))) (l₂ := []))) ?_
      refine hs_store (⟨b1, #[.slice A s.rel.length c, .slice B s.pre.length d], 28⟩ :: (o4 ++ (o3 ++ ([] : List Blk)))) _ 0 ⟨b1, #[.slice A s.rel.length c, .slice B s.pre.length d], 28⟩ (off := 0) (.agg #[.slice V4 ((orT s (exactT x1)).rel.length) c4, .slice U4 ((orT s (exactT x1)).pre.length) d4]) rfl (by kernel_rfl) rfl rfl (by kernel_rfl) (by kernel_rfl) (by kernel_rfl) (by kernel_rfl) (by kernel_rfl) ?_
      refine h_done (by kernel_rfl) ?_
      refine fin_seq ?_
      refine ok_region ?_
      refine s_val (.bool q) (by kernel_rfl) (fun _ => by kernel_rfl) ?_
      refine s_val (.bool q) (by kernel_rfl) (fun _ => by kernel_rfl) ?_
      cases h4 : q with
      | true =>
        refine s_skip (by kernel_rfl) ?_
        refine s_skip (by kernel_rfl) ?_
        refine s_skip (by kernel_rfl) ?_
        refine s_skip (by kernel_rfl) ?_
        refine s_val (.bool true) (by kernel_rfl) (fun _ => by kernel_rfl) ?_
        refine s_val (.bool true) (by kernel_rfl) (fun _ => by kernel_rfl) ?_
        refine s_nil ?_
        refine fin_block ?_
        refine fin_seq ?_
        refine ok_region ?_
        refine s_val (.int .i64 (k : Int)) (by kernel_rfl) (fun _ => by kernel_rfl) ?_
        refine s_sum (k := .i64) (((k + 1 : Nat) : Int)) (by kernel_rfl) (fun _ => by kernel_rfl) (IntWalk.i64_in _ (by omega)) ?_
        refine s_val (.int .i64 ((k + 1 : Nat) : Int)) (by kernel_rfl) (fun _ => by kernel_rfl) ?_
        refine s_nil ?_
        refine fin_take (L' := ⟨b1, #[.slice V4 ((orT s (exactT x1)).rel.length) c4, .slice U4 ((orT s (exactT x1)).pre.length) d4], 28⟩ :: ⟨b2, (verV v).cells, 24⟩ :: o4) (fun w hO => own_li hO) ?_
        exact fin_round (m' := 8 - (k + 1)) (by omega) ⟨k + 1, V4, U4, c4, d4, orT s (exactT x1), true, o4, _, ⟨hrel.step (by omega) mx0 mx1 mv (fun hz => by rw [ex1, ex0, hz]) (by simp [h1, h4]), hr4⟩, rfl, upds_self _ ⟨by kernel_rfl, by kernel_rfl, by kernel_rfl, by kernel_rfl, by kernel_rfl, trivial⟩, rfl⟩
      | false =>
        refine s_loadm ⟨b3, (verV x1).cells, 24⟩ (off := 0) (verV x1) (by kernel_rfl) rfl (by simp) (by kernel_rfl) (by kernel_rfl) ?_
        refine s_loadm ⟨b2, (verV v).cells, 24⟩ (off := 0) (verV v) (by kernel_rfl) rfl (by simp) (by kernel_rfl) (by kernel_rfl) ?_
        refine s_call (k := 7) (args := #[verV x1, verV v]) (.int .i64 (cmpR x1 v)) (by kernel_rfl) (fun _ => by kernel_rfl) (fun w _ => vcompare_any x1 v w sx1.1 sx1.2 sv.1 sv.2) ?_
        by_cases h5 : (cmpR x1 v : Int) = 0
        · skip
          refine s_dec (p := (cmpR x1 v : Int) = 0) true (by kernel_rfl) (fun _ => by kernel_rfl) (decide_eq_true (h5)) ?_
          refine s_val (.bool true) (by kernel_rfl) (fun _ => by kernel_rfl) ?_
          refine s_val (.bool true) (by kernel_rfl) (fun _ => by kernel_rfl) ?_
          refine s_nil ?_
          refine fin_block ?_
          refine fin_seq ?_
          refine ok_region ?_
          refine s_val (.int .i64 (k : Int)) (by kernel_rfl) (fun _ => by kernel_rfl) ?_
          refine s_sum (k := .i64) (((k + 1 : Nat) : Int)) (by kernel_rfl) (fun _ => by kernel_rfl) (IntWalk.i64_in _ (by omega)) ?_
          refine s_val (.int .i64 ((k + 1 : Nat) : Int)) (by kernel_rfl) (fun _ => by kernel_rfl) ?_
          refine s_nil ?_
          refine fin_take (L' := ⟨b1, #[.slice V4 ((orT s (exactT x1)).rel.length) c4, .slice U4 ((orT s (exactT x1)).pre.length) d4], 28⟩ :: ⟨b2, (verV v).cells, 24⟩ :: o4) (fun w hO => own_li hO) ?_
          exact fin_round (m' := 8 - (k + 1)) (by omega) ⟨k + 1, V4, U4, c4, d4, orT s (exactT x1), true, o4, _, ⟨hrel.step (by omega) mx0 mx1 mv (fun hz => by rw [ex1, ex0, hz]) (by simp [h1, h4, h5]), hr4⟩, rfl, upds_self _ ⟨by kernel_rfl, by kernel_rfl, by kernel_rfl, by kernel_rfl, by kernel_rfl, trivial⟩, rfl⟩
        · skip
          refine s_dec (p := (cmpR x1 v : Int) = 0) false (by kernel_rfl) (fun _ => by kernel_rfl) (decide_eq_false (h5)) ?_
          refine s_val (.bool false) (by kernel_rfl) (fun _ => by kernel_rfl) ?_
          refine s_val (.bool false) (by kernel_rfl) (fun _ => by kernel_rfl) ?_
          refine s_nil ?_
          refine fin_block ?_
          refine fin_seq ?_
          refine ok_region ?_
          refine s_val (.int .i64 (k : Int)) (by kernel_rfl) (fun _ => by kernel_rfl) ?_
          refine s_sum (k := .i64) (((k + 1 : Nat) : Int)) (by kernel_rfl) (fun _ => by kernel_rfl) (IntWalk.i64_in _ (by omega)) ?_
          refine s_val (.int .i64 ((k + 1 : Nat) : Int)) (by kernel_rfl) (fun _ => by kernel_rfl) ?_
          refine s_nil ?_
          refine fin_take (L' := ⟨b1, #[.slice V4 ((orT s (exactT x1)).rel.length) c4, .slice U4 ((orT s (exactT x1)).pre.length) d4], 28⟩ :: ⟨b2, (verV v).cells, 24⟩ :: o4) (fun w hO => own_li hO) ?_
          exact fin_round (m' := 8 - (k + 1)) (by omega) ⟨k + 1, V4, U4, c4, d4, orT s (exactT x1), false, o4, _, ⟨hrel.step (by omega) mx0 mx1 mv (fun hz => by rw [ex1, ex0, hz]) (by simp [h1, h4, h5]), hr4⟩, rfl, upds_self _ ⟨by kernel_rfl, by kernel_rfl, by kernel_rfl, by kernel_rfl, by kernel_rfl, trivial⟩, rfl⟩
  · skip
    refine s_dec (p := (k : Int) < 8) false (by kernel_rfl) (fun _ => by kernel_rfl) (decide_eq_false (h1)) ?_
    refine s_nil ?_
    refine fin_seq ?_
    refine ok_false (by kernel_rfl) ?_
    refine ok_exit ?_
    refine fin_seq_exit ?_
    refine fin_round_exit ?_
    refine fin_block_exit ?_
    refine fin_seq ?_
    refine ok_seq ?_
    have hF : SF s 1020 := hrel.sf.le (bd_le hrel.le)
    refine ok_anyh (by kernel_rfl) ?_
    refine h_one 0 (by kernel_rfl) ?_
    refine hs_call [] _ (k := 8) (args := #[]) (.bool true) rfl (by kernel_rfl) (fun _ => by kernel_rfl) (fun w _ => awake5_any w) ?_
    refine h_take 1 [] _ (.bool true) rfl (by kernel_rfl) (by kernel_rfl) (by kernel_rfl) (pq_seq pq_body) (by kernel_rfl) (fun _ _ => by kernel_rfl) ?_
    refine h_load 2 [] _ 0 ⟨b1, #[.slice A s.rel.length c, .slice B s.pre.length d], 28⟩ (off := 0) (.agg #[.slice A s.rel.length c, .slice B s.pre.length d]) rfl (by kernel_rfl) (by kernel_rfl) (by kernel_rfl) (pq_seq pq_body) (by kernel_rfl) rfl (by kernel_rfl) (by kernel_rfl) (by kernel_rfl) ?_
    refine h_one 3 (by kernel_rfl) ?_
    refine hs_call [] _ (k := 9) (args := #[.agg #[.slice A s.rel.length c, .slice B s.pre.length d]]) (.bool true) rfl (by kernel_rfl) (fun _ => by kernel_rfl) (fun w hO => ret_b (hF).may (sMay_any A B c d s w (SetO.inn hrs hO (fun x hx => by simp [hx]) hF (by decide)) hrs.caps)) ?_
    refine h_take 4 [] _ (.bool true) rfl (by kernel_rfl) (by kernel_rfl) (by kernel_rfl) (pq_seq pq_body) (by kernel_rfl) (fun _ _ => by kernel_rfl) ?_
    refine h_take 5 [] _ (.bool true) rfl (by kernel_rfl) (by kernel_rfl) (by kernel_rfl) (pq_seq pq_body) (by kernel_rfl) (fun _ _ => by kernel_rfl) ?_
    refine h_load 6 [] _ 0 ⟨b1, #[.slice A s.rel.length c, .slice B s.pre.length d], 28⟩ (off := 0) (.agg #[.slice A s.rel.length c, .slice B s.pre.length d]) rfl (by kernel_rfl) (by kernel_rfl) (by kernel_rfl) (pq_seq pq_body) (by kernel_rfl) rfl (by kernel_rfl) (by kernel_rfl) (by kernel_rfl) ?_
    refine h_load 7 [] _ 1 ⟨b2, (verV v).cells, 24⟩ (off := 0) (verV v) rfl (by kernel_rfl) (by kernel_rfl) (by kernel_rfl) (pq_seq pq_body) (by kernel_rfl) rfl (by kernel_rfl) (by kernel_rfl) (by kernel_rfl) ?_
    refine h_take 9 [] _ (.bool q) rfl (by kernel_rfl) (by kernel_rfl) (by kernel_rfl) (pq_seq pq_body) (by kernel_rfl) (fun _ _ => by kernel_rfl) ?_
    refine h_one 8 (by kernel_rfl) ?_
    refine hs_call [] _ (k := 10) (args := #[.agg #[.slice A s.rel.length c, .slice B s.pre.length d], verV v]) (.bool q) rfl (by kernel_rfl) (fun _ => by kernel_rfl) (fun w hO => ret_b (hrel.has) (sHas_any A B c d s v w (SetO.inn hrs hO (fun x hx => by simp [hx]) hF (by decide)) sv hrs.caps)) ?_
    cases h6 : q with
    | true =>
      refine h_take 10 [] _ (.bool true) rfl (by kernel_rfl) (by kernel_rfl) (by kernel_rfl) (pq_seq pq_body) (by kernel_rfl) (fun _ _ => by kernel_rfl) ?_
      refine h_take 11 [] _ (.bool true) rfl (by kernel_rfl) (by kernel_rfl) (by kernel_rfl) (pq_seq pq_body) (by kernel_rfl) (fun _ _ => by kernel_rfl) ?_
      refine h_take 12 [] _ (.bool true) rfl (by kernel_rfl) (by kernel_rfl) (by kernel_rfl) (pq_seq pq_body) (by kernel_rfl) (fun _ _ => by kernel_rfl) ?_
      refine h_load 13 [] _ 0 ⟨b1, #[.slice A s.rel.length c, .slice B s.pre.length d], 28⟩ (off := 0) (.agg #[.slice A s.rel.length c, .slice B s.pre.length d]) rfl (by kernel_rfl) (by kernel_rfl) (by kernel_rfl) (pq_seq pq_body) (by kernel_rfl) rfl (by kernel_rfl) (by kernel_rfl) (by kernel_rfl) ?_
      refine h_load 14 [] _ 1 ⟨b2, (verV v).cells, 24⟩ (off := 0) (verV v) rfl (by kernel_rfl) (by kernel_rfl) (by kernel_rfl) (pq_seq pq_body) (by kernel_rfl) rfl (by kernel_rfl) (by kernel_rfl) (by kernel_rfl) ?_
      refine h_load 17 [] _ 1 ⟨b2, (verV v).cells, 24⟩ (off := 0) (verV v) rfl (by kernel_rfl) (by kernel_rfl) (by kernel_rfl) (pq_seq pq_body) (by kernel_rfl) rfl (by kernel_rfl) (by kernel_rfl) (by kernel_rfl) ?_
      refine h_one 15 (by kernel_rfl) ?_
      refine hl_callx _ (k := 6) (args := #[verV v]) (fun v' L' => ∃ ob', L' = ob' ++ ([] ++ (⟨b1, #[.slice A s.rel.length c, .slice B s.pre.length d], 28⟩ :: (⟨b2, (verV v).cells, 24⟩ :: (ob)))) ∧ SetO v' (exactT v) ob') rfl (by kernel_rfl) (fun _ => by kernel_rfl) (fun w hO => (sExact_any v w sv).mono fun e w' ⟨v', ob', k1, k2, k3⟩ => ⟨v', _, k1, ⟨ob', rfl, k2⟩, Own.joinN hO k3⟩) (fun v' L' ⟨ob', e, _⟩ w hO => by subst e; exact Own.sub [] (Own.sub ob' hO)) (fun v5 L2 hv2 => ?_)
      obtain ⟨o5, rfl, hr5⟩ := hv2
      obtain ⟨V5, U5, c5, d5, rfl⟩ := hr5.form
      refine h_cast (L' := (o5 ++ ([] : List Blk)) ++ (⟨b1, #[.slice A s.rel.length c, .slice B s.pre.length d], 28⟩ :: (⟨b2, (verV v).cells, 24⟩ :: (ob)))) (List.append_assoc _ _ _).symm ?_
      refine h_one 16 (by kernel_rfl) ?_
      refine hl_callx _ (k := 18) (args := #[.agg #[.slice A s.rel.length c, .slice B s.pre.length d], .agg #[.slice V5 ((exactT v).rel.length) c5, .slice U5 ((exactT v).pre.length) d5]]) (fun v' L' => ∃ ob', L' = ob' ++ ((o5 ++ ([] : List Blk)) ++ (⟨b1, #[.slice A s.rel.length c, .slice B s.pre.length d], 28⟩ :: (⟨b2, (verV v).cells, 24⟩ :: (ob)))) ∧ SetO v' (minusT s (exactT v)) ob') rfl (by kernel_rfl) (fun _ => by kernel_rfl) (fun w hO => (sMinus_any A B V5 U5 c d c5 d5 s (exactT v) w (SetO.inn hrs hO (fun x hx => by simp [hx]) hF (by decide)) (SetO.inn hr5 hO (fun x hx => by simp [hx]) (exact_sf v) (by decide)) hrs.caps hr5.caps (Nat.le_trans (exact_sf v).rel.len (by decide)) (Nat.le_trans (exact_sf v).pre.len (by decide))).mono fun e w' ⟨v', ob', k1, k2, k3⟩ => ⟨v', _, k1, ⟨ob', rfl, by rw [if_pos (by rw [(hF).may, (exact_sf v).may]; rfl)] at k2; exact k2⟩, Own.joinN hO k3⟩) (fun v' L' ⟨ob', e, _⟩ w hO => by subst e; exact Own.sub (o5 ++ ([] : List Blk)) (Own.sub ob' hO)) (fun v6 L2 hv2 => ?_)
      obtain ⟨o6, rfl, hr6⟩ := hv2
      obtain ⟨V6, U6, c6, d6, rfl⟩ := hr6.form
      refine h_cast (L' := (o6 ++ (o5 ++ ([] : List Blk))) ++ (⟨b1, #[.slice A s.rel.length c, .slice B s.pre.length d], 28⟩ :: (⟨b2, (verV v).cells, 24⟩ :: (ob)))) (List.append_assoc _ _ _).symm ?_
      refine h_one 18 (by kernel_rfl) ?_
      refine hs_call (o6 ++ (o5 ++ ([] : List Blk))) _ (k := 10) (args := #[.agg #[.slice V6 ((minusT s (exactT v)).rel.length) c6, .slice U6 ((minusT s (exactT v)).pre.length) d6], verV v]) (.bool false) rfl (by kernel_rfl) (fun _ => by kernel_rfl) (fun w hO => ret_b (minus_self hF mv) (sHas_any V6 U6 c6 d6 (minusT s (exactT v)) v w (SetO.inn hr6 hO (fun x hx => by simp [hx]) ((hF).minus (exact_sf v)) (by decide)) sv hr6.caps)) ?_
      refine h_take 19 (o6 ++ (o5 ++ ([] : List Blk))) _ (.bool true) rfl (by kernel_rfl) (by kernel_rfl) (by kernel_rfl) (pq_seq pq_body) (by kernel_rfl) (fun _ _ => by kernel_rfl) ?_
      refine h_take 20 (o6 ++ (o5 ++ ([] : List Blk))) _ (.bool true) rfl (by kernel_rfl) (by kernel_rfl) (by kernel_rfl) (pq_seq pq_body) (by kernel_rfl) (fun _ _ => by kernel_rfl) ?_
      refine h_take 21 (o6 ++ (o5 ++ ([] : List Blk))) _ (.bool true) rfl (by kernel_rfl) (by kernel_rfl) (by kernel_rfl) (pq_seq pq_body) (by kernel_rfl) (fun _ _ => by kernel_rfl) ?_
      refine h_take 22 (o6 ++ (o5 ++ ([] : List Blk))) _ (x) rfl (by kernel_rfl) (by kernel_rfl) (by kernel_rfl) (pq_seq pq_body) (by kernel_rfl) (fun _ _ => by kernel_rfl) ?_
      refine h_load 25 (o6 ++ (o5 ++ ([] : List Blk))) _ 0 ⟨b1, #[.slice A s.rel.length c, .slice B s.pre.length d], 28⟩ (off := 0) (.agg #[.slice A s.rel.length c, .slice B s.pre.length d]) rfl (by kernel_rfl) (by kernel_rfl) (by kernel_rfl) (pq_seq pq_body) (by kernel_rfl) rfl (by kernel_rfl) (by kernel_rfl) (by kernel_rfl) ?_
      refine h_one 23 (by kernel_rfl) ?_
      refine hs_call (o6 ++ (o5 ++ ([] : List Blk))) _ (k := 5) (args := #[x, .int .i64 0]) (verV x0) rfl (by kernel_rfl) (fun _ => by kernel_rfl) (fun w hO => ret_v (by rw [ex0]) (gen_any x xl 0 w ((hxl.below hO.below).more hO.below.size) (by unfold maxLen at lxl; omega) (by omega))) ?_
      refine h_one 24 (by kernel_rfl) ?_
      refine hl_callx _ (k := 6) (args := #[verV x0]) (fun v' L' => ∃ ob', L' = ob' ++ ((o6 ++ (o5 ++ ([] : List Blk))) ++ (⟨b1, #[.slice A s.rel.length c, .slice B s.pre.length d], 28⟩ :: (⟨b2, (verV v).cells, 24⟩ :: (ob)))) ∧ SetO v' (exactT x0) ob') rfl (by kernel_rfl) (fun _ => by kernel_rfl) (fun w hO => (sExact_any x0 w sx0).mono fun e w' ⟨v', ob', k1, k2, k3⟩ => ⟨v', _, k1, ⟨ob', rfl, k2⟩, Own.joinN hO k3⟩) (fun v' L' ⟨ob', e, _⟩ w hO => by subst e; exact Own.sub (o6 ++ (o5 ++ ([] : List Blk))) (Own.sub ob' hO)) (fun v7 L2 hv2 => ?_)
      obtain ⟨o7, rfl, hr7⟩ := hv2
      obtain ⟨V7, U7, c7, d7, rfl⟩ := hr7.form
      refine h_cast (L' := (o7 ++ (o6 ++ (o5 ++ ([] : List Blk)))) ++ (⟨b1, #[.slice A s.rel.length c, .slice B s.pre.length d], 28⟩ :: (⟨b2, (verV v).cells, 24⟩ :: (ob)))) (List.append_assoc _ _ _).symm ?_
      refine h_one 26 (by kernel_rfl) ?_
      refine hs_call (o7 ++ (o6 ++ (o5 ++ ([] : List Blk)))) _ (k := 14) (args := #[.agg #[.slice V7 ((exactT x0).rel.length) c7, .slice U7 ((exactT x0).pre.length) d7], .agg #[.slice A s.rel.length c, .slice B s.pre.length d]]) (.bool true) rfl (by kernel_rfl) (fun _ => by kernel_rfl) (fun w hO => ret_b ((within_b (exact_sf x0) hF).trans (decide_eq_true (hrel.first (by omega)))) (sWithin_any V7 U7 A B c7 d7 c d (exactT x0) s w (SetO.inn hr7 hO (fun x hx => by simp [hx]) (exact_sf x0) (by decide)) (SetO.inn hrs hO (fun x hx => by simp [hx]) hF (by decide)) hr7.caps hrs.caps)) ?_
      refine h_take 27 (o7 ++ (o6 ++ (o5 ++ ([] : List Blk)))) _ (.bool true) rfl (by kernel_rfl) (by kernel_rfl) (by kernel_rfl) (pq_seq pq_body) (by kernel_rfl) (fun _ _ => by kernel_rfl) ?_
      refine h_take 28 (o7 ++ (o6 ++ (o5 ++ ([] : List Blk)))) _ (.bool true) rfl (by kernel_rfl) (by kernel_rfl) (by kernel_rfl) (pq_seq pq_body) (by kernel_rfl) (fun _ _ => by kernel_rfl) ?_
      refine h_drop (o7 ++ (o6 ++ (o5 ++ ([] : List Blk)))) ?_
      refine h_done (by kernel_rfl) ?_
      refine fin_seq ?_
      refine ok_ret ?_
      refine fin_ret (.bool true) Try.results4 (by kernel_rfl) ?_
      exact fun w hO => ⟨rfl, hO.below⟩
    | false =>
      refine h_take 10 [] _ (.bool true) rfl (by kernel_rfl) (by kernel_rfl) (by kernel_rfl) (pq_seq pq_body) (by kernel_rfl) (fun _ _ => by kernel_rfl) ?_
      refine h_take 11 [] _ (.bool true) rfl (by kernel_rfl) (by kernel_rfl) (by kernel_rfl) (pq_seq pq_body) (by kernel_rfl) (fun _ _ => by kernel_rfl) ?_
      refine h_take 12 [] _ (.bool true) rfl (by kernel_rfl) (by kernel_rfl) (by kernel_rfl) (pq_seq pq_body) (by kernel_rfl) (fun _ _ => by kernel_rfl) ?_
      refine h_load 13 [] _ 0 ⟨b1, #[.slice A s.rel.length c, .slice B s.pre.length d], 28⟩ (off := 0) (.agg #[.slice A s.rel.length c, .slice B s.pre.length d]) rfl (by kernel_rfl) (by kernel_rfl) (by kernel_rfl) (pq_seq pq_body) (by kernel_rfl) rfl (by kernel_rfl) (by kernel_rfl) (by kernel_rfl) ?_
      refine h_load 14 [] _ 1 ⟨b2, (verV v).cells, 24⟩ (off := 0) (verV v) rfl (by kernel_rfl) (by kernel_rfl) (by kernel_rfl) (pq_seq pq_body) (by kernel_rfl) rfl (by kernel_rfl) (by kernel_rfl) (by kernel_rfl) ?_
      refine h_load 17 [] _ 1 ⟨b2, (verV v).cells, 24⟩ (off := 0) (verV v) rfl (by kernel_rfl) (by kernel_rfl) (by kernel_rfl) (pq_seq pq_body) (by kernel_rfl) rfl (by kernel_rfl) (by kernel_rfl) (by kernel_rfl) ?_
      refine h_one 15 (by kernel_rfl) ?_
      refine hl_callx _ (k := 6) (args := #[verV v]) (fun v' L' => ∃ ob', L' = ob' ++ ([] ++ (⟨b1, #[.slice A s.rel.length c, .slice B s.pre.length d], 28⟩ :: (⟨b2, (verV v).cells, 24⟩ :: (ob)))) ∧ SetO v' (exactT v) ob') rfl (by kernel_rfl) (fun _ => by kernel_rfl) (fun w hO => (sExact_any v w sv).mono fun e w' ⟨v', ob', k1, k2, k3⟩ => ⟨v', _, k1, ⟨ob', rfl, k2⟩, Own.joinN hO k3⟩) (fun v' L' ⟨ob', e, _⟩ w hO => by subst e; exact Own.sub [] (Own.sub ob' hO)) (fun v8 L2 hv2 => ?_)
      obtain ⟨o8, rfl, hr8⟩ := hv2
      obtain ⟨V8, U8, c8, d8, rfl⟩ := hr8.form
      refine h_cast (L' := (o8 ++ ([] : List Blk)) ++ (⟨b1, #[.slice A s.rel.length c, .slice B s.pre.length d], 28⟩ :: (⟨b2, (verV v).cells, 24⟩ :: (ob)))) (List.append_assoc _ _ _).symm ?_
      refine h_one 16 (by kernel_rfl) ?_
      refine hl_callx _ (k := 18) (args := #[.agg #[.slice A s.rel.length c, .slice B s.pre.length d], .agg #[.slice V8 ((exactT v).rel.length) c8, .slice U8 ((exactT v).pre.length) d8]]) (fun v' L' => ∃ ob', L' = ob' ++ ((o8 ++ ([] : List Blk)) ++ (⟨b1, #[.slice A s.rel.length c, .slice B s.pre.length d], 28⟩ :: (⟨b2, (verV v).cells, 24⟩ :: (ob)))) ∧ SetO v' (minusT s (exactT v)) ob') rfl (by kernel_rfl) (fun _ => by kernel_rfl) (fun w hO => (sMinus_any A B V8 U8 c d c8 d8 s (exactT v) w (SetO.inn hrs hO (fun x hx => by simp [hx]) hF (by decide)) (SetO.inn hr8 hO (fun x hx => by simp [hx]) (exact_sf v) (by decide)) hrs.caps hr8.caps (Nat.le_trans (exact_sf v).rel.len (by decide)) (Nat.le_trans (exact_sf v).pre.len (by decide))).mono fun e w' ⟨v', ob', k1, k2, k3⟩ => ⟨v', _, k1, ⟨ob', rfl, by rw [if_pos (by rw [(hF).may, (exact_sf v).may]; rfl)] at k2; exact k2⟩, Own.joinN hO k3⟩) (fun v' L' ⟨ob', e, _⟩ w hO => by subst e; exact Own.sub (o8 ++ ([] : List Blk)) (Own.sub ob' hO)) (fun v9 L2 hv2 => ?_)
      obtain ⟨o9, rfl, hr9⟩ := hv2
      obtain ⟨V9, U9, c9, d9, rfl⟩ := hr9.form
      refine h_cast (L' := (o9 ++ (o8 ++ ([] : List Blk))) ++ (⟨b1, #[.slice A s.rel.length c, .slice B s.pre.length d], 28⟩ :: (⟨b2, (verV v).cells, 24⟩ :: (ob)))) (List.append_assoc _ _ _).symm ?_
      refine h_one 18 (by kernel_rfl) ?_
      refine hs_call (o9 ++ (o8 ++ ([] : List Blk))) _ (k := 10) (args := #[.agg #[.slice V9 ((minusT s (exactT v)).rel.length) c9, .slice U9 ((minusT s (exactT v)).pre.length) d9], verV v]) (.bool false) rfl (by kernel_rfl) (fun _ => by kernel_rfl) (fun w hO => ret_b (minus_self hF mv) (sHas_any V9 U9 c9 d9 (minusT s (exactT v)) v w (SetO.inn hr9 hO (fun x hx => by simp [hx]) ((hF).minus (exact_sf v)) (by decide)) sv hr9.caps)) ?_
      refine h_take 19 (o9 ++ (o8 ++ ([] : List Blk))) _ (.bool true) rfl (by kernel_rfl) (by kernel_rfl) (by kernel_rfl) (pq_seq pq_body) (by kernel_rfl) (fun _ _ => by kernel_rfl) ?_
      refine h_take 20 (o9 ++ (o8 ++ ([] : List Blk))) _ (.bool true) rfl (by kernel_rfl) (by kernel_rfl) (by kernel_rfl) (pq_seq pq_body) (by kernel_rfl) (fun _ _ => by kernel_rfl) ?_
      refine h_take 21 (o9 ++ (o8 ++ ([] : List Blk))) _ (.bool true) rfl (by kernel_rfl) (by kernel_rfl) (by kernel_rfl) (pq_seq pq_body) (by kernel_rfl) (fun _ _ => by kernel_rfl) ?_
      refine h_take 22 (o9 ++ (o8 ++ ([] : List Blk))) _ (x) rfl (by kernel_rfl) (by kernel_rfl) (by kernel_rfl) (pq_seq pq_body) (by kernel_rfl) (fun _ _ => by kernel_rfl) ?_
      refine h_load 25 (o9 ++ (o8 ++ ([] : List Blk))) _ 0 ⟨b1, #[.slice A s.rel.length c, .slice B s.pre.length d], 28⟩ (off := 0) (.agg #[.slice A s.rel.length c, .slice B s.pre.length d]) rfl (by kernel_rfl) (by kernel_rfl) (by kernel_rfl) (pq_seq pq_body) (by kernel_rfl) rfl (by kernel_rfl) (by kernel_rfl) (by kernel_rfl) ?_
      refine h_one 23 (by kernel_rfl) ?_
      refine hs_call (o9 ++ (o8 ++ ([] : List Blk))) _ (k := 5) (args := #[x, .int .i64 0]) (verV x0) rfl (by kernel_rfl) (fun _ => by kernel_rfl) (fun w hO => ret_v (by rw [ex0]) (gen_any x xl 0 w ((hxl.below hO.below).more hO.below.size) (by unfold maxLen at lxl; omega) (by omega))) ?_
      refine h_one 24 (by kernel_rfl) ?_
      refine hl_callx _ (k := 6) (args := #[verV x0]) (fun v' L' => ∃ ob', L' = ob' ++ ((o9 ++ (o8 ++ ([] : List Blk))) ++ (⟨b1, #[.slice A s.rel.length c, .slice B s.pre.length d], 28⟩ :: (⟨b2, (verV v).cells, 24⟩ :: (ob)))) ∧ SetO v' (exactT x0) ob') rfl (by kernel_rfl) (fun _ => by kernel_rfl) (fun w hO => (sExact_any x0 w sx0).mono fun e w' ⟨v', ob', k1, k2, k3⟩ => ⟨v', _, k1, ⟨ob', rfl, k2⟩, Own.joinN hO k3⟩) (fun v' L' ⟨ob', e, _⟩ w hO => by subst e; exact Own.sub (o9 ++ (o8 ++ ([] : List Blk))) (Own.sub ob' hO)) (fun v10 L2 hv2 => ?_)
      obtain ⟨o10, rfl, hr10⟩ := hv2
      obtain ⟨V10, U10, c10, d10, rfl⟩ := hr10.form
      refine h_cast (L' := (o10 ++ (o9 ++ (o8 ++ ([] : List Blk)))) ++ (⟨b1, #[.slice A s.rel.length c, .slice B s.pre.length d], 28⟩ :: (⟨b2, (verV v).cells, 24⟩ :: (ob)))) (List.append_assoc _ _ _).symm ?_
      refine h_one 26 (by kernel_rfl) ?_
      refine hs_call (o10 ++ (o9 ++ (o8 ++ ([] : List Blk)))) _ (k := 14) (args := #[.agg #[.slice V10 ((exactT x0).rel.length) c10, .slice U10 ((exactT x0).pre.length) d10], .agg #[.slice A s.rel.length c, .slice B s.pre.length d]]) (.bool true) rfl (by kernel_rfl) (fun _ => by kernel_rfl) (fun w hO => ret_b ((within_b (exact_sf x0) hF).trans (decide_eq_true (hrel.first (by omega)))) (sWithin_any V10 U10 A B c10 d10 c d (exactT x0) s w (SetO.inn hr10 hO (fun x hx => by simp [hx]) (exact_sf x0) (by decide)) (SetO.inn hrs hO (fun x hx => by simp [hx]) hF (by decide)) hr10.caps hrs.caps)) ?_
      refine h_take 27 (o10 ++ (o9 ++ (o8 ++ ([] : List Blk)))) _ (.bool true) rfl (by kernel_rfl) (by kernel_rfl) (by kernel_rfl) (pq_seq pq_body) (by kernel_rfl) (fun _ _ => by kernel_rfl) ?_
      refine h_take 28 (o10 ++ (o9 ++ (o8 ++ ([] : List Blk)))) _ (.bool true) rfl (by kernel_rfl) (by kernel_rfl) (by kernel_rfl) (pq_seq pq_body) (by kernel_rfl) (fun _ _ => by kernel_rfl) ?_
      refine h_drop (o10 ++ (o9 ++ (o8 ++ ([] : List Blk)))) ?_
      refine h_done (by kernel_rfl) ?_
      refine fin_seq ?_
      refine ok_ret ?_
      refine fin_ret (.bool true) Try.results4 (by kernel_rfl) ?_
      exact fun w hO => ⟨rfl, hO.below⟩
end Go.Proofs.Ytgeccfdofmnphaa
end

section
/-
  SetList: for every input the call returns true, and each argument reads afterwards as it read before. Conditions: none but the row's own.
-/
namespace Go.Proofs.Ytgeccfdofmnphaa.setList
open Go.ChangeShapes Go.WideShapes Go.ChangeAt Go.RowKit
open Go.ChangeMaps (open_string shut_string)
set_option linter.unusedVariables false

set_option maxRecDepth 100000 in
theorem contract (H : Type) (enc : TypeId × Value → H) (W : World) (base : Nat) (args : Array Value) (ds gs : List (DataW H)) (before : List MemPlace)
    (hval : ∀ (j : Nat) t v, Try.f4.params[j]? = some t → args[j]? = some v → Value.okWide Try.prog W .any base t v)
    (hW : DataW.Whole enc Try.prog Try.f4.params.toList Rows.setListSpec.vars false W args.toList ds gs before) (hL : laidMetH Try.prog Rows.setListRow.laid W) :
    Calls Try.prog 4 args W fun e W' => ∃ v, e = .returned v ∧ Rows.setListSpec.post enc Try.prog Try.f4 false true false false W args v W' := by
  have hW' := hW
  obtain ⟨p, q, hA0, hV, rfl, hfz, hnd⟩ := hW
  have hA : DataW.TrodAll enc Try.prog W 0 (fun _ => true) true Try.f4.params.toList args.toList ds p := hA0
  rw [Try.params4] at hA hval
  obtain ⟨v0, vs0, d0, ds0, p0, q0, hargs, rfl, rfl, h0, r0⟩ := trodAll_cons hA
  obtain ⟨v1, vs1, d1, ds1, p1, q1, rfl, rfl, rfl, h1, r1⟩ := trodAll_cons r0
  obtain ⟨rfl, rfl, rfl⟩ := trodAll_nil r1
  obtain rfl : args = #[v0, v1] := by cases args; simp_all
  obtain ⟨rfl, rfl⟩ := trodVars_none hV
  clear hA0
  obtain ⟨l, l_reads, l_len⟩ := open_nums (hval 0 22 v0 rfl rfl) h0
  obtain ⟨m, m_reads, m_len⟩ := open_nums (hval 1 22 v1 rfl rfl) h1
  refine (setList.law W v0 l l_reads l_len v1 m m_reads m_len ).mono fun e W' ⟨he, hb⟩ => ?_
  subst he
  exact ⟨_, rfl, law_end laidOut (fun t ht => by rw [Try.params4] at ht; simp at ht; subst ht; exact ⟨by kernel_rfl, of_decide_eq_true (by kernel_rfl)⟩) rfl rfl Try.underlying4 hW' (by rfl) hb⟩

noncomputable def laidWorld (os : Os) : World :=
  { World.holding Try.prog os ⟨#[], #[], []⟩ with heap := (World.holding Try.prog os ⟨#[], #[], []⟩).heap }
theorem laid_met (os : Os) : laidMet Try.prog Rows.setListRow.laid ((laidWorld os).forCall (fun _ _ => 0) ⟨#[], #[.slice none 0 0, .slice none 0 0], []⟩).memory :=
  laidMet_of_run' 8 (by kernel_rfl) (by kernel_rfl)
theorem reads (os : Os) {H : Type} (enc : TypeId × Value → H) : ∃ places, DataW.whole enc Try.prog ((laidWorld os).forCall (fun _ _ => 0) ⟨#[], #[.slice none 0 0, .slice none 0 0], []⟩).memory Try.f4.params.toList Rows.setListSpec.vars false (#[.slice none 0 0, .slice none 0 0] : Array Value).toList 8 = some ([.nil, .nil], [], places) :=
  ⟨[], by kernel_rfl⟩

set_option maxRecDepth 100000 in
theorem lifted (os : Os) (started : os.Started) (H : Type) (enc : TypeId × Value → H) (F : Stop.Interp) :
    ReturnsInHanded {} Try.checked os 4 .any ((OpenSpec.ofChange Rows.setListSpec).preRow enc Try.prog Try.f4 Rows.setListRow.domain false Rows.setListRow.laid) (((OpenSpec.ofChange Rows.setListSpec).at F).post enc Try.prog Try.f4 false true false false) := by
  obtain ⟨places, hx⟩ := reads os enc
  refine returnsInHanded_of_row (C := Try.checked) (s := OpenSpec.ofChange Rows.setListSpec) own started (by kernel_rfl) Try.func4
    (witness_row_at (enc := enc) (C := Try.checked) false (laidWorld os) #[.slice none 0 0, .slice none 0 0] rfl (by kernel_rfl) (by kernel_rfl) (by kernel_rfl)
      (OpenSpec.preRow_of_cond 8 hx (by kernel_rfl) (fun k hk => by cases hk) (by kernel_rfl) (laid_met os))) ?_
  intro W base args ds gs before hval hW _ _ _ hL _ _
  exact contract H enc W base args ds gs before hval hW hL

theorem said : Rows.SetListSaid :=
  OpenClaim.holds_of_cond 4 Try.f4 rfl rfl rfl rfl rfl rfl rfl ⟨rfl, rfl, rfl, rfl, rfl⟩ rfl rfl rfl rfl rfl (by kernel_rfl) Try.func4 (by kernel_rfl)
    (of_decide_eq_true (by kernel_rfl)) (by unfold Func.isWrapper; first | (rw [if_pos (by decide +kernel)]; kernel_rfl) | (rw [if_neg (by decide +kernel)]; exact ⟨rfl, rfl⟩))
    (fun os started H enc _ F => by rw [OpenClaim.pre_eq_preRow]; exact lifted os started H enc F)

#print axioms said
end Go.Proofs.Ytgeccfdofmnphaa.setList
end
