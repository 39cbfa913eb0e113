/-
  SetOne: for every input the call returns true, and each argument reads afterwards as it read before. Conditions: none but the row's own.
-/
import Derived.Test.YtgeccfdofmnphaaGreatRows
import Derived.Test.YtgeccfdofmnphaaGreatMA6

section
/-
  SetOne: for any lists of numbers the law returns true, and nothing that was there is changed. No condition.
-/
namespace Go.Proofs.YtgeccfdofmnphaaGreat
open Go.RowKit
set_option maxRecDepth 100000
set_option linter.unusedVariables false
set_option linter.unusedSimpArgs false
set_option maxHeartbeats 2000000

theorem rel_sf {a : St} {n : Nat} (h : SF a n) : SF ⟨a.rel, []⟩ n := ⟨h.rel, nil_rf.le (Nat.zero_le n), h.right⟩
theorem relIn {w : World} {n : Nat} {A B : Option Addr} {a : St} (h : SetIn w n A B a) : SetIn w n A none ⟨a.rel, []⟩ := ⟨h.rel, reads_nil w n, h.lr, Nat.zero_le _, h.sr, short_nil⟩
/-- Do two sets have the same of these versions? -/
def alikeT (a b : St) (l : List Ver) : Bool := l.all fun x => setHas a x == setHas b x
theorem alike_step {a b : St} {l : List Ver} {k : Nat} (hk : k < l.length) {x : Ver} (hx : l[k] = x) {p q : Bool} (hp : setHas a x = p) (hq : setHas b x = q) : alikeT a b (l.take (k + 1)) = (alikeT a b (l.take k) && (p == q)) := by
  unfold alikeT
  rw [List.take_succ_eq_append_getElem hk, List.all_append, hx]
  simp [hp, hq]
theorem edges_in {l : List Sp} {v : Ver} (h : v ∈ edgesL l) : v = Ver.zero ∨ ∃ s ∈ l, ∃ c, (c = s.lo ∨ c = s.hi) ∧ c.e = 0 ∧ v = c.v := by
  unfold edgesL at h
  rcases List.mem_cons.1 h with h | h
  · exact .inl h
  · obtain ⟨s, hs, hv⟩ := List.mem_flatMap.1 h
    refine .inr ⟨s, hs, ?_⟩
    rcases List.mem_append.1 hv with hv | hv
    · unfold edC at hv
      split at hv
      · rename_i he; exact ⟨s.lo, .inl rfl, he, List.mem_singleton.1 hv⟩
      · cases hv
    · unfold edC at hv
      split at hv
      · rename_i he; exact ⟨s.hi, .inr rfl, he, List.mem_singleton.1 hv⟩
      · cases hv
theorem edges_of {l : List Sp} {s : Sp} {c : Cu} (hs : s ∈ l) (hc : c = s.lo ∨ c = s.hi) (he : c.e = 0) : c.v ∈ edgesL l := by
  unfold edgesL
  refine List.mem_cons_of_mem _ (List.mem_flatMap.2 ⟨s, hs, List.mem_append.2 ?_⟩)
  rcases hc with rfl | rfl
  · exact .inl (by rw [edC_yes he]; exact List.mem_singleton.2 rfl)
  · exact .inr (by rw [edC_yes he]; exact List.mem_singleton.2 rfl)
theorem edgeN_in {l : List Sp} {x : Int} (h : x ∈ edgeN l) : ∃ s ∈ l, ∃ c, (c = s.lo ∨ c = s.hi) ∧ c.e = 0 ∧ c.v.code = x := by
  unfold edgeN at h
  obtain ⟨s, hs, hx⟩ := List.mem_flatMap.1 h
  obtain ⟨c, hc, hx⟩ := List.mem_filterMap.1 hx
  refine ⟨s, hs, c, ?_, ?_⟩
  · simpa using hc
  · split at hx
    · rename_i he; exact ⟨he, by simpa using hx⟩
    · cases hx
theorem right_v {l : List Sp} (hl : rowMay l = true) (hr : AllRight l) {s : Sp} {c : Cu} (hs : s ∈ l) (hc : c = s.lo ∨ c = s.hi) (he : c.e = 0) : c.v.may = true ∧ c.v.pre = [] := by
  have hm := span_mays (row_mem hl s hs)
  have hR := hr s hs
  have h1 : c.may = true ∧ rightC c = true := hc.elim (fun e => e ▸ ⟨hm.1, hR.1⟩) (fun e => e ▸ ⟨hm.2, hR.2⟩)
  refine ⟨may_v h1.1, ?_⟩
  have h2 := h1.2
  unfold rightC at h2
  rw [decide_eq_false (by simpa using he), Bool.false_or] at h2
  simp only [Bool.and_eq_true, decide_eq_true_eq] at h2
  exact h2.1.2
theorem rel_has {a : St} {n : Nat} (h : SF a n) {v : Ver} (hv : v.may = true) (hp : v.pre = []) : setHas ⟨a.rel, []⟩ v = denN a.rel v.code := by
  rw [has_may (rel_sf h) hv, if_pos hp]
  exact has_code h.rel.may h.right hv hp
theorem one_iff {a b : St} {n m : Nat} (fa : SF a n) (fb : SF b m) : (⟨a.rel, []⟩ : St) = ⟨b.rel, []⟩ ↔ alikeT ⟨a.rel, []⟩ ⟨b.rel, []⟩ (edgesL a.rel ++ edgesL b.rel) = true := by
  refine ⟨fun e => by rw [e]; unfold alikeT; simp, fun h => ?_⟩
  unfold alikeT at h
  rw [List.all_eq_true] at h
  have hz : denN a.rel 0 = denN b.rel 0 := by
    have h1 := h Ver.zero (List.mem_append_left _ (List.mem_cons_self ..))
    rw [rel_has fa zero_may rfl, rel_has fb zero_may rfl] at h1
    exact eq_of_beq h1
  refine St.eq (edge_ext fa.rel.may fb.rel.may fa.right fb.right hz fun x hx => ?_) rfl
  have key : ∀ v : Ver, v ∈ edgesL a.rel ++ edgesL b.rel → v.may = true ∧ v.pre = [] → denN a.rel v.code = denN b.rel v.code := fun v hv hm => by
    have h1 := h v hv
    rw [rel_has fa hm.1 hm.2, rel_has fb hm.1 hm.2] at h1
    exact eq_of_beq h1
  rcases List.mem_append.1 hx with hx | hx
  · obtain ⟨s, hs, c, hc, he, rfl⟩ := edgeN_in hx
    exact key c.v (List.mem_append_left _ (edges_of hs hc he)) (right_v fa.rel.may fa.right hs hc he)
  · obtain ⟨s, hs, c, hc, he, rfl⟩ := edgeN_in hx
    exact key c.v (List.mem_append_right _ (edges_of hs hc he)) (right_v fb.rel.may fb.right hs hc he)
theorem edges_short {l : List Sp} (h : ShortL l) {v : Ver} (hv : v ∈ edgesL l) : v.short := by
  rcases edges_in hv with rfl | ⟨s, hs, c, hc, _, rfl⟩
  · exact ⟨Nat.zero_le _, Nat.zero_le _⟩
  · rcases hc with rfl | rfl
    · exact (h s hs).1
    · exact (h s hs).2
theorem edges_pos (l : List Sp) : 0 < (edgesL l).length := Nat.succ_pos _
theorem vers_cells (l : List Ver) : ∀ u ∈ l.flatMap verC, u.oneCell' = true := fun u hu => by
  obtain ⟨x, _, hx⟩ := List.mem_flatMap.1 hu
  exact ver_cells x u hx
set_option maxHeartbeats 8000000 in
theorem setOne.law (W : World) (x : Value) (xl : List Int) (hxl : ReadsI W W.heap.size x xl) (lxl : xl.length ≤ maxLen) (y : Value) (yl : List Int) (hyl : ReadsI W W.heap.size y yl) (lyl : yl.length ≤ maxLen) :
    Calls Tryz.prog 7 #[x, y] W fun e w' => e = .returned (.bool true) ∧ Below W.heap.size W w' := by
  obtain ⟨a, ea⟩ : ∃ q, q = setG xl 0 := ⟨_, rfl⟩
  have fa : SF a 22 := ea ▸ setG_sf xl 0
  obtain ⟨b, eb⟩ : ∃ q, q = setG yl 0 := ⟨_, rfl⟩
  have fb : SF b 22 := eb ▸ setG_sf yl 0
  have hla : (edgesL a.rel).length ≤ 45 := by have h := edges_len a.rel; have h2 := fa.rel.len; omega
  have hlb : (edgesL b.rel).length ≤ 45 := by have h := edges_len b.rel; have h2 := fb.rel.len; omega
  refine calls_ok (n := 51) Tryz.func7 rfl (by kernel_rfl) (by kernel_rfl) ?_
  refine ok_seq ?_
  refine ok_region ?_
  refine s_val (.bool false) (by kernel_rfl) (fun _ => by kernel_rfl) ?_
  refine s_nil ?_
  refine fin_seq ?_
  refine ok_seq ?_
  refine ok_region ?_
  refine s_val (x) (by kernel_rfl) (fun _ => by kernel_rfl) ?_
  refine s_callo (k := 34) (args := #[x, .int .i64 0]) (fun v' L' => ∃ ob', L' = ob' ++ ([]) ∧ SetO v' (a) ob') (by kernel_rfl) (fun _ => by kernel_rfl) (fun w hO => (setGen_any x xl 0 w ((hxl.below hO.below).more hO.below.size) (by unfold maxLen at lxl; omega) (by omega)).mono fun e w' ⟨v', ob', k1, k2, k3⟩ => ⟨v', _, k1, ⟨ob', rfl, by rw [← ea] at k2; exact k2⟩, Own.joinN hO k3⟩) (fun v1 L1 hv1 => ?_)
  obtain ⟨o1, rfl, hr1⟩ := hv1
  obtain ⟨V1, U1, c1, d1, rfl⟩ := hr1.form
  refine s_cast (L' := o1) (List.append_nil _) ?_
  refine s_val (y) (by kernel_rfl) (fun _ => by kernel_rfl) ?_
  refine s_callo (k := 34) (args := #[y, .int .i64 0]) (fun v' L' => ∃ ob', L' = ob' ++ (o1) ∧ SetO v' (b) ob') (by kernel_rfl) (fun _ => by kernel_rfl) (fun w hO => (setGen_any y yl 0 w ((hyl.below hO.below).more hO.below.size) (by unfold maxLen at lyl; omega) (by omega)).mono fun e w' ⟨v', ob', k1, k2, k3⟩ => ⟨v', _, k1, ⟨ob', rfl, by rw [← eb] at k2; exact k2⟩, Own.joinN hO k3⟩) (fun v2 L2 hv2 => ?_)
  obtain ⟨o2, rfl, hr2⟩ := hv2
  obtain ⟨V2, U2, c2, d2, rfl⟩ := hr2.form
  refine s_alloc_at (.agg #[.slice none 0 0, .slice none 0 0]) (by kernel_rfl) rfl (by kernel_rfl) (fun b1 => ?_)
  refine s_alloc_at (.agg #[.slice none 0 0, .slice none 0 0]) (by kernel_rfl) rfl (by kernel_rfl) (fun b2 => ?_)
  refine s_store_at 1 ⟨b1, #[.slice none 0 0, .slice none 0 0], 24⟩ (off := 0) (.agg #[.slice V1 ((a).rel.length) c1, .slice U1 ((a).pre.length) d1]) (by kernel_rfl) rfl rfl (by kernel_rfl) (by kernel_rfl) (by kernel_rfl) (by kernel_rfl) (by kernel_rfl) ?_
  refine s_cast (L' := ⟨b2, #[.slice none 0 0, .slice none 0 0], 24⟩ :: (⟨b1, #[.slice V1 ((a).rel.length) c1, .slice U1 ((a).pre.length) d1], 24⟩ :: (o2 ++ (o1)))) (by kernel_rfl) ?_
  refine s_store_at 0 ⟨b2, #[.slice none 0 0, .slice none 0 0], 24⟩ (off := 0) (.agg #[.slice V2 ((b).rel.length) c2, .slice U2 ((b).pre.length) d2]) (by kernel_rfl) rfl rfl (by kernel_rfl) (by kernel_rfl) (by kernel_rfl) (by kernel_rfl) (by kernel_rfl) ?_
  refine s_cast (L' := ⟨b2, #[.slice V2 ((b).rel.length) c2, .slice U2 ((b).pre.length) d2], 24⟩ :: (⟨b1, #[.slice V1 ((a).rel.length) c1, .slice U1 ((a).pre.length) d1], 24⟩ :: (o2 ++ (o1)))) (by kernel_rfl) ?_
  refine s_nil ?_
  refine fin_seq ?_
  refine ok_seq ?_
  refine ok_region ?_
  refine s_val (.pointer (some ⟨b1, 1, none⟩)) (by kernel_rfl) (fun _ => by kernel_rfl) ?_
  refine s_store_at 1 ⟨b1, #[.slice V1 ((a).rel.length) c1, .slice U1 ((a).pre.length) d1], 24⟩ (off := 1) (.slice none 0 0) (by kernel_rfl) rfl rfl (by kernel_rfl) (by kernel_rfl) (by kernel_rfl) (by kernel_rfl) (by kernel_rfl) ?_
  refine s_cast (L' := ⟨b2, #[.slice V2 ((b).rel.length) c2, .slice U2 ((b).pre.length) d2], 24⟩ :: (⟨b1, #[.slice V1 ((a).rel.length) c1, .slice none 0 0], 24⟩ :: (o2 ++ (o1)))) (by kernel_rfl) ?_
  refine s_val (.pointer (some ⟨b2, 1, none⟩)) (by kernel_rfl) (fun _ => by kernel_rfl) ?_
  refine s_store_at 0 ⟨b2, #[.slice V2 ((b).rel.length) c2, .slice U2 ((b).pre.length) d2], 24⟩ (off := 1) (.slice none 0 0) (by kernel_rfl) rfl rfl (by kernel_rfl) (by kernel_rfl) (by kernel_rfl) (by kernel_rfl) (by kernel_rfl) ?_
  refine s_cast (L' := ⟨b2, #[.slice V2 ((b).rel.length) c2, .slice none 0 0], 24⟩ :: (⟨b1, #[.slice V1 ((a).rel.length) c1, .slice none 0 0], 24⟩ :: (o2 ++ (o1)))) (by kernel_rfl) ?_
  refine s_nil ?_
  refine fin_seq ?_
  refine ok_seq ?_
  refine ok_anyh (by kernel_rfl) ?_
  refine h_load 0 [] _ 1 ⟨b1, #[.slice V1 ((a).rel.length) c1, .slice none 0 0], 24⟩ (off := 0) (.agg #[.slice V1 ((a).rel.length) c1, .slice none 0 0]) rfl (by kernel_rfl) (by kernel_rfl) (by kernel_rfl) (pq_seq pq_body) (by kernel_rfl) rfl (by kernel_rfl) (by kernel_rfl) (by kernel_rfl) ?_
  refine h_load 2 [] _ 0 ⟨b2, #[.slice V2 ((b).rel.length) c2, .slice none 0 0], 24⟩ (off := 0) (.agg #[.slice V2 ((b).rel.length) c2, .slice none 0 0]) rfl (by kernel_rfl) (by kernel_rfl) (by kernel_rfl) (pq_seq pq_body) (by kernel_rfl) rfl (by kernel_rfl) (by kernel_rfl) (by kernel_rfl) ?_
  refine h_one 1 (by kernel_rfl) ?_
  refine hl_callx _ (k := 40) (args := #[.agg #[.slice V1 ((a).rel.length) c1, .slice none 0 0]]) (fun v' L' => ∃ ob', L' = ob' ++ ([] ++ (⟨b2, #[.slice V2 ((b).rel.length) c2, .slice none 0 0], 24⟩ :: (⟨b1, #[.slice V1 ((a).rel.length) c1, .slice none 0 0], 24⟩ :: (o2 ++ (o1))))) ∧ SlV v' (edgesL a.rel) ob') rfl (by kernel_rfl) (fun _ => by kernel_rfl) (fun w hO => (edges_any V1 none c1 0 0 a.rel w ((relIn (SetO.inn hr1 hO (fun x hx => by simp [hx]) (fa) (by decide)))).rel (Nat.le_trans fa.rel.len (by decide))).mono fun e w' ⟨v', ob', k1, k2, k3⟩ => ⟨v', _, k1, ⟨ob', rfl, k2⟩, Own.joinN hO k3⟩) (fun v' L' ⟨ob', e, _⟩ w hO => by subst e; exact Own.sub [] (Own.sub ob' hO)) (fun ve1 L2 hv2 => ?_)
  obtain ⟨oe1, rfl, he1⟩ := hv2
  obtain ⟨E1, ce1, rfl⟩ := he1.form
  refine h_cast (L' := (oe1 ++ ([] : List Blk)) ++ (⟨b2, #[.slice V2 ((b).rel.length) c2, .slice none 0 0], 24⟩ :: (⟨b1, #[.slice V1 ((a).rel.length) c1, .slice none 0 0], 24⟩ :: (o2 ++ (o1))))) (List.append_assoc _ _ _).symm ?_
  refine h_one 3 (by kernel_rfl) ?_
  refine hl_callx _ (k := 40) (args := #[.agg #[.slice V2 ((b).rel.length) c2, .slice none 0 0]]) (fun v' L' => ∃ ob', L' = ob' ++ ((oe1 ++ ([] : List Blk)) ++ (⟨b2, #[.slice V2 ((b).rel.length) c2, .slice none 0 0], 24⟩ :: (⟨b1, #[.slice V1 ((a).rel.length) c1, .slice none 0 0], 24⟩ :: (o2 ++ (o1))))) ∧ SlV v' (edgesL b.rel) ob') rfl (by kernel_rfl) (fun _ => by kernel_rfl) (fun w hO => (edges_any V2 none c2 0 0 b.rel w ((relIn (SetO.inn hr2 hO (fun x hx => by simp [hx]) (fb) (by decide)))).rel (Nat.le_trans fb.rel.len (by decide))).mono fun e w' ⟨v', ob', k1, k2, k3⟩ => ⟨v', _, k1, ⟨ob', rfl, k2⟩, Own.joinN hO k3⟩) (fun v' L' ⟨ob', e, _⟩ w hO => by subst e; exact Own.sub (oe1 ++ ([] : List Blk)) (Own.sub ob' hO)) (fun ve2 L2 hv2 => ?_)
  obtain ⟨oe2, rfl, he2⟩ := hv2
  obtain ⟨E2, ce2, rfl⟩ := he2.form
  refine h_cast (L' := (oe2 ++ (oe1 ++ ([] : List Blk))) ++ (⟨b2, #[.slice V2 ((b).rel.length) c2, .slice none 0 0], 24⟩ :: (⟨b1, #[.slice V1 ((a).rel.length) c1, .slice none 0 0], 24⟩ :: (o2 ++ (o1))))) (List.append_assoc _ _ _).symm ?_
  obtain ⟨g2, cur2, rfl, rfl, hc2, hm2, hz2, ht2⟩ := Sl.block he2 (edges_pos _)
  obtain ⟨i0, z0, e1, e2, e3, e4, e5⟩ := ver_info
  have he1' := he1
  unfold SlV at he1'
  refine h_cast (L' := [⟨g2, cur2, 26⟩] ++ oe1 ++ (⟨b2, #[.slice V2 ((b).rel.length) c2, .slice none 0 0], 24⟩ :: (⟨b1, #[.slice V1 ((a).rel.length) c1, .slice none 0 0], 24⟩ :: (o2 ++ (o1))))) (by simp) ?_
  refine h_one 4 (by kernel_rfl) ?_
  refine hl_append (E := [⟨g2, cur2, 26⟩]) (ob := oe1) (R := ⟨b2, #[.slice V2 ((b).rel.length) c2, .slice none 0 0], 24⟩ :: (⟨b1, #[.slice V1 ((a).rel.length) c1, .slice none 0 0], 24⟩ :: (o2 ++ (o1)))) (sz := 5) _ rfl (by kernel_rfl) rfl Tryz.underlying44 e1 e2 e3 e4 (by kernel_rfl) he1' (a := ⟨g2, 0, none⟩) (m := (edgesL b.rel).length) (c := ce2) (news := (edgesL b.rel).flatMap verC) (by kernel_rfl) (flat_len verC_len _) (fun w hO j u hj => ?_) (vers_cells _) (by unfold maxLen; omega) (by rw [e5]; omega) (fun ob' w h => Own.sub ([⟨g2, cur2, 26⟩] ++ ob') h) (fun vA oA hA0 => ?_)
  · obtain ⟨b', off', e, _, hc⟩ := (Sl.reads he2 rfl hO (fun x hx => by rw [List.mem_singleton.1 hx]; exact List.mem_append_left _ (List.mem_append_left _ List.mem_cons_self))) (edges_pos _)
    simp only [Option.some.injEq, Addr.mk.injEq] at e
    obtain ⟨rfl, rfl, _⟩ := e
    rw [add_off]; exact hc j u hj
  have hA : SlV vA (edgesL a.rel ++ edgesL b.rel) oA := hA0.to (by simp) (by simp)
  obtain ⟨VA, cA, rfl⟩ := hA.form
  refine h_cast (L' := (⟨g2, cur2, 26⟩ :: (oA ++ ([] : List Blk))) ++ (⟨b2, #[.slice V2 ((b).rel.length) c2, .slice none 0 0], 24⟩ :: (⟨b1, #[.slice V1 ((a).rel.length) c1, .slice none 0 0], 24⟩ :: (o2 ++ (o1))))) (by simp) ?_
  refine h_take 5 (⟨g2, cur2, 26⟩ :: (oA ++ ([] : List Blk))) _ (.slice VA ((edgesL a.rel ++ edgesL b.rel).length) cA) rfl (by kernel_rfl) (by kernel_rfl) (by kernel_rfl) (pq_seq pq_body) (by kernel_rfl) (fun _ _ => by kernel_rfl) ?_
  refine h_done (by kernel_rfl) ?_
  refine fin_seq ?_
  refine ok_seq ?_
  refine ok_region ?_
  refine s_val (.bool true) (by kernel_rfl) (fun _ => by kernel_rfl) ?_
  refine s_nil ?_
  refine fin_seq ?_
  refine ok_seq ?_
  refine ok_seq ?_
  refine ok_region ?_
  refine s_val (.int .i64 0) (by kernel_rfl) (fun _ => by kernel_rfl) ?_
  refine s_nil ?_
  refine fin_seq ?_
  refine ok_block ?_
  refine ok_cast (L' := ⟨g2, cur2, 26⟩ :: (oA ++ (⟨b2, #[.slice V2 ((b).rel.length) c2, .slice none 0 0], 24⟩ :: (⟨b1, #[.slice V1 ((a).rel.length) c1, .slice none 0 0], 24⟩ :: (o2 ++ (o1)))))) (by simp) ?_
  refine ok_loop (fun L f m => ∃ (k : Nat) (q : Bool) (j : Nat → Value), (k ≤ (edgesL a.rel ++ edgesL b.rel).length ∧ q = alikeT (⟨a.rel, []⟩ : St) (⟨b.rel, []⟩ : St) ((edgesL a.rel ++ edgesL b.rel).take k)) ∧ L = ⟨g2, cur2, 26⟩ :: (oA ++ (⟨b2, #[.slice V2 ((b).rel.length) c2, .slice none 0 0], 24⟩ :: (⟨b1, #[.slice V1 ((a).rel.length) c1, .slice none 0 0], 24⟩ :: (o2 ++ (o1))))) ∧ f = upds j [(5, .pointer (some ⟨b1, 0, none⟩)), (6, .pointer (some ⟨b2, 0, none⟩)), (7, .slice VA (edgesL a.rel ++ edgesL b.rel).length cA), (8, .bool q), (9, .int .i64 (k : Int))] ∧ m = (edgesL a.rel ++ edgesL b.rel).length - k) ((edgesL a.rel ++ edgesL b.rel).length - 0) ⟨0, true, _, ⟨Nat.zero_le _, by rw [List.take_zero]; rfl⟩, rfl, upds_self _ ⟨by kernel_rfl, by kernel_rfl, by kernel_rfl, by kernel_rfl, by kernel_rfl, trivial⟩, rfl⟩ ?_
  rintro L f m ⟨k, q, j, hrel, rfl, rfl, rfl⟩
  have hkl := hrel.1
  refine ok_seq ?_
  refine ok_seq ?_
  refine ok_region ?_
  refine s_val (.int .i64 (k : Int)) (by kernel_rfl) (fun _ => by kernel_rfl) ?_
  refine s_val (.slice VA ((edgesL a.rel ++ edgesL b.rel).length) cA) (by kernel_rfl) (fun _ => by kernel_rfl) ?_
  refine s_val (.int .i64 ((edgesL a.rel ++ edgesL b.rel).length : Int)) (by kernel_rfl) (fun _ => by kernel_rfl) ?_
  by_cases h1 : (k : Int) < ((edgesL a.rel ++ edgesL b.rel).length : Int)
  · skip
    have hall : (edgesL a.rel ++ edgesL b.rel).length ≤ 90 := by rw [List.length_append]; omega
    have hk : k < (edgesL a.rel ++ edgesL b.rel).length := by omega
    obtain ⟨gA, curA, hAA, _, _, _, _, _⟩ := Sl.block hA (by omega)
    obtain ⟨x1, hx1⟩ : ∃ q, (edgesL a.rel ++ edgesL b.rel)[k] = q := ⟨_, rfl⟩
    have hs1 : x1.short := (List.mem_append.1 (hx1 ▸ List.getElem_mem hk)).elim (fun h => edges_short fa.rel.short h) (fun h => edges_short fb.rel.short h)
    obtain ⟨pa, hpa⟩ : ∃ q : Bool, setHas (⟨a.rel, []⟩ : St) x1 = q := ⟨_, rfl⟩
    obtain ⟨pb, hpb⟩ : ∃ q : Bool, setHas (⟨b.rel, []⟩ : St) x1 = q := ⟨_, rfl⟩
    have hst := alike_step hk hx1 hpa hpb
    refine s_dec (p := (k : Int) < ((edgesL a.rel ++ edgesL b.rel).length : Int)) true (by kernel_rfl) (fun _ => by kernel_rfl) (decide_eq_true (h1)) ?_
    refine s_nil ?_
    refine fin_seq ?_
    refine ok_true (by kernel_rfl) ?_
    refine ok_skip ?_
    refine fin_seq ?_
    refine ok_seq ?_
    refine ok_block ?_
    refine ok_draw (by kernel_rfl) (by kernel_rfl) ?_
    refine q_val (.bool q) (by kernel_rfl) (fun _ => by kernel_rfl) ?_
    refine q_val (.bool q) (by kernel_rfl) (fun _ => by kernel_rfl) ?_
    cases h2 : q with
    | true =>
      refine q_loadm ⟨b1, #[.slice V1 ((a).rel.length) c1, .slice none 0 0], 24⟩ (off := 0) (.agg #[.slice V1 ((a).rel.length) c1, .slice none 0 0]) (by kernel_rfl) rfl (by simp) (by kernel_rfl) (by kernel_rfl) ?_
      refine q_val (.slice VA ((edgesL a.rel ++ edgesL b.rel).length) cA) (by kernel_rfl) (fun _ => by kernel_rfl) ?_
      refine q_val (.int .i64 (k : Int)) (by kernel_rfl) (fun _ => by kernel_rfl) ?_
      refine q_val (.pointer (some ⟨gA, 0 + k * 5, none⟩)) (by kernel_rfl) (run_ixA (b := gA) (off := 0) (c := cA) (n := (edgesL a.rel ++ edgesL b.rel).length) (k := .i64) (j := (k : Int)) (e := 26) (sz := 5) rfl (by kernel_rfl) hAA (by kernel_rfl) (by kernel_rfl) (by kernel_rfl) (by omega) (by omega) (by omega)) ?_
      refine q_old (verV x1) (a := ⟨gA, 0 + k * 5, none⟩) (by kernel_rfl) rfl (by kernel_rfl) (fun w hO => Reads.load verC_len (Sl.reads hA rfl hO (fun x hx => by simp [hx])) hAA k 0 hk (by omega) _ (by rw [hx1]; kernel_rfl)) ?_
      refine q_call (k := 16) (args := #[.agg #[.slice V1 ((a).rel.length) c1, .slice none 0 0], verV x1]) (.bool pa) (by kernel_rfl) (fun _ => by kernel_rfl) (fun w hO => ret_b (hpa) (sHas_any V1 none c1 0 (⟨a.rel, []⟩ : St) x1 w (relIn (SetO.inn hr1 hO (fun x hx => by simp [hx]) (fa) (by decide))) hs1 ⟨hr1.caps.1, Nat.le_refl 0⟩)) ?_
      refine q_loadm ⟨b2, #[.slice V2 ((b).rel.length) c2, .slice none 0 0], 24⟩ (off := 0) (.agg #[.slice V2 ((b).rel.length) c2, .slice none 0 0]) (by kernel_rfl) rfl (by simp) (by kernel_rfl) (by kernel_rfl) ?_
      refine q_val (.slice VA ((edgesL a.rel ++ edgesL b.rel).length) cA) (by kernel_rfl) (fun _ => by kernel_rfl) ?_
      refine q_val (.int .i64 (k : Int)) (by kernel_rfl) (fun _ => by kernel_rfl) ?_
      refine q_val (.pointer (some ⟨gA, 0 + k * 5, none⟩)) (by kernel_rfl) (run_ixA (b := gA) (off := 0) (c := cA) (n := (edgesL a.rel ++ edgesL b.rel).length) (k := .i64) (j := (k : Int)) (e := 26) (sz := 5) rfl (by kernel_rfl) hAA (by kernel_rfl) (by kernel_rfl) (by kernel_rfl) (by omega) (by omega) (by omega)) ?_
      refine q_old (verV x1) (a := ⟨gA, 0 + k * 5, none⟩) (by kernel_rfl) rfl (by kernel_rfl) (fun w hO => Reads.load verC_len (Sl.reads hA rfl hO (fun x hx => by simp [hx])) hAA k 0 hk (by omega) _ (by rw [hx1]; kernel_rfl)) ?_
      refine q_call (k := 16) (args := #[.agg #[.slice V2 ((b).rel.length) c2, .slice none 0 0], verV x1]) (.bool pb) (by kernel_rfl) (fun _ => by kernel_rfl) (fun w hO => ret_b (hpb) (sHas_any V2 none c2 0 (⟨b.rel, []⟩ : St) x1 w (relIn (SetO.inn hr2 hO (fun x hx => by simp [hx]) (fb) (by decide))) hs1 ⟨hr2.caps.1, Nat.le_refl 0⟩)) ?_
      cases h3 : pa with
      | true =>
        cases h4 : pb with
        | true =>
          refine q_val (.bool true) (by kernel_rfl) (fun _ => by kernel_rfl) ?_
          refine q_val (.bool true) (by kernel_rfl) (fun _ => by kernel_rfl) ?_
          refine q_val (.bool true) (by kernel_rfl) (fun _ => by kernel_rfl) ?_
          refine q_nil ?_
          refine fin_block ?_
          refine fin_seq ?_
          refine ok_region ?_
          refine s_val (.int .i64 (k : Int)) (by kernel_rfl) (fun _ => by kernel_rfl) ?_
          refine s_sum (k := .i64) (((k + 1 : Nat) : Int)) (by kernel_rfl) (fun _ => by kernel_rfl) (IntWalk.i64_in _ (by omega)) ?_
          refine s_val (.int .i64 ((k + 1 : Nat) : Int)) (by kernel_rfl) (fun _ => by kernel_rfl) ?_
          refine s_nil ?_
          exact fin_round (m' := (edgesL a.rel ++ edgesL b.rel).length - (k + 1)) (by omega) ⟨k + 1, true, _, ⟨by omega, by rw [hst, ← hrel.2]; simp [h1, h2, h3, h4]⟩, rfl, upds_self _ ⟨by kernel_rfl, by kernel_rfl, by kernel_rfl, by kernel_rfl, by kernel_rfl, trivial⟩, rfl⟩
        | false =>
          refine q_val (.bool false) (by kernel_rfl) (fun _ => by kernel_rfl) ?_
          refine q_val (.bool false) (by kernel_rfl) (fun _ => by kernel_rfl) ?_
          refine q_val (.bool false) (by kernel_rfl) (fun _ => by kernel_rfl) ?_
          refine q_nil ?_
          refine fin_block ?_
          refine fin_seq ?_
          refine ok_region ?_
          refine s_val (.int .i64 (k : Int)) (by kernel_rfl) (fun _ => by kernel_rfl) ?_
          refine s_sum (k := .i64) (((k + 1 : Nat) : Int)) (by kernel_rfl) (fun _ => by kernel_rfl) (IntWalk.i64_in _ (by omega)) ?_
          refine s_val (.int .i64 ((k + 1 : Nat) : Int)) (by kernel_rfl) (fun _ => by kernel_rfl) ?_
          refine s_nil ?_
          exact fin_round (m' := (edgesL a.rel ++ edgesL b.rel).length - (k + 1)) (by omega) ⟨k + 1, false, _, ⟨by omega, by rw [hst, ← hrel.2]; simp [h1, h2, h3, h4]⟩, rfl, upds_self _ ⟨by kernel_rfl, by kernel_rfl, by kernel_rfl, by kernel_rfl, by kernel_rfl, trivial⟩, rfl⟩
      | false =>
        cases h5 : pb with
        | true =>
          refine q_val (.bool false) (by kernel_rfl) (fun _ => by kernel_rfl) ?_
          refine q_val (.bool false) (by kernel_rfl) (fun _ => by kernel_rfl) ?_
          refine q_val (.bool false) (by kernel_rfl) (fun _ => by kernel_rfl) ?_
          refine q_nil ?_
          refine fin_block ?_
          refine fin_seq ?_
          refine ok_region ?_
          refine s_val (.int .i64 (k : Int)) (by kernel_rfl) (fun _ => by kernel_rfl) ?_
          refine s_sum (k := .i64) (((k + 1 : Nat) : Int)) (by kernel_rfl) (fun _ => by kernel_rfl) (IntWalk.i64_in _ (by omega)) ?_
          refine s_val (.int .i64 ((k + 1 : Nat) : Int)) (by kernel_rfl) (fun _ => by kernel_rfl) ?_
          refine s_nil ?_
          exact fin_round (m' := (edgesL a.rel ++ edgesL b.rel).length - (k + 1)) (by omega) ⟨k + 1, false, _, ⟨by omega, by rw [hst, ← hrel.2]; simp [h1, h2, h3, h5]⟩, rfl, upds_self _ ⟨by kernel_rfl, by kernel_rfl, by kernel_rfl, by kernel_rfl, by kernel_rfl, trivial⟩, rfl⟩
        | false =>
          refine q_val (.bool true) (by kernel_rfl) (fun _ => by kernel_rfl) ?_
          refine q_val (.bool true) (by kernel_rfl) (fun _ => by kernel_rfl) ?_
          refine q_val (.bool true) (by kernel_rfl) (fun _ => by kernel_rfl) ?_
          refine q_nil ?_
          refine fin_block ?_
          refine fin_seq ?_
          refine ok_region ?_
          refine s_val (.int .i64 (k : Int)) (by kernel_rfl) (fun _ => by kernel_rfl) ?_
          refine s_sum (k := .i64) (((k + 1 : Nat) : Int)) (by kernel_rfl) (fun _ => by kernel_rfl) (IntWalk.i64_in _ (by omega)) ?_
          refine s_val (.int .i64 ((k + 1 : Nat) : Int)) (by kernel_rfl) (fun _ => by kernel_rfl) ?_
          refine s_nil ?_
          exact fin_round (m' := (edgesL a.rel ++ edgesL b.rel).length - (k + 1)) (by omega) ⟨k + 1, true, _, ⟨by omega, by rw [hst, ← hrel.2]; simp [h1, h2, h3, h5]⟩, rfl, upds_self _ ⟨by kernel_rfl, by kernel_rfl, by kernel_rfl, by kernel_rfl, by kernel_rfl, trivial⟩, rfl⟩
    | false =>
      refine q_skip (by kernel_rfl) ?_
      refine q_skip (by kernel_rfl) ?_
      refine q_skip (by kernel_rfl) ?_
      refine q_skip (by kernel_rfl) ?_
      refine q_skip (by kernel_rfl) ?_
      refine q_skip (by kernel_rfl) ?_
      refine q_skip (by kernel_rfl) ?_
      refine q_skip (by kernel_rfl) ?_
      refine q_skip (by kernel_rfl) ?_
      refine q_skip (by kernel_rfl) ?_
      refine q_skip (by kernel_rfl) ?_
      refine q_skip (by kernel_rfl) ?_
      refine q_skip (by kernel_rfl) ?_
      refine q_val (.bool false) (by kernel_rfl) (fun _ => by kernel_rfl) ?_
      refine q_val (.bool false) (by kernel_rfl) (fun _ => by kernel_rfl) ?_
      refine q_nil ?_
      refine fin_block ?_
      refine fin_seq ?_
      refine ok_region ?_
      refine s_val (.int .i64 (k : Int)) (by kernel_rfl) (fun _ => by kernel_rfl) ?_
      refine s_sum (k := .i64) (((k + 1 : Nat) : Int)) (by kernel_rfl) (fun _ => by kernel_rfl) (IntWalk.i64_in _ (by omega)) ?_
      refine s_val (.int .i64 ((k + 1 : Nat) : Int)) (by kernel_rfl) (fun _ => by kernel_rfl) ?_
      refine s_nil ?_
      exact fin_round (m' := (edgesL a.rel ++ edgesL b.rel).length - (k + 1)) (by omega) ⟨k + 1, false, _, ⟨by omega, by rw [hst, ← hrel.2]; simp [h1, h2]⟩, rfl, upds_self _ ⟨by kernel_rfl, by kernel_rfl, by kernel_rfl, by kernel_rfl, by kernel_rfl, trivial⟩, rfl⟩
  · skip
    have hfin : (⟨a.rel, []⟩ : St) = (⟨b.rel, []⟩ : St) ↔ q = true := by rw [hrel.2, List.take_of_length_le (by omega)]; exact one_iff fa fb
    refine s_dec (p := (k : Int) < ((edgesL a.rel ++ edgesL b.rel).length : Int)) false (by kernel_rfl) (fun _ => by kernel_rfl) (decide_eq_false (h1)) ?_
    refine s_nil ?_
    refine fin_seq ?_
    refine ok_false (by kernel_rfl) ?_
    refine ok_exit ?_
    refine fin_seq_exit ?_
    refine fin_round_exit ?_
    refine fin_block_exit ?_
    refine fin_seq ?_
    refine ok_seq ?_
    refine ok_region ?_
    refine s_call (k := 11) (args := #[]) (.bool true) (by kernel_rfl) (fun _ => by kernel_rfl) (fun w _ => awake5_any w) ?_
    refine s_val (.bool true) (by kernel_rfl) (fun _ => by kernel_rfl) ?_
    refine s_loadm ⟨b1, #[.slice V1 ((a).rel.length) c1, .slice none 0 0], 24⟩ (off := 0) (.agg #[.slice V1 ((a).rel.length) c1, .slice none 0 0]) (by kernel_rfl) rfl (by simp) (by kernel_rfl) (by kernel_rfl) ?_
    refine s_loadm ⟨b2, #[.slice V2 ((b).rel.length) c2, .slice none 0 0], 24⟩ (off := 0) (.agg #[.slice V2 ((b).rel.length) c2, .slice none 0 0]) (by kernel_rfl) rfl (by simp) (by kernel_rfl) (by kernel_rfl) ?_
    cases h6 : q with
    | true =>
      refine s_call (k := 33) (args := #[.agg #[.slice V1 ((a).rel.length) c1, .slice none 0 0], .agg #[.slice V2 ((b).rel.length) c2, .slice none 0 0]]) (.bool true) (by kernel_rfl) (fun _ => by kernel_rfl) (fun w hO => ret_b ((same_b _ _).trans (decide_eq_true (hfin.2 h6))) (sSame_any V1 none V2 none c1 0 c2 0 (⟨a.rel, []⟩ : St) (⟨b.rel, []⟩ : St) w (relIn (SetO.inn hr1 hO (fun x hx => by simp [hx]) (fa) (by decide))) (relIn (SetO.inn hr2 hO (fun x hx => by simp [hx]) (fb) (by decide))) ⟨hr1.caps.1, Nat.le_refl 0⟩ ⟨hr2.caps.1, Nat.le_refl 0⟩)) ?_
      refine s_val (.bool true) (by kernel_rfl) (fun _ => by kernel_rfl) ?_
      refine s_val (.bool true) (by kernel_rfl) (fun _ => by kernel_rfl) ?_
      refine s_val (.bool true) (by kernel_rfl) (fun _ => by kernel_rfl) ?_
      refine s_val (.bool true) (by kernel_rfl) (fun _ => by kernel_rfl) ?_
      refine s_nil ?_
      refine fin_seq ?_
      refine ok_ret ?_
      refine fin_ret (.bool true) Tryz.results7 (by kernel_rfl) ?_
      exact fun w hO => ⟨rfl, hO.below⟩
    | false =>
      refine s_call (k := 33) (args := #[.agg #[.slice V1 ((a).rel.length) c1, .slice none 0 0], .agg #[.slice V2 ((b).rel.length) c2, .slice none 0 0]]) (.bool false) (by kernel_rfl) (fun _ => by kernel_rfl) (fun w hO => ret_b ((same_b _ _).trans (decide_eq_false (fun e => by have h := hfin.1 e; rw [h6] at h; cases h))) (sSame_any V1 none V2 none c1 0 c2 0 (⟨a.rel, []⟩ : St) (⟨b.rel, []⟩ : St) w (relIn (SetO.inn hr1 hO (fun x hx => by simp [hx]) (fa) (by decide))) (relIn (SetO.inn hr2 hO (fun x hx => by simp [hx]) (fb) (by decide))) ⟨hr1.caps.1, Nat.le_refl 0⟩ ⟨hr2.caps.1, Nat.le_refl 0⟩)) ?_
      refine s_val (.bool false) (by kernel_rfl) (fun _ => by kernel_rfl) ?_
      refine s_val (.bool true) (by kernel_rfl) (fun _ => by kernel_rfl) ?_
      refine s_val (.bool true) (by kernel_rfl) (fun _ => by kernel_rfl) ?_
      refine s_val (.bool true) (by kernel_rfl) (fun _ => by kernel_rfl) ?_
      refine s_nil ?_
      refine fin_seq ?_
      refine ok_ret ?_
      refine fin_ret (.bool true) Tryz.results7 (by kernel_rfl) ?_
      exact fun w hO => ⟨rfl, hO.below⟩
end Go.Proofs.YtgeccfdofmnphaaGreat
end

section
/-
  SetOne: for every input the call returns true, and each argument reads afterwards as it read before. Conditions: none but the row's own.
-/
namespace Go.Proofs.YtgeccfdofmnphaaGreat.setOne
open Go.ChangeShapes Go.WideShapes Go.ChangeAt Go.RowKit
open Go.ChangeMaps (open_string shut_string)
set_option linter.unusedVariables false

set_option maxRecDepth 100000 in
theorem contract (H : Type) (enc : TypeId × Value → H) (W : World) (base : Nat) (args : Array Value) (ds gs : List (DataW H)) (before : List MemPlace)
    (hval : ∀ (j : Nat) t v, Tryz.f7.params[j]? = some t → args[j]? = some v → Value.okWide Tryz.prog W .any base t v)
    (hW : DataW.Whole enc Tryz.prog Tryz.f7.params.toList Rows.setOneSpec.vars false W args.toList ds gs before) (hL : laidMetH Tryz.prog Rows.setOneRow.laid W) :
    Calls Tryz.prog 7 args W fun e W' => ∃ v, e = .returned v ∧ Rows.setOneSpec.post enc Tryz.prog Tryz.f7 false true false false W args v W' := by
  have hW' := hW
  obtain ⟨p, q, hA0, hV, rfl, hfz, hnd⟩ := hW
  have hA : DataW.TrodAll enc Tryz.prog W 0 (fun _ => true) true Tryz.f7.params.toList args.toList ds p := hA0
  rw [Tryz.params7] at hA hval
  obtain ⟨v0, vs0, d0, ds0, p0, q0, hargs, rfl, rfl, h0, r0⟩ := trodAll_cons hA
  obtain ⟨v1, vs1, d1, ds1, p1, q1, rfl, rfl, rfl, h1, r1⟩ := trodAll_cons r0
  obtain ⟨rfl, rfl, rfl⟩ := trodAll_nil r1
  obtain rfl : args = #[v0, v1] := by cases args; simp_all
  obtain ⟨rfl, rfl⟩ := trodVars_none hV
  clear hA0
  obtain ⟨l, l_reads, l_len⟩ := open_nums (hval 0 36 v0 rfl rfl) h0
  obtain ⟨m, m_reads, m_len⟩ := open_nums (hval 1 36 v1 rfl rfl) h1
  refine (setOne.law W v0 l l_reads l_len v1 m m_reads m_len ).mono fun e W' ⟨he, hb⟩ => ?_
  subst he
  exact ⟨_, rfl, law_end laidOut (fun t ht => by rw [Tryz.params7] at ht; simp at ht; subst ht; exact ⟨by kernel_rfl, of_decide_eq_true (by kernel_rfl)⟩) rfl rfl Tryz.underlying4 hW' (by rfl) hb⟩

noncomputable def laidWorld (os : Os) : World :=
  { World.holding Tryz.prog os ⟨#[], #[], []⟩ with heap := (World.holding Tryz.prog os ⟨#[], #[], []⟩).heap }
theorem laid_met (os : Os) : laidMet Tryz.prog Rows.setOneRow.laid ((laidWorld os).forCall (fun _ _ => 0) ⟨#[], #[.slice none 0 0, .slice none 0 0], []⟩).memory :=
  laidMet_of_run' 8 (by kernel_rfl) (by kernel_rfl)
theorem reads (os : Os) {H : Type} (enc : TypeId × Value → H) : ∃ places, DataW.whole enc Tryz.prog ((laidWorld os).forCall (fun _ _ => 0) ⟨#[], #[.slice none 0 0, .slice none 0 0], []⟩).memory Tryz.f7.params.toList Rows.setOneSpec.vars false (#[.slice none 0 0, .slice none 0 0] : Array Value).toList 8 = some ([.nil, .nil], [], places) :=
  ⟨[], by kernel_rfl⟩

set_option maxRecDepth 100000 in
theorem lifted (os : Os) (started : os.Started) (H : Type) (enc : TypeId × Value → H) (F : Stop.Interp) :
    ReturnsInHanded {} Tryz.checked os 7 .any ((OpenSpec.ofChange Rows.setOneSpec).preRow enc Tryz.prog Tryz.f7 Rows.setOneRow.domain false Rows.setOneRow.laid) (((OpenSpec.ofChange Rows.setOneSpec).at F).post enc Tryz.prog Tryz.f7 false true false false) := by
  obtain ⟨places, hx⟩ := reads os enc
  refine returnsInHanded_of_row (C := Tryz.checked) (s := OpenSpec.ofChange Rows.setOneSpec) own started (by kernel_rfl) Tryz.func7
    (witness_row_at (enc := enc) (C := Tryz.checked) false (laidWorld os) #[.slice none 0 0, .slice none 0 0] rfl (by kernel_rfl) (by kernel_rfl) (by kernel_rfl)
      (OpenSpec.preRow_of_cond 8 hx (by kernel_rfl) (fun k hk => by cases hk) (by kernel_rfl) (laid_met os))) ?_
  intro W base args ds gs before hval hW _ _ _ hL _ _
  exact contract H enc W base args ds gs before hval hW hL

theorem said : Rows.SetOneSaid :=
  OpenClaim.holds_of_cond 7 Tryz.f7 rfl rfl rfl rfl rfl rfl rfl ⟨rfl, rfl, rfl, rfl, rfl⟩ rfl rfl rfl rfl rfl (by kernel_rfl) Tryz.func7 (by kernel_rfl)
    (of_decide_eq_true (by kernel_rfl)) (by unfold Func.isWrapper; first | (rw [if_pos (by decide +kernel)]; kernel_rfl) | (rw [if_neg (by decide +kernel)]; exact ⟨rfl, rfl⟩))
    (fun os started H enc _ F => by rw [OpenClaim.pre_eq_preRow]; exact lifted os started H enc F)

#print axioms said
end Go.Proofs.YtgeccfdofmnphaaGreat.setOne
end
