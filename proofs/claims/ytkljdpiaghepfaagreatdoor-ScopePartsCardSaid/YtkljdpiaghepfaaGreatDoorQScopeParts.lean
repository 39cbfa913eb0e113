/-
  ScopeParts: for every input the call returns true, and each argument reads afterwards as it read before. Conditions: none but the row's own, that the listed package-level variables read as the program's text lays them.
-/
import Derived.Test.YtkljdpiaghepfaaGreatDoorCards
import Derived.Test.YtkljdpiaghepfaaGreatDoorTie
import Derived.Test.YtkljdpiaghepfaaGreatDoorMD8

section
/-
  ScopeParts: for any list of numbers the law returns true, and nothing that was there is changed. Condition: the library's table of powers of ten reads as it is laid.
-/
namespace Go.Proofs.YtkljdpiaghepfaaGreatDoor
open Go.RowKit
set_option maxRecDepth 100000
set_option linter.unusedVariables false
set_option linter.unusedSimpArgs false
set_option maxHeartbeats 2000000

theorem own_parts {M : List Nat} {W w : World} {b3 b2 b1 g : Blk} {O4 O3 q ob : List Blk} (h : Own M W w (O4 ++ (b3 :: (O3 ++ (b2 :: b1 :: g :: (q ++ ob)))))) : Own M W w (b2 :: b1 :: g :: (q ++ O4)) := by
  have h1 : Own M W w (O4 ++ (b2 :: b1 :: g :: q)) := h.sublist (List.Sublist.append (List.Sublist.refl O4) (List.Sublist.cons _ ((List.Sublist.cons_cons _ (List.Sublist.cons_cons _ (List.Sublist.cons_cons _ (List.sublist_append_left q ob)))).trans (List.sublist_append_right O3 _))))
  exact h1.perm List.perm_append_comm
theorem print_parse {r : List (List Co)} (h : rgMay r = true) {s : List UInt8} (e : s = vJ r) : s.length ≤ 96 ∧ xG s = some r := by
  have e2 : s = xI r := by rw [e]; unfold vJ; rw [if_pos h]
  rw [e2]; exact ⟨(rgMay.facts h).2, parse_text h⟩
theorem one_in {w : World} {B g c i : Nat} {xs : List Al} (h : RgIn w B (some ⟨g, 0, none⟩) xs) (hi : i < xs.length) {y : Al} (hy : xs[i] = y) (hc : xs.length ≤ c) : RgIn w B (some ⟨g, 0 + (if c = i then 0 else i * 1), none⟩) [y] := by
  have hm : y ∈ xs := hy ▸ List.getElem_mem hi
  refine ⟨by rw [← hy]; exact Reads.one (i := (i : Int)) vO h.top rfl hi hc rfl, fun x hx => ?_, by simp, fun x hx => ?_, fun x hx => ?_⟩
  all_goals rw [List.mem_singleton.1 hx]
  · exact h.each y hm
  · exact h.m y hm
  · exact h.short y hm
set_option maxHeartbeats 1000000 in
theorem scopeParts.law (W : World) (x : Value) (xl : List Int) (hxl0 : ReadsI W W.heap.size x xl) (lxl : xl.length ≤ maxLen) (ht : HasLib W) :
    Calls Tryz.prog 9 #[x] W fun e w' => e = .returned (.bool true) ∧ Below W.heap.size W w' := by
  obtain ⟨r, er⟩ : ∃ q, q = genRg xl 0 := ⟨_, rfl⟩
  have mr : rgMay r = true := er ▸ genRg_may xl 0
  obtain ⟨s0, es0⟩ : ∃ q, q = vJ r := ⟨_, rfl⟩
  obtain ⟨hs09, hpg0⟩ := print_parse mr es0
  have hps0 : vJ r = s0 := es0.symm
  have hpd0 : (xG s0).getD [] = r := by rw [hpg0]; rfl
  refine zP (n := 59) Tryz.func9 rfl (by kernel_rfl) (by kernel_rfl) (ZO (Zv (.bool false) (ZR (Zv (x) (yE (k := 25) (args := #[x, .int .i64 0]) (fun v' L' => ∃ ob', L' = ob' ++ ([]) ∧ RgO v' r ob') (by kernel_rfl) (fun _ => by kernel_rfl) (fun w hO => (genRg_any x xl 0 w ((hxl0.below hO.below).more hO.below.size) (by unfold maxLen at lxl; omega) (by omega)).mono fun e w' ⟨v', ob', k1, k2, k3⟩ => ⟨v', _, k1, ⟨ob', rfl, by rw [← er] at k2; exact k2⟩, Own.joinN hO k3⟩) (fun sv1 L1 hv1 => ?_))))))
  obtain ⟨o1, rfl, hr1⟩ := hv1
  obtain ⟨xs1, u1, p1, q1, rfl, rfl, hx1, ha1⟩ := hr1
  obtain ⟨A1, c1, rfl⟩ := Sl.form ha1.top
  refine kA (L' := p1 ++ q1) (List.append_nil _) ?_
  have hxl : xs1.length = (r).length := by rw [← hx1, kB]
  have hx0 : 0 < xs1.length := by rw [hxl]; have := (fewR.facts (rgMay.facts mr).1).1; omega
  have hx9 : xs1.length ≤ 6 := by rw [hxl]; have := (fewR.facts (rgMay.facts mr).1).1; omega
  obtain ⟨g1, cur1, rfl, rfl, hc1, hm1, hz1, ht1⟩ := Sl.block ha1.top hx0
  refine Za (.agg #[.slice none 0 0]) (fun b1 => Zs 0 ⟨b1, #[.slice none 0 0], 25⟩ (off := 0) (.agg #[.slice (some ⟨g1, 0, none⟩) xs1.length c1]) (ZR (Zc (k := 34) (args := #[]) (.agg #[.slice none 0 0, .slice none 0 0]) (fun w _ => rnone_any w) (Za (.agg #[.slice none 0 0, .slice none 0 0]) (fun b2 => Zs 0 ⟨b2, #[.slice none 0 0, .slice none 0 0], 31⟩ (off := 0) (.agg #[.slice none 0 0, .slice none 0 0]) (ZN (z6 ?_)))))))
  refine ZO (Zv (.int .i64 0) (ZN (zL (gF (L' := ⟨b2, #[.slice none 0 0, .slice none 0 0], 31⟩ :: (⟨b1, #[.slice (some ⟨g1, 0, none⟩) xs1.length c1], 25⟩ :: (⟨g1, cur1, 47⟩ :: (q1 ++ ([]))))) (by rw [List.append_nil]; try rfl) (yP (fun L f m => ∃ (i : Nat) (V : Option Addr) (U : Option Addr) (c : Nat) (d : Nat) (s : St) (ob : List Blk) (j : Nat → Value), (i ≤ xs1.length ∧ s = xF (r.take i) ∧ SetO (.agg #[.slice V s.rel.length c, .slice U s.pre.length d]) s ob) ∧ L = ⟨b2, #[.slice V s.rel.length c, .slice U s.pre.length d], 31⟩ :: (⟨b1, #[.slice (some ⟨g1, 0, none⟩) xs1.length c1], 25⟩ :: (⟨g1, cur1, 47⟩ :: (q1 ++ (ob)))) ∧ f = kG j [(3, .pointer (some ⟨b1, 0, none⟩)), (4, .pointer (some ⟨b2, 0, none⟩)), (5, .int .i64 (i : Int))] ∧ m = xs1.length - i) (xs1.length - 0) ⟨0, none, none, 0, 0, gD, [], _, ⟨Nat.zero_le _, rfl, SetO.none⟩, rfl, ZU, rfl⟩ ?_)))))
  rintro L f m ⟨i, V, U, c, d, s, ob, j, hrel, rfl, rfl, rfl⟩
  have hil := hrel.1; have hss : SF s 198 := hrel.2.1 ▸ orAll_le (rgMay.facts mr).1 i
  refine z6 (ZO (Zv (.int .i64 (i : Int)) (Zv (.pointer (some ⟨b1, 0, none⟩)) (Zl 1 ⟨b1, #[.slice (some ⟨g1, 0, none⟩) xs1.length c1], 25⟩ (off := 0) (.slice (some ⟨g1, 0, none⟩) xs1.length c1) (Zv (.int .i64 (xs1.length : Int)) ?_)))))
  by_cases h1 : (i : Int) < (xs1.length : Int)
  · have hi : i < xs1.length := by omega
    obtain ⟨y, hy⟩ : ∃ y, xs1[i] = y := ⟨_, rfl⟩
    have hyr : r[i]'(by omega) = y.l := by have q0 := fS hi hy; exact (List.getElem_of_eq hx1.symm _).trans q0
    have hya : y.l ∈ r := hyr ▸ List.getElem_mem _
    obtain ⟨s1, es1⟩ : ∃ q, q = vJ [y.l] := ⟨_, rfl⟩
    obtain ⟨hs19, hpg1⟩ := print_parse (one_may mr hya) es1
    have hps1 : vJ [y.l] = s1 := es1.symm
    have hpd1 : (xG s1).getD [] = [y.l] := by rw [hpg1]; rfl
    refine Zd (p := (i : Int) < (xs1.length : Int)) true (decide_eq_true (h1)) (ZY (ZB (z6 (zL (ZO (Zv (.pointer (some ⟨b1, 0, none⟩)) (Zl 1 ⟨b1, #[.slice (some ⟨g1, 0, none⟩) xs1.length c1], 25⟩ (off := 0) (.slice (some ⟨g1, 0, none⟩) xs1.length c1) ?_)))))))
    refine Zv (.int .i64 (i : Int)) (Zv (.int .i64 (i : Int)) (Zu (k := .i64) (((i + 1 : Nat) : Int)) (IntWalk.i64_in _ (by omega)) (zV (.slice (some ⟨g1, 0 + (if c1 = i then 0 else i * 1), none⟩) (([y] : List Al).length) (c1 - i)) (by kernel_rfl) (run_sl1 (n := xs1.length) (c := c1) (k := i) (e := 47) (sz := 1) rfl (by kernel_rfl) rfl (by kernel_rfl) (by kernel_rfl) (by kernel_rfl) (by kernel_rfl) (by omega)) (Zv (.agg #[.slice (some ⟨g1, 0 + (if c1 = i then 0 else i * 1), none⟩) (([y] : List Al).length) (c1 - i)]) (Zc (k := 21) (args := #[.agg #[.slice (some ⟨g1, 0 + (if c1 = i then 0 else i * 1), none⟩) (([y] : List Al).length) (c1 - i)]]) (.string (mkS s1)) (fun w hO => wA (by rw [(show xA [y] = [y.l] from rfl), hps1]) (f8 ((some ⟨g1, 0 + (if c1 = i then 0 else i * 1), none⟩)) (c1 - i) [y] w (one_in (RgA.inn ha1 rfl hO (fun x hx => by rw [List.mem_singleton] at hx; simp [hx]) (fun x hx => by simp [hx]) (by rw [hx1]; exact tP (rgMay.facts mr).1)) hi hy (by omega)) (ht.on hO.below))) (yE (k := 14) (args := #[.string (mkS s1)]) (fun v' L' => ∃ sv ob', v' = .tuple #[sv, .int .i64 0] ∧ L' = ob' ++ (⟨b2, #[.slice V s.rel.length c, .slice U s.pre.length d], 31⟩ :: (⟨b1, #[.slice (some ⟨g1, 0, none⟩) xs1.length c1], 25⟩ :: (⟨g1, cur1, 47⟩ :: (q1 ++ (ob))))) ∧ SetO sv (yF ([y.l])) ob') (by kernel_rfl) (fun _ => by kernel_rfl) (fun w hO => (gOf_any s1 w (by omega) (ht.on hO.below)).mono fun e w' ⟨v', ob', k1, k2, k3⟩ => ⟨.tuple #[v', .int .i64 0], _, k1.trans (by rw [show vW s1 = 0 from (wG hpg1).1]), ⟨v', ob', rfl, rfl, by rw [show (xG s1).getD [] = [y.l] from hpd1] at k2; exact k2⟩, Own.joinN hO k3⟩) (fun tv L2 hv2 => ?_)))))))
    obtain ⟨sv2, o2, rfl, rfl, hr2⟩ := hv2
    obtain ⟨V2, U2, c2, d2, rfl⟩ := hr2.form
    refine Zv (.tuple #[.agg #[.slice V2 ((yF ([y.l])).rel.length) c2, .slice U2 ((yF ([y.l])).pre.length) d2], .int .i64 0]) (Zv (.agg #[.slice V2 ((yF ([y.l])).rel.length) c2, .slice U2 ((yF ([y.l])).pre.length) d2]) (Zv (.int .i64 0) (Za (.agg #[.slice none 0 0, .slice none 0 0]) (fun b3 => Zs 0 ⟨b3, #[.slice none 0 0, .slice none 0 0], 31⟩ (off := 0) (.agg #[.slice V2 ((yF ([y.l])).rel.length) c2, .slice U2 ((yF ([y.l])).pre.length) d2]) (Zv (.int .i64 0) (ZN (z6 (ZO (Zv (.int .i64 0) ?_)))))))))
    refine Zv (.bool false) (ZX (ZB (z7 (mL ⟨b2, #[.slice V s.rel.length c, .slice U s.pre.length d], 31⟩ (off := 0) (.agg #[.slice V s.rel.length c, .slice U s.pre.length d]) (by kernel_rfl) rfl (by simp) (by kernel_rfl) (by kernel_rfl) (Zl 0 ⟨b3, #[.slice V2 ((yF ([y.l])).rel.length) c2, .slice U2 ((yF ([y.l])).pre.length) d2], 31⟩ (off := 0) (.agg #[.slice V2 ((yF ([y.l])).rel.length) c2, .slice U2 ((yF ([y.l])).pre.length) d2]) (yE (k := 35) (args := #[.agg #[.slice V s.rel.length c, .slice U s.pre.length d], .agg #[.slice V2 ((yF ([y.l])).rel.length) c2, .slice U2 ((yF ([y.l])).pre.length) d2]]) (fun v' L' => ∃ ob', L' = ob' ++ (⟨b3, #[.slice V2 ((yF ([y.l])).rel.length) c2, .slice U2 ((yF ([y.l])).pre.length) d2], 31⟩ :: (o2 ++ (⟨b2, #[.slice V s.rel.length c, .slice U s.pre.length d], 31⟩ :: (⟨b1, #[.slice (some ⟨g1, 0, none⟩) xs1.length c1], 25⟩ :: (⟨g1, cur1, 47⟩ :: (q1 ++ (ob))))))) ∧ SetO v' (orT s (yF ([y.l]))) ob') (by kernel_rfl) (fun _ => by kernel_rfl) (fun w hO => (rsetOr_any V U V2 U2 c d c2 d2 s (yF ([y.l])) w (SetO.inn hrel.2.2 hO (fun x hx => by simp [hx]) hss (by decide)) (SetO.inn hr2 hO (fun x hx => by simp [hx]) ((bX ([y.l]))) (by decide))).mono fun e w' ⟨v', ob', k1, k2, k3⟩ => ⟨v', _, k1, ⟨ob', rfl, by rw [if_pos (by rw [(hss).may, ((bX ([y.l]))).may]; rfl)] at k2; exact k2⟩, Own.joinN hO k3⟩) (fun v3 L3 hv3 => ?_)))))))
    obtain ⟨o3, rfl, hr3⟩ := hv3
    obtain ⟨V3, U3, c3, d3, rfl⟩ := hr3.form
    exact vZ (L' := ⟨b2, #[.slice V s.rel.length c, .slice U s.pre.length d], 31⟩ :: (⟨b1, #[.slice (some ⟨g1, 0, none⟩) xs1.length c1], 25⟩ :: (⟨g1, cur1, 47⟩ :: (q1 ++ (o3))))) (fun w hO => own_parts hO) (Zs 0 ⟨b2, #[.slice V s.rel.length c, .slice U s.pre.length d], 31⟩ (off := 0) (.agg #[.slice V3 ((orT s (yF ([y.l]))).rel.length) c3, .slice U3 ((orT s (yF ([y.l]))).pre.length) d3]) (zR (zT (zA (z7 (Zv (.int .i64 (i : Int)) (Zu (k := .i64) (((i + 1 : Nat) : Int)) (IntWalk.i64_in _ (by omega)) (Zv (.int .i64 ((i + 1 : Nat) : Int)) (zR (zU (m' := xs1.length - (i + 1)) (by omega) ⟨i + 1, V3, U3, c3, d3, _, o3, _, ⟨by omega, by rw [orAll_next (by omega) hyr, ← hrel.2.1, rgSet_one mr hya], hr3⟩, rfl, ZU, rfl⟩))))))))))
  have hsr : s = yF r := by rw [hrel.2.1, List.take_of_length_le (by omega)]; unfold yF; rw [if_pos mr]
  refine Zd (p := (i : Int) < (xs1.length : Int)) false (decide_eq_false (h1)) (ZX (y8 (zC (zN (zI (zA (ZO (Zl 1 ⟨b1, #[.slice (some ⟨g1, 0, none⟩) xs1.length c1], 25⟩ (off := 0) (.agg #[.slice (some ⟨g1, 0, none⟩) xs1.length c1]) ?_))))))))
  refine Zc (k := 21) (args := #[.agg #[.slice (some ⟨g1, 0, none⟩) xs1.length c1]]) (.string (mkS s0)) (fun w hO => wA (by rw [hx1, hps0]) (f8 (some ⟨g1, 0, none⟩) c1 xs1 w (RgA.inn ha1 rfl hO (fun x hx => by rw [List.mem_singleton] at hx; simp [hx]) (fun x hx => by simp [hx]) (by rw [hx1]; exact tP (rgMay.facts mr).1)) (ht.on hO.below))) (yE (k := 14) (args := #[.string (mkS s0)]) (fun v' L' => ∃ sv ob', v' = .tuple #[sv, .int .i64 0] ∧ L' = ob' ++ (⟨b2, #[.slice V s.rel.length c, .slice U s.pre.length d], 31⟩ :: (⟨b1, #[.slice (some ⟨g1, 0, none⟩) xs1.length c1], 25⟩ :: (⟨g1, cur1, 47⟩ :: (q1 ++ (ob))))) ∧ SetO sv (yF (r)) ob') (by kernel_rfl) (fun _ => by kernel_rfl) (fun w hO => (gOf_any s0 w (by omega) (ht.on hO.below)).mono fun e w' ⟨v', ob', k1, k2, k3⟩ => ⟨.tuple #[v', .int .i64 0], _, k1.trans (by rw [show vW s0 = 0 from (wG hpg0).1]), ⟨v', ob', rfl, rfl, by rw [show (xG s0).getD [] = r from hpd0] at k2; exact k2⟩, Own.joinN hO k3⟩) (fun tv L4 hv4 => ?_))
  obtain ⟨sv4, o4, rfl, rfl, hr4⟩ := hv4
  obtain ⟨V4, U4, c4, d4, rfl⟩ := hr4.form
  refine Zv (.tuple #[.agg #[.slice V4 ((yF (r)).rel.length) c4, .slice U4 ((yF (r)).pre.length) d4], .int .i64 0]) (Zv (.agg #[.slice V4 ((yF (r)).rel.length) c4, .slice U4 ((yF (r)).pre.length) d4]) (Zv (.int .i64 0) (Za (.agg #[.slice none 0 0, .slice none 0 0]) (fun b3 => Zs 0 ⟨b3, #[.slice none 0 0, .slice none 0 0], 31⟩ (off := 0) (.agg #[.slice V4 ((yF (r)).rel.length) c4, .slice U4 ((yF (r)).pre.length) d4]) (Zv (.int .i64 0) (ZN (z6 (uQ (by kernel_rfl) (zZ 0 (by kernel_rfl) (kJ [] _ (k := 11) (args := #[]) (.bool true) rfl (by kernel_rfl) (fun _ => by kernel_rfl) (fun w hO => awake7_any w (ht.on hO.below)) ?_))))))))))
  refine ZT 1 [] _ (.bool true) (zF zJ) rfl (ZT 2 [] _ (.int .i64 0) (zF zJ) rfl (ZT 3 [] _ (.bool true) (zF zJ) rfl (ZT 4 [] _ (.bool true) (zF zJ) rfl (ZT 5 [] _ (.bool true) (zF zJ) rfl (ZL 6 [] _ 0 ⟨b3, #[.slice V4 ((yF (r)).rel.length) c4, .slice U4 ((yF (r)).pre.length) d4], 31⟩ (off := 0) (.agg #[.slice V4 ((yF (r)).rel.length) c4, .slice U4 ((yF (r)).pre.length) d4]) (zF zJ) rfl rfl (h_loadm 7 [] _ ⟨b2, #[.slice V s.rel.length c, .slice U s.pre.length d], 31⟩ (off := 0) (.agg #[.slice V s.rel.length c, .slice U s.pre.length d]) rfl (by kernel_rfl) (by kernel_rfl) (by kernel_rfl) (zF zJ) (by kernel_rfl) rfl (by simp) (by kernel_rfl) (by kernel_rfl) (zZ 8 (by kernel_rfl) (kJ [] _ (k := 17) (args := #[.agg #[.slice V4 ((yF (r)).rel.length) c4, .slice U4 ((yF (r)).pre.length) d4], .agg #[.slice V s.rel.length c, .slice U s.pre.length d]]) (.bool true) rfl (by kernel_rfl) (fun _ => by kernel_rfl) (fun w hO => ret_b ((same_g _ _).trans (decide_eq_true (hsr.symm))) (t8 V4 U4 V U c4 d4 c d (yF (r)) s w (SetO.inn hr4 hO (fun x hx => by simp [hx]) ((bX (r))) (by decide)) (SetO.inn hrel.2.2 hO (fun x hx => by simp [hx]) hss (by decide)))) (ZT 9 [] _ (.bool true) (zF zJ) rfl (ZT 10 [] _ (.bool true) (zF zJ) rfl (h_loadm 11 [] _ ⟨b1, #[.slice (some ⟨g1, 0, none⟩) xs1.length c1], 25⟩ (off := 0) (.agg #[.slice (some ⟨g1, 0, none⟩) xs1.length c1]) rfl (by kernel_rfl) (by kernel_rfl) (by kernel_rfl) (zF zJ) (by kernel_rfl) rfl (by simp) (by kernel_rfl) (by kernel_rfl) ?_)))))))))))
  refine h_loadm 13 [] _ ⟨b2, #[.slice V s.rel.length c, .slice U s.pre.length d], 31⟩ (off := 0) (.agg #[.slice V s.rel.length c, .slice U s.pre.length d]) rfl (by kernel_rfl) (by kernel_rfl) (by kernel_rfl) (zF zJ) (by kernel_rfl) rfl (by simp) (by kernel_rfl) (by kernel_rfl) (zZ 12 (by kernel_rfl) (gW _ (k := 23) (args := #[.agg #[.slice (some ⟨g1, 0, none⟩) xs1.length c1]]) (fun v' L' => ∃ ob', L' = ob' ++ ([] ++ (⟨b3, #[.slice V4 ((yF (r)).rel.length) c4, .slice U4 ((yF (r)).pre.length) d4], 31⟩ :: (o4 ++ (⟨b2, #[.slice V s.rel.length c, .slice U s.pre.length d], 31⟩ :: (⟨b1, #[.slice (some ⟨g1, 0, none⟩) xs1.length c1], 25⟩ :: (⟨g1, cur1, 47⟩ :: (q1 ++ (ob)))))))) ∧ SetO v' (yF r) ob') rfl (by kernel_rfl) (fun _ => by kernel_rfl) (fun w hO => (gSet_any (some ⟨g1, 0, none⟩) c1 xs1 w (RgA.inn ha1 rfl hO (fun x hx => by rw [List.mem_singleton] at hx; simp [hx]) (fun x hx => by simp [hx]) (by rw [hx1]; exact tP (rgMay.facts mr).1)) (ht.on hO.below)).mono fun e w' ⟨v', ob', k1, k2, k3⟩ => ⟨v', _, k1, ⟨ob', rfl, by rw [hx1] at k2; exact k2⟩, Own.joinN hO k3⟩) (fun v' L' ⟨ob', e, _⟩ w hO => by subst e; exact Own.sub [] (Own.sub ob' hO)) (fun v5 L2 hv2 => ?_)))
  obtain ⟨o5, rfl, hr5⟩ := hv2
  obtain ⟨V5, U5, c5, d5, rfl⟩ := hr5.form
  exact vQ (L' := (o5 ++ ([] : List Blk)) ++ (⟨b3, #[.slice V4 ((yF (r)).rel.length) c4, .slice U4 ((yF (r)).pre.length) d4], 31⟩ :: (o4 ++ (⟨b2, #[.slice V s.rel.length c, .slice U s.pre.length d], 31⟩ :: (⟨b1, #[.slice (some ⟨g1, 0, none⟩) xs1.length c1], 25⟩ :: (⟨g1, cur1, 47⟩ :: (q1 ++ (ob)))))))) (List.append_assoc _ _ _).symm (zZ 14 (by kernel_rfl) (kJ (o5 ++ ([] : List Blk)) _ (k := 17) (args := #[.agg #[.slice V5 ((yF r).rel.length) c5, .slice U5 ((yF r).pre.length) d5], .agg #[.slice V s.rel.length c, .slice U s.pre.length d]]) (.bool true) rfl (by kernel_rfl) (fun _ => by kernel_rfl) (fun w hO => ret_b ((same_g _ _).trans (decide_eq_true (hsr.symm))) (t8 V5 U5 V U c5 d5 c d (yF r) s w (SetO.inn hr5 hO (fun x hx => by simp [hx]) ((bX r)) (by decide)) (SetO.inn hrel.2.2 hO (fun x hx => by simp [hx]) hss (by decide)))) (ZT 15 (o5 ++ ([] : List Blk)) _ (.bool true) (zF zJ) rfl (ZT 16 (o5 ++ ([] : List Blk)) _ (.bool true) (zF zJ) rfl (h_drop (o5 ++ ([] : List Blk)) (x7 (by kernel_rfl) (zA (zB (ZF (.bool true) Tryz.results9 (fun w hO => ⟨rfl, hO.below⟩))))))))))
end Go.Proofs.YtkljdpiaghepfaaGreatDoor
end

section
/-
  ScopeParts: for every input the call returns true, and each argument reads afterwards as it read before. Conditions: none but the row's own, that the listed package-level variables read as the program's text lays them.
-/
namespace Go.Proofs.YtkljdpiaghepfaaGreatDoor.scopeParts
open Go.ChangeShapes Go.WideShapes Go.ChangeAt Go.RowKit
open Go.ChangeMaps (open_string shut_string)
set_option linter.unusedVariables false

set_option maxRecDepth 100000 in
theorem contract (H : Type) (enc : TypeId × Value → H) (W : World) (base : Nat) (args : Array Value) (ds gs : List (DataW H)) (before : List MemPlace)
    (hval : ∀ (j : Nat) t v, Tryz.f9.params[j]? = some t → args[j]? = some v → Value.okWide Tryz.prog W .any base t v)
    (hW : DataW.Whole enc Tryz.prog Tryz.f9.params.toList Rows.scopePartsSpec.vars false W args.toList ds gs before) (hL : laidMetH Tryz.prog Rows.scopePartsRow.laid W) (hS : W.ShapedOpen Tryz.prog) :
    Calls Tryz.prog 9 args W fun e W' => ∃ v, e = .returned v ∧ Rows.scopePartsSpec.post enc Tryz.prog Tryz.f9 false true false false W args v W' := by
  have ht : HasLib W := hasLib_of (hasTab_of hL (by rfl)) hS
  have hW' := hW
  obtain ⟨p, q, hA0, hV, rfl, hfz, hnd⟩ := hW
  have hA : DataW.TrodAll enc Tryz.prog W 0 (fun _ => true) true Tryz.f9.params.toList args.toList ds p := hA0
  rw [Tryz.params9] at hA hval
  obtain ⟨v0, vs0, d0, ds0, p0, q0, hargs, rfl, rfl, h0, r0⟩ := trodAll_cons hA
  obtain ⟨rfl, rfl, rfl⟩ := trodAll_nil r0
  obtain rfl : args = #[v0] := by cases args; simp_all
  obtain ⟨rfl, rfl⟩ := trodVars_none hV
  clear hA0
  obtain ⟨l, l_reads, l_len⟩ := open_nums (hval 0 40 v0 rfl rfl) h0
  refine (scopeParts.law W v0 l l_reads l_len ht).mono fun e W' ⟨he, hb⟩ => ?_
  subst he
  exact ⟨_, rfl, law_end laidOut (fun t ht => by rw [Tryz.params9] at ht; simp at ht; subst ht; exact ⟨by kernel_rfl, of_decide_eq_true (by kernel_rfl)⟩) rfl rfl Tryz.underlying4 hW' (by rfl) hb⟩

noncomputable def laidWorld (os : Os) : World :=
  { World.holding Tryz.prog os ⟨#[], #[], []⟩ with heap := layAt (layAt (layAt (layAt (layAt ((World.holding Tryz.prog os ⟨#[], #[], []⟩).heap) 4 Rows.laid_math_bits_deBruijn32tab) 5 Rows.laid_math_bits_deBruijn64tab) 3 Rows.laid_internal_strconv_uint64pow10) 2 Rows.laid_unicode_utf8_acceptRanges) 1 Rows.laid_unicode_utf8_first }
theorem laid_met (os : Os) : laidMet Tryz.prog Rows.scopePartsRow.laid ((laidWorld os).forCall (fun _ _ => 0) ⟨#[], #[.slice none 0 0], []⟩).memory :=
  laidMet_of_run' 8 (by kernel_rfl) (by kernel_rfl)
theorem reads (os : Os) {H : Type} (enc : TypeId × Value → H) : ∃ places, DataW.whole enc Tryz.prog ((laidWorld os).forCall (fun _ _ => 0) ⟨#[], #[.slice none 0 0], []⟩).memory Tryz.f9.params.toList Rows.scopePartsSpec.vars false (#[.slice none 0 0] : Array Value).toList 8 = some ([.nil], [], places) :=
  ⟨[], by kernel_rfl⟩

set_option maxRecDepth 100000 in
theorem lifted (os : Os) (started : os.Started) (H : Type) (enc : TypeId × Value → H) (F : Stop.Interp) :
    ReturnsInHanded {} Tryz.checked os 9 .any ((OpenSpec.ofChange Rows.scopePartsSpec).preRow enc Tryz.prog Tryz.f9 Rows.scopePartsRow.domain false Rows.scopePartsRow.laid) (((OpenSpec.ofChange Rows.scopePartsSpec).at F).post enc Tryz.prog Tryz.f9 false true false false) := by
  obtain ⟨places, hx⟩ := reads os enc
  refine returnsInHanded_of_row (C := Tryz.checked) (s := OpenSpec.ofChange Rows.scopePartsSpec) own started (by kernel_rfl) Tryz.func9
    (witness_row_at (enc := enc) (C := Tryz.checked) false (laidWorld os) #[.slice none 0 0] rfl (by kernel_rfl) (by kernel_rfl) (by kernel_rfl)
      (OpenSpec.preRow_of_cond 8 hx (by kernel_rfl) (fun k hk => by cases hk) (by kernel_rfl) (laid_met os))) ?_
  intro W base args ds gs before hval hW _ _ _ hL hS _
  exact contract H enc W base args ds gs before hval hW hL hS

theorem said : Rows.ScopePartsSaid :=
  OpenClaim.holds_of_cond 9 Tryz.f9 rfl rfl rfl rfl rfl rfl rfl ⟨rfl, rfl, rfl, rfl, rfl⟩ rfl rfl rfl rfl rfl (by kernel_rfl) Tryz.func9 (by kernel_rfl)
    (of_decide_eq_true (by kernel_rfl)) (by unfold Func.isWrapper; first | (rw [if_pos (by decide +kernel)]; kernel_rfl) | (rw [if_neg (by decide +kernel)]; exact ⟨rfl, rfl⟩))
    (fun os started H enc _ F => by rw [OpenClaim.pre_eq_preRow]; exact lifted os started H enc F)

theorem tG (f : FuncId) (fn : Func) (hf : Tryz.pinned.checked.prog.funcNamed "linchpin/linchpinlaw7.ScopeParts" = some f) (hfn : Tryz.pinned.checked.prog.funcs[f]? = some fn) :
    false = Tryz.pinned.checked.prog.looks [] ∧ ∀ (j : Nat) t, fn.params[j]? = some t → Tryz.pinned.checked.prog.wantsStandIn t = false := by
  obtain rfl : f = 9 := Option.some.inj ((show Tryz.prog.funcNamed "linchpin/linchpinlaw7.ScopeParts" = some 9 by kernel_rfl).symm.trans hf) |>.symm
  obtain rfl : fn = Tryz.f9 := (Option.some.inj (Tryz.func9.symm.trans hfn)).symm
  refine ⟨by kernel_rfl, fun j t ht => ?_⟩
  rw [Tryz.params9] at ht
  have hm := Array.mem_of_getElem? ht
  simp at hm
  subst hm
  exact (show Tryz.prog.wantsStandIn 40 = false by kernel_rfl)

theorem card : Rows.ScopePartsCardSaid :=
  Claim7.holds_tied_plain_at .later [] _ _ _ _ said (fun _ h => by cases h) (by kernel_rfl) (fun _ h => by cases h) scopeParts_row_tie rfl ⟨rfl, rfl⟩ (by kernel_rfl) rfl tG (by kernel_rfl)

#print axioms card
end Go.Proofs.YtkljdpiaghepfaaGreatDoor.scopeParts
end
