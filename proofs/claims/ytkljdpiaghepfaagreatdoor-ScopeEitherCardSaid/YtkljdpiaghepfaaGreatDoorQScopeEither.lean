/-
  ScopeEither: for every input the call returns true, and each argument reads afterwards as it read before. Conditions: none but the row's own, that the listed package-level variables read as the program's text lays them.
-/
import Derived.Test.YtkljdpiaghepfaaGreatDoorCards
import Derived.Test.YtkljdpiaghepfaaGreatDoorTie
import Derived.Test.YtkljdpiaghepfaaGreatDoorMA7

section
/-
  ScopeEither: for any two strings the law returns true, and nothing that was there is changed. Condition: the library's table of powers of ten reads as it is laid.
-/
namespace Go.Proofs.YtkljdpiaghepfaaGreatDoor
open Go.RowKit
set_option maxRecDepth 100000
set_option linter.unusedVariables false
set_option linter.unusedSimpArgs false
set_option maxHeartbeats 2000000

theorem fX (s : List UInt8) : yW s = 0 ∨ yW s = 3 ∨ yW s = 6 := by
  cases h : zM s with
  | some r => exact .inl (jA h).1
  | none => exact .inr (err_none h)
theorem pJ {s : List UInt8} (h : yW s = 0) : ∃ r, zM s = some r := by
  cases hp : zM s with
  | some r => exact ⟨r, rfl⟩
  | none => rcases err_none hp with e | e <;> rw [e] at h <;> cases h
theorem nil_err {a b : List UInt8} (h : ¬ (0 : Int) < ((mkS a).size : Int) + ((mkS b).size : Int)) : ¬ yW ((a ++ [124, 124]) ++ b) = 0 := fun e => by
  rw [xR, xR] at h
  obtain rfl := List.eq_nil_of_length_eq_zero (show a.length = 0 by omega)
  obtain rfl := List.eq_nil_of_length_eq_zero (show b.length = 0 by omega)
  obtain ⟨r, hr⟩ := pJ e
  rw [either_nil] at hr; cases hr
theorem either_ok {a b : List UInt8} (ha : yW a = 0) (hb : yW b = 0) (hz : yW ((a ++ [124, 124]) ++ b) = 0) : zU ((zM ((a ++ [124, 124]) ++ b)).getD []) = orT (zU ((zM a).getD [])) (zU ((zM b).getD [])) := by
  obtain ⟨r, hr⟩ := pJ ha
  obtain ⟨q, hq⟩ := pJ hb
  obtain ⟨z, hz⟩ := pJ hz
  rcases either_set hr hq with ⟨h1, h2⟩ | h1
  · rw [h1, hr, hq]; exact h2
  · rw [h1] at hz; cases hz
set_option maxHeartbeats 8000000 in
theorem scopeEither.law (W : World) (a b : List UInt8) (ht : HasLib W) :
    Calls Tryz.prog 10 #[.string (mkS a), .string (mkS b)] W fun e w' => e = .returned (.bool true) ∧ Below W.heap.size W w' := by
  have hsa := xR a
  have hsb := xR b
  refine zR (n := 86) Tryz.func10 rfl (by kernel_rfl) (by kernel_rfl) (ZO (Zv (.bool false) (ZN (z7 (ZO (Zv (.string (mkS a)) (Zv (.int .i64 ((mkS a).size)) ?_)))))))
  by_cases h1 : (60 : Int) < (mkS a).size
  · refine yI (p := (60 : Int) < (mkS a).size) true (by kernel_rfl) (fun _ => by kernel_rfl) (decide_eq_true (h1)) ?_
    refine Zv (.bool true) (Zk (Zk (Zk (Zv (.bool true) (ZY (ZO (Zc (k := 11) (args := #[]) (.bool true) (fun w hO => uZ w (ht.on hO.below)) (Zv (.bool true) ?_))))))))
    exact ZN (zD (z6 (ZF (.bool true) Tryz.results10 (fun w hO => ⟨rfl, hO.below⟩))))
  refine Zd (p := (60 : Int) < (mkS a).size) false (decide_eq_false (h1)) (Zv (.bool false) (Zv (.string (mkS b)) (Zv (.int .i64 ((mkS b).size)) ?_)))
  by_cases h2 : (60 : Int) < (mkS b).size
  · refine yI (p := (60 : Int) < (mkS b).size) true (by kernel_rfl) (fun _ => by kernel_rfl) (decide_eq_true (h2)) ?_
    refine Zv (.bool true) (ZY (ZO (Zc (k := 11) (args := #[]) (.bool true) (fun w hO => uZ w (ht.on hO.below)) (Zv (.bool true) (ZN (zD (z6 ?_)))))))
    exact ZF (.bool true) Tryz.results10 (fun w hO => ⟨rfl, hO.below⟩)
  refine Zd (p := (60 : Int) < (mkS b).size) false (decide_eq_false (h2)) (Zv (.bool false) (ZX (ZB (ZO (Zv (.string (mkS a)) (yD (k := 14) (args := #[.string (mkS a)]) (fun v' L' => ∃ sv ob', v' = .tuple #[sv, .int .i64 (yW a)] ∧ L' = ob' ++ ([]) ∧ SetO sv (zU ((zM a).getD [])) ob') (by kernel_rfl) (fun _ => by kernel_rfl) (fun w hO => (gOf_any a w (by omega) (ht.on hO.below)).mono fun e w' ⟨v', ob', k1, k2, k3⟩ => ⟨.tuple #[v', .int .i64 (yW a)], _, k1.trans (by rw [show yW a = (yW a) from rfl]), ⟨v', ob', rfl, rfl, by rw [show (zM a).getD [] = (zM a).getD [] from rfl] at k2; exact k2⟩, Own.joinN hO k3⟩) (fun tv L1 hv1 => ?_)))))))
  obtain ⟨sv1, o1, rfl, rfl, hr1⟩ := hv1
  obtain ⟨V1, U1, c1, d1, rfl⟩ := hr1.form
  refine kA (L' := o1) (List.append_nil _) (Zv (.tuple #[.agg #[.slice V1 ((zU ((zM a).getD [])).rel.length) c1, .slice U1 ((zU ((zM a).getD [])).pre.length) d1], .int .i64 (yW a)]) (Zv (.agg #[.slice V1 ((zU ((zM a).getD [])).rel.length) c1, .slice U1 ((zU ((zM a).getD [])).pre.length) d1]) (Zv (.int .i64 (yW a)) (Za (.agg #[.slice none 0 0, .slice none 0 0]) (fun b1 => Zs 0 ⟨b1, #[.slice none 0 0, .slice none 0 0], 31⟩ (off := 0) (.agg #[.slice V1 ((zU ((zM a).getD [])).rel.length) c1, .slice U1 ((zU ((zM a).getD [])).pre.length) d1]) (Zv (.int .i64 (yW a)) (ZR (Zv (.string (mkS b)) ?_))))))))
  refine yD (k := 14) (args := #[.string (mkS b)]) (fun v' L' => ∃ sv ob', v' = .tuple #[sv, .int .i64 (yW b)] ∧ L' = ob' ++ (⟨b1, #[.slice V1 ((zU ((zM a).getD [])).rel.length) c1, .slice U1 ((zU ((zM a).getD [])).pre.length) d1], 31⟩ :: (o1)) ∧ SetO sv (zU ((zM b).getD [])) ob') (by kernel_rfl) (fun _ => by kernel_rfl) (fun w hO => (gOf_any b w (by omega) (ht.on hO.below)).mono fun e w' ⟨v', ob', k1, k2, k3⟩ => ⟨.tuple #[v', .int .i64 (yW b)], _, k1.trans (by rw [show yW b = (yW b) from rfl]), ⟨v', ob', rfl, rfl, by rw [show (zM b).getD [] = (zM b).getD [] from rfl] at k2; exact k2⟩, Own.joinN hO k3⟩) (fun tv L2 hv2 => ?_)
  obtain ⟨sv2, o2, rfl, rfl, hr2⟩ := hv2
  obtain ⟨V2, U2, c2, d2, rfl⟩ := hr2.form
  refine Zv (.tuple #[.agg #[.slice V2 ((zU ((zM b).getD [])).rel.length) c2, .slice U2 ((zU ((zM b).getD [])).pre.length) d2], .int .i64 (yW b)]) (Zv (.agg #[.slice V2 ((zU ((zM b).getD [])).rel.length) c2, .slice U2 ((zU ((zM b).getD [])).pre.length) d2]) (Zv (.int .i64 (yW b)) (Za (.agg #[.slice none 0 0, .slice none 0 0]) (fun b2 => Zs 0 ⟨b2, #[.slice none 0 0, .slice none 0 0], 31⟩ (off := 0) (.agg #[.slice V2 ((zU ((zM b).getD [])).rel.length) c2, .slice U2 ((zU ((zM b).getD [])).pre.length) d2]) (Zv (.int .i64 (yW b)) (ZR (Zv (.string (mkS a)) (y5 (.string (mkS (a ++ [124, 124]))) (by kernel_rfl) (xO (a := a) (b := [124, 124]) rfl (by kernel_rfl) (by kernel_rfl) (by simp only [List.length_append, List.length_cons, List.length_nil]; omega)) ?_))))))))
  refine Zv (.string (mkS b)) (y5 (.string (mkS ((a ++ [124, 124]) ++ b))) (by kernel_rfl) (xO (a := (a ++ [124, 124])) (b := b) rfl (by kernel_rfl) (by kernel_rfl) (by simp only [List.length_append, List.length_cons, List.length_nil]; omega)) (yD (k := 14) (args := #[.string (mkS ((a ++ [124, 124]) ++ b))]) (fun v' L' => ∃ sv ob', v' = .tuple #[sv, .int .i64 ((yW ((a ++ [124, 124]) ++ b)))] ∧ L' = ob' ++ (⟨b2, #[.slice V2 ((zU ((zM b).getD [])).rel.length) c2, .slice U2 ((zU ((zM b).getD [])).pre.length) d2], 31⟩ :: (o2 ++ (⟨b1, #[.slice V1 ((zU ((zM a).getD [])).rel.length) c1, .slice U1 ((zU ((zM a).getD [])).pre.length) d1], 31⟩ :: (o1)))) ∧ SetO sv (zU ((zM ((a ++ [124, 124]) ++ b)).getD [])) ob') (by kernel_rfl) (fun _ => by kernel_rfl) (fun w hO => (gOf_any (((a ++ [124, 124]) ++ b)) w (by simp only [List.length_append, List.length_cons, List.length_nil]; omega) (ht.on hO.below)).mono fun e w' ⟨v', ob', k1, k2, k3⟩ => ⟨.tuple #[v', .int .i64 ((yW ((a ++ [124, 124]) ++ b)))], _, k1.trans (by rw [show yW (((a ++ [124, 124]) ++ b)) = (yW ((a ++ [124, 124]) ++ b)) from rfl]), ⟨v', ob', rfl, rfl, by rw [show (zM (((a ++ [124, 124]) ++ b))).getD [] = (zM ((a ++ [124, 124]) ++ b)).getD [] from rfl] at k2; exact k2⟩, Own.joinN hO k3⟩) (fun tv L3 hv3 => ?_)))
  obtain ⟨sv3, o3, rfl, rfl, hr3⟩ := hv3
  obtain ⟨V3, U3, c3, d3, rfl⟩ := hr3.form
  refine Zv (.tuple #[.agg #[.slice V3 ((zU ((zM ((a ++ [124, 124]) ++ b)).getD [])).rel.length) c3, .slice U3 ((zU ((zM ((a ++ [124, 124]) ++ b)).getD [])).pre.length) d3], .int .i64 (yW ((a ++ [124, 124]) ++ b))]) (Zv (.agg #[.slice V3 ((zU ((zM ((a ++ [124, 124]) ++ b)).getD [])).rel.length) c3, .slice U3 ((zU ((zM ((a ++ [124, 124]) ++ b)).getD [])).pre.length) d3]) (Zv (.int .i64 (yW ((a ++ [124, 124]) ++ b))) (Za (.agg #[.slice none 0 0, .slice none 0 0]) (fun b3 => Zs 0 ⟨b3, #[.slice none 0 0, .slice none 0 0], 31⟩ (off := 0) (.agg #[.slice V3 ((zU ((zM ((a ++ [124, 124]) ++ b)).getD [])).rel.length) c3, .slice U3 ((zU ((zM ((a ++ [124, 124]) ++ b)).getD [])).pre.length) d3]) (Zv (.int .i64 (yW ((a ++ [124, 124]) ++ b))) (ZN (z7 (ZO (Zv (.int .i64 (yW a)) ?_)))))))))
  by_cases h3 : ((yW a) : Int) = 0
  · refine vL (p := ((yW a) : Int) = 0) true (by kernel_rfl) (fun _ => by kernel_rfl) (decide_eq_true (h3)) ?_
    refine Zv (.bool false) (Zv (.int .i64 (yW b)) ?_)
    by_cases h4 : ((yW b) : Int) = 0
    · refine vL (p := ((yW b) : Int) = 0) true (by kernel_rfl) (fun _ => by kernel_rfl) (decide_eq_true (h4)) ?_
      refine Zv (.bool false) (ZX (ZB (z7 (wL (by kernel_rfl) (zX 0 (by kernel_rfl) (kK [] _ (k := 11) (args := #[]) (.bool true) rfl (by kernel_rfl) (fun _ => by kernel_rfl) (fun w hO => uZ w (ht.on hO.below)) (ZT 1 [] _ (.bool true) (zF zG) rfl (ZT 2 [] _ (.int .i64 (yW ((a ++ [124, 124]) ++ b))) (zF zG) rfl ?_))))))))
      by_cases h5 : ((yW ((a ++ [124, 124]) ++ b)) : Int) = 0
      · refine h_dec 3 [] _ (((yW ((a ++ [124, 124]) ++ b)) : Int) = 0) true rfl (by kernel_rfl) (by kernel_rfl) (by kernel_rfl) (zF zG) (by kernel_rfl) (fun _ => by kernel_rfl) (decide_eq_true (h5)) ?_
        refine ZT 4 [] _ (.bool true) (zF zG) rfl (ZL 5 [] _ 0 ⟨b3, #[.slice V3 ((zU ((zM ((a ++ [124, 124]) ++ b)).getD [])).rel.length) c3, .slice U3 ((zU ((zM ((a ++ [124, 124]) ++ b)).getD [])).pre.length) d3], 31⟩ (off := 0) (.agg #[.slice V3 ((zU ((zM ((a ++ [124, 124]) ++ b)).getD [])).rel.length) c3, .slice U3 ((zU ((zM ((a ++ [124, 124]) ++ b)).getD [])).pre.length) d3]) (zF zG) rfl rfl (h_loadm 6 [] _ ⟨b1, #[.slice V1 ((zU ((zM a).getD [])).rel.length) c1, .slice U1 ((zU ((zM a).getD [])).pre.length) d1], 31⟩ (off := 0) (.agg #[.slice V1 ((zU ((zM a).getD [])).rel.length) c1, .slice U1 ((zU ((zM a).getD [])).pre.length) d1]) rfl (by kernel_rfl) (by kernel_rfl) (by kernel_rfl) (zF zG) (by kernel_rfl) rfl (by simp) (by kernel_rfl) (by kernel_rfl) (h_loadm 7 [] _ ⟨b2, #[.slice V2 ((zU ((zM b).getD [])).rel.length) c2, .slice U2 ((zU ((zM b).getD [])).pre.length) d2], 31⟩ (off := 0) (.agg #[.slice V2 ((zU ((zM b).getD [])).rel.length) c2, .slice U2 ((zU ((zM b).getD [])).pre.length) d2]) rfl (by kernel_rfl) (by kernel_rfl) (by kernel_rfl) (zF zG) (by kernel_rfl) rfl (by simp) (by kernel_rfl) (by kernel_rfl) (zX 8 (by kernel_rfl) (gO _ (k := 35) (args := #[.agg #[.slice V1 ((zU ((zM a).getD [])).rel.length) c1, .slice U1 ((zU ((zM a).getD [])).pre.length) d1], .agg #[.slice V2 ((zU ((zM b).getD [])).rel.length) c2, .slice U2 ((zU ((zM b).getD [])).pre.length) d2]]) (fun v' L' => ∃ ob', L' = ob' ++ ([] ++ (⟨b3, #[.slice V3 ((zU ((zM ((a ++ [124, 124]) ++ b)).getD [])).rel.length) c3, .slice U3 ((zU ((zM ((a ++ [124, 124]) ++ b)).getD [])).pre.length) d3], 31⟩ :: (o3 ++ (⟨b2, #[.slice V2 ((zU ((zM b).getD [])).rel.length) c2, .slice U2 ((zU ((zM b).getD [])).pre.length) d2], 31⟩ :: (o2 ++ (⟨b1, #[.slice V1 ((zU ((zM a).getD [])).rel.length) c1, .slice U1 ((zU ((zM a).getD [])).pre.length) d1], 31⟩ :: (o1))))))) ∧ SetO v' (orT (zU ((zM a).getD [])) (zU ((zM b).getD []))) ob') rfl (by kernel_rfl) (fun _ => by kernel_rfl) (fun w hO => (rsetOr_any V1 U1 V2 U2 c1 d1 c2 d2 (zU ((zM a).getD [])) (zU ((zM b).getD [])) w (SetO.inn hr1 hO (fun x hx => by simp [hx]) ((v8 ((zM a).getD []))) (by decide)) (SetO.inn hr2 hO (fun x hx => by simp [hx]) ((v8 ((zM b).getD []))) (by decide))).mono fun e w' ⟨v', ob', k1, k2, k3⟩ => ⟨v', _, k1, ⟨ob', rfl, by rw [if_pos (by rw [((v8 ((zM a).getD []))).may, ((v8 ((zM b).getD []))).may]; rfl)] at k2; exact k2⟩, Own.joinN hO k3⟩) (fun v' L' ⟨ob', e, _⟩ w hO => by subst e; exact Own.sub [] (Own.sub ob' hO)) (fun v4 L2 hv2 => ?_))))))
        obtain ⟨o4, rfl, hr4⟩ := hv2
        obtain ⟨V4, U4, c4, d4, rfl⟩ := hr4.form
        refine v6 (L' := (o4 ++ ([] : List Blk)) ++ (⟨b3, #[.slice V3 ((zU ((zM ((a ++ [124, 124]) ++ b)).getD [])).rel.length) c3, .slice U3 ((zU ((zM ((a ++ [124, 124]) ++ b)).getD [])).pre.length) d3], 31⟩ :: (o3 ++ (⟨b2, #[.slice V2 ((zU ((zM b).getD [])).rel.length) c2, .slice U2 ((zU ((zM b).getD [])).pre.length) d2], 31⟩ :: (o2 ++ (⟨b1, #[.slice V1 ((zU ((zM a).getD [])).rel.length) c1, .slice U1 ((zU ((zM a).getD [])).pre.length) d1], 31⟩ :: (o1))))))) (List.append_assoc _ _ _).symm (zX 9 (by kernel_rfl) (kK (o4 ++ ([] : List Blk)) _ (k := 17) (args := #[.agg #[.slice V3 ((zU ((zM ((a ++ [124, 124]) ++ b)).getD [])).rel.length) c3, .slice U3 ((zU ((zM ((a ++ [124, 124]) ++ b)).getD [])).pre.length) d3], .agg #[.slice V4 ((orT (zU ((zM a).getD [])) (zU ((zM b).getD []))).rel.length) c4, .slice U4 ((orT (zU ((zM a).getD [])) (zU ((zM b).getD []))).pre.length) d4]]) (.bool true) rfl (by kernel_rfl) (fun _ => by kernel_rfl) (fun w hO => ret_b ((same_g _ _).trans (decide_eq_true (either_ok h3 h4 h5))) (p4 V3 U3 V4 U4 c3 d3 c4 d4 (zU ((zM ((a ++ [124, 124]) ++ b)).getD [])) (orT (zU ((zM a).getD [])) (zU ((zM b).getD []))) w (SetO.inn hr3 hO (fun x hx => by simp [hx]) ((v8 ((zM ((a ++ [124, 124]) ++ b)).getD []))) (by decide)) (SetO.inn hr4 hO (fun x hx => by simp [hx]) (((v8 ((zM a).getD []))).or ((v8 ((zM b).getD [])))) (by decide)))) (ZT 10 (o4 ++ ([] : List Blk)) _ (.bool true) (zF zG) rfl (ZT 11 (o4 ++ ([] : List Blk)) _ (.bool true) (zF zG) rfl (ZK 12 (o4 ++ ([] : List Blk)) _ (zF zG) rfl (ZK 13 (o4 ++ ([] : List Blk)) _ (zF zG) rfl (ZK 14 (o4 ++ ([] : List Blk)) _ (zF zG) rfl (ZK 15 (o4 ++ ([] : List Blk)) _ (zF zG) rfl (ZK 16 (o4 ++ ([] : List Blk)) _ (zF zG) rfl (ZK 17 (o4 ++ ([] : List Blk)) _ (zF zG) rfl (ZK 18 (o4 ++ ([] : List Blk)) _ (zF zG) rfl ?_)))))))))))
        exact ZT 19 (o4 ++ ([] : List Blk)) _ (.bool true) (zF zG) rfl (ZT 20 (o4 ++ ([] : List Blk)) _ (.bool true) (zF zG) rfl (ZT 21 (o4 ++ ([] : List Blk)) _ (.bool true) (zF zG) rfl (h_drop (o4 ++ ([] : List Blk)) (x3 (by kernel_rfl) (zC (zD (ZF (.bool true) Tryz.results10 (fun w hO => ⟨rfl, hO.below⟩))))))))
      refine h_dec 3 [] _ (((yW ((a ++ [124, 124]) ++ b)) : Int) = 0) false rfl (by kernel_rfl) (by kernel_rfl) (by kernel_rfl) (zF zG) (by kernel_rfl) (fun _ => by kernel_rfl) (decide_eq_false (h5)) (ZT 4 [] _ (.bool false) (zF zG) rfl (ZK 5 [] _ (zF zG) rfl (ZK 6 [] _ (zF zG) rfl (ZK 7 [] _ (zF zG) rfl (ZK 8 [] _ (zF zG) rfl (ZK 9 [] _ (zF zG) rfl (ZT 10 [] _ (.bool false) (zF zG) rfl (ZT 11 [] _ (.bool false) (zF zG) rfl (ZT 12 [] _ (.int .i64 (yW ((a ++ [124, 124]) ++ b))) (zF zG) rfl (h_ndec 13 [] _ (((yW ((a ++ [124, 124]) ++ b)) : Int) = 0) false rfl (by kernel_rfl) (by kernel_rfl) (by kernel_rfl) (zF zG) (by kernel_rfl) (fun _ => by kernel_rfl) (decide_eq_false (h5)) (ZT 14 [] _ (.bool true) (zF zG) rfl ?_)))))))))))
      refine ZL 15 [] _ 0 ⟨b3, #[.slice V3 ((zU ((zM ((a ++ [124, 124]) ++ b)).getD [])).rel.length) c3, .slice U3 ((zU ((zM ((a ++ [124, 124]) ++ b)).getD [])).pre.length) d3], 31⟩ (off := 0) (.agg #[.slice V3 ((zU ((zM ((a ++ [124, 124]) ++ b)).getD [])).rel.length) c3, .slice U3 ((zU ((zM ((a ++ [124, 124]) ++ b)).getD [])).pre.length) d3]) (zF zG) rfl rfl (zX 16 (by kernel_rfl) (kK [] _ (k := 34) (args := #[]) (.agg #[.slice none 0 0, .slice none 0 0]) rfl (by kernel_rfl) (fun _ => by kernel_rfl) (fun w _ => t7 w) (zX 17 (by kernel_rfl) (kK [] _ (k := 17) (args := #[.agg #[.slice V3 ((zU ((zM ((a ++ [124, 124]) ++ b)).getD [])).rel.length) c3, .slice U3 ((zU ((zM ((a ++ [124, 124]) ++ b)).getD [])).pre.length) d3], .agg #[.slice none 0 0, .slice none 0 0]]) (.bool true) rfl (by kernel_rfl) (fun _ => by kernel_rfl) (fun w hO => ret_b ((same_g _ _).trans (decide_eq_true (get_err h5))) (p4 V3 U3 none none c3 d3 0 0 (zU ((zM ((a ++ [124, 124]) ++ b)).getD [])) g9 w (SetO.inn hr3 hO (fun x hx => by simp [hx]) ((v8 ((zM ((a ++ [124, 124]) ++ b)).getD []))) (by decide)) (none_in _ _))) (ZT 18 [] _ (.bool true) (zF zG) rfl (ZT 19 [] _ (.bool true) (zF zG) rfl (ZT 20 [] _ (.bool true) (zF zG) rfl (ZT 21 [] _ (.bool true) (zF zG) rfl (x3 (by kernel_rfl) (zC (zD ?_)))))))))))
      exact ZF (.bool true) Tryz.results10 (fun w hO => ⟨rfl, hO.below⟩)
    refine Zn (p := ((yW b) : Int) = 0) false (decide_eq_false (h4)) (Zv (.bool true) (ZY (ZO (Zc (k := 11) (args := #[]) (.bool true) (fun w hO => uZ w (ht.on hO.below)) (Zv (.bool true) (Zv (.int .i64 (yW ((a ++ [124, 124]) ++ b))) ?_))))))
    by_cases h6 : ((yW ((a ++ [124, 124]) ++ b)) : Int) = 6
    · refine yI (p := ((yW ((a ++ [124, 124]) ++ b)) : Int) = 6) true (by kernel_rfl) (fun _ => by kernel_rfl) (decide_eq_true (h6)) ?_
      refine Zv (.bool true) (Zk (Zk (Zv (.bool true) (Zv (.bool true) (Zk (Zk (Zk (Zk (Zk (Zk (Zk ?_)))))))))))
      exact Zk (Zk (Zk (Zv (.bool true) (Zv (.bool true) (Zv (.bool true) (ZN (zD (z6 (ZF (.bool true) Tryz.results10 (fun w hO => ⟨rfl, hO.below⟩))))))))))
    refine Zd (p := ((yW ((a ++ [124, 124]) ++ b)) : Int) = 6) false (decide_eq_false (h6)) (Zv (.bool false) (Zv (.int .i64 (yW ((a ++ [124, 124]) ++ b))) ?_))
    by_cases h7 : ((yW ((a ++ [124, 124]) ++ b)) : Int) = 3
    · refine yI (p := ((yW ((a ++ [124, 124]) ++ b)) : Int) = 3) true (by kernel_rfl) (fun _ => by kernel_rfl) (decide_eq_true (h7)) ?_
      refine Zv (.bool true) (Zv (.bool true) (Zk (Zk (Zk (Zk (Zk (Zk (Zk (Zk (Zk (Zk ?_)))))))))))
      exact Zv (.bool true) (Zv (.bool true) (Zv (.bool true) (ZN (zD (z6 (ZF (.bool true) Tryz.results10 (fun w hO => ⟨rfl, hO.below⟩)))))))
    refine Zd (p := ((yW ((a ++ [124, 124]) ++ b)) : Int) = 3) false (decide_eq_false (h7)) (Zv (.bool false) (Zv (.bool false) (Zv (.int .i64 (yW ((a ++ [124, 124]) ++ b))) ?_)))
    by_cases h8 : ((yW ((a ++ [124, 124]) ++ b)) : Int) = 0
    · refine yI (p := ((yW ((a ++ [124, 124]) ++ b)) : Int) = 0) true (by kernel_rfl) (fun _ => by kernel_rfl) (decide_eq_true (h8)) ?_
      refine Zv (.bool true) (Zv (.string (mkS a)) (Zv (.int .i64 ((mkS a).size)) (Zv (.string (mkS b)) (Zv (.int .i64 ((mkS b).size)) (Zu (k := .i64) ((((mkS a).size) : Int) + ((mkS b).size)) (IntWalk.i64_in _ (by omega)) ?_)))))
      by_cases h9 : (0 : Int) < (((mkS a).size) : Int) + ((mkS b).size)
      · refine yI (p := (0 : Int) < (((mkS a).size) : Int) + ((mkS b).size)) true (by kernel_rfl) (fun _ => by kernel_rfl) (decide_eq_true (h9)) ?_
        exact Zv (.bool true) (Zv (.bool true) (Zv (.bool true) (Zv (.bool true) (ZN (zD (z6 (ZF (.bool true) Tryz.results10 (fun w hO => ⟨rfl, hO.below⟩))))))))
      exact Zd (p := (0 : Int) < (((mkS a).size) : Int) + ((mkS b).size)) false (decide_eq_false (h9)) (Zv (.bool false) (Zv (.bool false) (Zv (.bool false) (Zv (.bool false) (ZN (zD (z6 (ZF (.bool false) Tryz.results10 (fun w hO => by exfalso; have q := fX ((a ++ [124, 124]) ++ b); first | omega | exact nil_err (by assumption) (by assumption))))))))))
    refine Zd (p := ((yW ((a ++ [124, 124]) ++ b)) : Int) = 0) false (decide_eq_false (h8)) (Zv (.bool false) (Zk (Zk (Zk (Zk (Zk (Zk (Zv (.bool false) (Zv (.bool false) (Zv (.bool false) (Zv (.bool false) ?_)))))))))))
    exact ZN (zD (z6 (ZF (.bool false) Tryz.results10 (fun w hO => by exfalso; have q := fX ((a ++ [124, 124]) ++ b); first | omega | exact nil_err (by assumption) (by assumption)))))
  refine Zn (p := ((yW a) : Int) = 0) false (decide_eq_false (h3)) (Zv (.bool true) (Zk (Zk (Zv (.bool true) (ZY (ZO (Zc (k := 11) (args := #[]) (.bool true) (fun w hO => uZ w (ht.on hO.below)) (Zv (.bool true) ?_))))))))
  refine Zv (.int .i64 (yW ((a ++ [124, 124]) ++ b))) ?_
  by_cases h10 : ((yW ((a ++ [124, 124]) ++ b)) : Int) = 6
  · refine yI (p := ((yW ((a ++ [124, 124]) ++ b)) : Int) = 6) true (by kernel_rfl) (fun _ => by kernel_rfl) (decide_eq_true (h10)) ?_
    refine Zv (.bool true) (Zk (Zk (Zv (.bool true) (Zv (.bool true) (Zk (Zk (Zk (Zk (Zk (Zk (Zk ?_)))))))))))
    exact Zk (Zk (Zk (Zv (.bool true) (Zv (.bool true) (Zv (.bool true) (ZN (zD (z6 (ZF (.bool true) Tryz.results10 (fun w hO => ⟨rfl, hO.below⟩))))))))))
  refine Zd (p := ((yW ((a ++ [124, 124]) ++ b)) : Int) = 6) false (decide_eq_false (h10)) (Zv (.bool false) (Zv (.int .i64 (yW ((a ++ [124, 124]) ++ b))) ?_))
  by_cases h11 : ((yW ((a ++ [124, 124]) ++ b)) : Int) = 3
  · refine yI (p := ((yW ((a ++ [124, 124]) ++ b)) : Int) = 3) true (by kernel_rfl) (fun _ => by kernel_rfl) (decide_eq_true (h11)) ?_
    refine Zv (.bool true) (Zv (.bool true) (Zk (Zk (Zk (Zk (Zk (Zk (Zk (Zk (Zk (Zk ?_)))))))))))
    exact Zv (.bool true) (Zv (.bool true) (Zv (.bool true) (ZN (zD (z6 (ZF (.bool true) Tryz.results10 (fun w hO => ⟨rfl, hO.below⟩)))))))
  refine Zd (p := ((yW ((a ++ [124, 124]) ++ b)) : Int) = 3) false (decide_eq_false (h11)) (Zv (.bool false) (Zv (.bool false) (Zv (.int .i64 (yW ((a ++ [124, 124]) ++ b))) ?_)))
  by_cases h12 : ((yW ((a ++ [124, 124]) ++ b)) : Int) = 0
  · refine yI (p := ((yW ((a ++ [124, 124]) ++ b)) : Int) = 0) true (by kernel_rfl) (fun _ => by kernel_rfl) (decide_eq_true (h12)) ?_
    refine Zv (.bool true) (Zv (.string (mkS a)) (Zv (.int .i64 ((mkS a).size)) (Zv (.string (mkS b)) (Zv (.int .i64 ((mkS b).size)) (Zu (k := .i64) ((((mkS a).size) : Int) + ((mkS b).size)) (IntWalk.i64_in _ (by omega)) ?_)))))
    by_cases h13 : (0 : Int) < (((mkS a).size) : Int) + ((mkS b).size)
    · refine yI (p := (0 : Int) < (((mkS a).size) : Int) + ((mkS b).size)) true (by kernel_rfl) (fun _ => by kernel_rfl) (decide_eq_true (h13)) ?_
      exact Zv (.bool true) (Zv (.bool true) (Zv (.bool true) (Zv (.bool true) (ZN (zD (z6 (ZF (.bool true) Tryz.results10 (fun w hO => ⟨rfl, hO.below⟩))))))))
    exact Zd (p := (0 : Int) < (((mkS a).size) : Int) + ((mkS b).size)) false (decide_eq_false (h13)) (Zv (.bool false) (Zv (.bool false) (Zv (.bool false) (Zv (.bool false) (ZN (zD (z6 (ZF (.bool false) Tryz.results10 (fun w hO => by exfalso; have q := fX ((a ++ [124, 124]) ++ b); first | omega | exact nil_err (by assumption) (by assumption))))))))))
  refine Zd (p := ((yW ((a ++ [124, 124]) ++ b)) : Int) = 0) false (decide_eq_false (h12)) (Zv (.bool false) (Zk (Zk (Zk (Zk (Zk (Zk (Zv (.bool false) (Zv (.bool false) (Zv (.bool false) (Zv (.bool false) ?_)))))))))))
  exact ZN (zD (z6 (ZF (.bool false) Tryz.results10 (fun w hO => by exfalso; have q := fX ((a ++ [124, 124]) ++ b); first | omega | exact nil_err (by assumption) (by assumption)))))
end Go.Proofs.YtkljdpiaghepfaaGreatDoor
end

section
/-
  ScopeEither: for every input the call returns true, and each argument reads afterwards as it read before. Conditions: none but the row's own, that the listed package-level variables read as the program's text lays them.
-/
namespace Go.Proofs.YtkljdpiaghepfaaGreatDoor.scopeEither
open Go.ChangeShapes Go.WideShapes Go.ChangeAt Go.RowKit
open Go.ChangeMaps (open_string shut_string)
set_option linter.unusedVariables false

set_option maxRecDepth 100000 in
theorem contract (H : Type) (enc : TypeId × Value → H) (W : World) (base : Nat) (args : Array Value) (ds gs : List (DataW H)) (before : List MemPlace)
    (hval : ∀ (j : Nat) t v, Tryz.f10.params[j]? = some t → args[j]? = some v → Value.okWide Tryz.prog W .any base t v)
    (hW : DataW.Whole enc Tryz.prog Tryz.f10.params.toList Rows.scopeEitherSpec.vars false W args.toList ds gs before) (hL : laidMetH Tryz.prog Rows.scopeEitherRow.laid W) (hS : W.ShapedOpen Tryz.prog) :
    Calls Tryz.prog 10 args W fun e W' => ∃ v, e = .returned v ∧ Rows.scopeEitherSpec.post enc Tryz.prog Tryz.f10 false true false false W args v W' := by
  have ht : HasLib W := hasLib_of (hasTab_of hL (by rfl)) hS
  have hW' := hW
  obtain ⟨p, q, hA0, hV, rfl, hfz, hnd⟩ := hW
  have hA : DataW.TrodAll enc Tryz.prog W 0 (fun _ => true) true Tryz.f10.params.toList args.toList ds p := hA0
  rw [Tryz.params10] at hA hval
  obtain ⟨v0, vs0, d0, ds0, p0, q0, hargs, rfl, rfl, h0, r0⟩ := trodAll_cons hA
  obtain ⟨v1, vs1, d1, ds1, p1, q1, rfl, rfl, rfl, h1, r1⟩ := trodAll_cons r0
  obtain ⟨rfl, rfl, rfl⟩ := trodAll_nil r1
  obtain rfl : args = #[v0, v1] := by cases args; simp_all
  obtain ⟨rfl, rfl⟩ := trodVars_none hV
  obtain ⟨a, rfl, rfl, rfl, w0⟩ := open_string Tryz.underlying9 (hval 0 9 v0 rfl rfl) h0
  obtain ⟨b, rfl, rfl, rfl, w1⟩ := open_string Tryz.underlying9 (hval 1 9 v1 rfl rfl) h1
  clear hA0
  obtain ⟨a_l, rfl⟩ : ∃ l : List UInt8, a = mkS l := ⟨a.data.toList, (mk_self a).symm⟩
  obtain ⟨b_l, rfl⟩ : ∃ l : List UInt8, b = mkS l := ⟨b.data.toList, (mk_self b).symm⟩
  refine (scopeEither.law W a_l b_l ht).mono fun e W' ⟨he, hb⟩ => ?_
  subst he
  exact ⟨_, rfl, law_end laidOut (fun t ht => by rw [Tryz.params10] at ht; simp at ht; subst ht; exact ⟨by kernel_rfl, of_decide_eq_true (by kernel_rfl)⟩) rfl rfl Tryz.underlying4 hW' (by rfl) hb⟩

noncomputable def tH (os : Os) : World :=
  { World.holding Tryz.prog os ⟨#[], #[], []⟩ with heap := layAt (layAt (layAt (layAt (layAt ((World.holding Tryz.prog os ⟨#[], #[], []⟩).heap) 4 Rows.laid_math_bits_deBruijn32tab) 5 Rows.laid_math_bits_deBruijn64tab) 3 Rows.laid_internal_strconv_uint64pow10) 2 Rows.laid_unicode_utf8_acceptRanges) 1 Rows.laid_unicode_utf8_first }
theorem laid_met (os : Os) : laidMet Tryz.prog Rows.scopeEitherRow.laid ((tH os).forCall (fun _ _ => 0) ⟨#[], #[.string ⟨#[]⟩, .string ⟨#[]⟩], []⟩).memory :=
  laidMet_of_run' 8 (by kernel_rfl) (by kernel_rfl)
theorem reads (os : Os) {H : Type} (enc : TypeId × Value → H) : ∃ places, DataW.whole enc Tryz.prog ((tH os).forCall (fun _ _ => 0) ⟨#[], #[.string ⟨#[]⟩, .string ⟨#[]⟩], []⟩).memory Tryz.f10.params.toList Rows.scopeEitherSpec.vars false (#[.string ⟨#[]⟩, .string ⟨#[]⟩] : Array Value).toList 8 = some ([.lit (.string []), .lit (.string [])], [], places) :=
  ⟨[], by kernel_rfl⟩

set_option maxRecDepth 100000 in
theorem lifted (os : Os) (started : os.Started) (H : Type) (enc : TypeId × Value → H) (F : Stop.Interp) :
    ReturnsInHanded {} Tryz.checked os 10 .any ((OpenSpec.ofChange Rows.scopeEitherSpec).preRow enc Tryz.prog Tryz.f10 Rows.scopeEitherRow.domain false Rows.scopeEitherRow.laid) (((OpenSpec.ofChange Rows.scopeEitherSpec).at F).post enc Tryz.prog Tryz.f10 false true false false) := by
  obtain ⟨places, hx⟩ := reads os enc
  refine returnsInHanded_of_row (C := Tryz.checked) (s := OpenSpec.ofChange Rows.scopeEitherSpec) own started (by kernel_rfl) Tryz.func10
    (witness_row_at (enc := enc) (C := Tryz.checked) false (tH os) #[.string ⟨#[]⟩, .string ⟨#[]⟩] rfl (by kernel_rfl) (by kernel_rfl) (by kernel_rfl)
      (OpenSpec.preRow_of_cond 8 hx (by kernel_rfl) (fun k hk => by cases hk) (by kernel_rfl) (laid_met os))) ?_
  intro W base args ds gs before hval hW _ _ _ hL hS _
  exact contract H enc W base args ds gs before hval hW hL hS

theorem said : Rows.ScopeEitherSaid :=
  OpenClaim.holds_of_cond 10 Tryz.f10 rfl rfl rfl rfl rfl rfl rfl ⟨rfl, rfl, rfl, rfl, rfl⟩ rfl rfl rfl rfl rfl (by kernel_rfl) Tryz.func10 (by kernel_rfl)
    (of_decide_eq_true (by kernel_rfl)) (by unfold Func.isWrapper; first | (rw [if_pos (by decide +kernel)]; kernel_rfl) | (rw [if_neg (by decide +kernel)]; exact ⟨rfl, rfl⟩))
    (fun os started H enc _ F => by rw [OpenClaim.pre_eq_preRow]; exact lifted os started H enc F)

theorem plain (f : FuncId) (fn : Func) (hf : Tryz.pinned.checked.prog.funcNamed "linchpin/linchpinlaw7.ScopeEither" = some f) (hfn : Tryz.pinned.checked.prog.funcs[f]? = some fn) :
    false = Tryz.pinned.checked.prog.looks [] ∧ ∀ (j : Nat) t, fn.params[j]? = some t → Tryz.pinned.checked.prog.wantsStandIn t = false := by
  obtain rfl : f = 10 := Option.some.inj ((show Tryz.prog.funcNamed "linchpin/linchpinlaw7.ScopeEither" = some 10 by kernel_rfl).symm.trans hf) |>.symm
  obtain rfl : fn = Tryz.f10 := (Option.some.inj (Tryz.func10.symm.trans hfn)).symm
  refine ⟨by kernel_rfl, fun j t ht => ?_⟩
  rw [Tryz.params10] at ht
  have hm := Array.mem_of_getElem? ht
  simp at hm
  subst hm
  exact (show Tryz.prog.wantsStandIn 9 = false by kernel_rfl)

theorem card : Rows.ScopeEitherCardSaid :=
  Claim7.holds_tied_plain_at .later [] _ _ _ _ said (fun _ h => by cases h) (by kernel_rfl) (fun _ h => by cases h) scopeEither_row_tie rfl ⟨rfl, rfl⟩ (by kernel_rfl) rfl plain (by kernel_rfl)

#print axioms card
end Go.Proofs.YtkljdpiaghepfaaGreatDoor.scopeEither
end
