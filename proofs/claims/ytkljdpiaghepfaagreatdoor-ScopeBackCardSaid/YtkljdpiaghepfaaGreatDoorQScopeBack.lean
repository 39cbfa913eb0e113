/-
  ScopeBack: for every input the call returns true, and each argument reads afterwards as it read before. Conditions: none but the row's own, that the listed package-level variables read as the program's text lays them.
-/
import Derived.Test.YtkljdpiaghepfaaGreatDoorCards
import Derived.Test.YtkljdpiaghepfaaGreatDoorTie
import Derived.Test.YtkljdpiaghepfaaGreatDoorMB7

section
/-
  ScopeBack: for any list of numbers the law returns true, and nothing that was there is changed. Condition: the library's table of powers of ten reads as it is laid.
-/
namespace Go.Proofs.YtkljdpiaghepfaaGreatDoor
open Go.RowKit
set_option maxRecDepth 100000
set_option linter.unusedVariables false
set_option linter.unusedSimpArgs false
set_option maxHeartbeats 2000000

theorem drop_one {s : List UInt8} {k : Nat} (hk : k < s.length) {b : UInt8} (hb : s[k] = b) : (s.drop k).take (k + 1 - k) = [b] := by
  rw [List.drop_eq_getElem_cons hk, hb, show k + 1 - k = 1 by omega]; rfl
theorem drop_head {s : List UInt8} {k : Nat} (hk : k < s.length) {b : UInt8} (hb : s[k] = b) : (s.drop k).head? = some b := by
  rw [List.drop_eq_getElem_cons hk, hb]; rfl
theorem wide_acc {acc t s : List UInt8} (h : acc ++ t = xE s) (hs : s.length ≤ 96) : acc.length ≤ 384 := by
  have q := congrArg List.length h
  rw [List.length_append] at q
  have := wideG_len s
  omega
theorem wide_end {acc s : List UInt8} {k : Nat} (h : acc ++ xE (s.drop k) = xE s) (hk : s.length ≤ k) : acc = xE s := by
  rw [List.drop_of_length_le hk] at h
  rw [← h]; exact (List.append_nil _).symm
theorem wide_same {acc : List UInt8} {r : List (List Co)} (h : (96 < acc.length ∧ kK acc = 3) ∨ (kK acc = 0 ∧ x2 acc = some r)) (h0 : kK acc = 0) : r = (x2 acc).getD [] := by
  rcases h with ⟨_, h⟩ | ⟨_, h⟩
  · rw [h] at h0; cases h0
  · rw [h]; rfl
theorem pU {s acc : List UInt8} {k : Nat} (hk : k < s.length) {b : UInt8} (hb : s[k] = b) (h : acc ++ xE (s.drop k) = xE s) (h1 : (b.toNat : Int) = 44) : (((acc ++ [32]) ++ (s.drop k).take (k + 1 - k)) ++ [32, 32]) ++ xE (s.drop (k + 1)) = xE s := by
  have e : b = 44 := (dY (c := b) (n := 44) (by decide)).1 h1
  rw [nG hk hb, if_pos e, if_pos (.inl e)] at h
  rw [drop_one hk hb, ← h]
  simp only [List.append_assoc, List.cons_append, List.nil_append]
theorem fG {s acc : List UInt8} {k : Nat} (hk : k < s.length) {b d : UInt8} (hb : s[k] = b) (h : acc ++ xE (s.drop k) = xE s) (h1 : ¬ (b.toNat : Int) = 44) (h2 : (b.toNat : Int) = 124) (h3 : k + 1 < s.length) (hd : s[k + 1] = d) (h4 : ¬ (d.toNat : Int) = 124) : ((acc ++ (s.drop k).take (k + 1 - k)) ++ [32, 32]) ++ xE (s.drop (k + 1)) = xE s := by
  have e : b = 124 := (dY (c := b) (n := 124) (by decide)).1 h2
  have n1 : ¬ b = 44 := fun q => h1 ((dY (c := b) (n := 44) (by decide)).2 q)
  have n4 : ¬ d = 124 := fun q => h4 ((dY (c := d) (n := 124) (by decide)).2 q)
  rw [nG hk hb, if_neg n1, if_pos (.inr ⟨e, by rw [List.drop_eq_getElem_cons h3]; exact List.cons_ne_nil _ _, by rw [drop_head h3 hd]; simpa using n4⟩)] at h
  rw [drop_one hk hb, ← h]
  simp only [List.append_assoc, List.cons_append, List.nil_append]
theorem q7 {s acc : List UInt8} {k : Nat} (hk : k < s.length) {b : UInt8} (hb : s[k] = b) (h : acc ++ xE (s.drop k) = xE s) (h1 : ¬ (b.toNat : Int) = 44) (h2 : ¬ (b = 124 ∧ s.drop (k + 1) ≠ [] ∧ ¬ (s.drop (k + 1)).head? = some 124)) : (acc ++ (s.drop k).take (k + 1 - k)) ++ xE (s.drop (k + 1)) = xE s := by
  have n1 : ¬ b = 44 := fun q => h1 ((dY (c := b) (n := 44) (by decide)).2 q)
  rw [nG hk hb, if_neg n1, if_neg (fun q => q.elim n1 h2)] at h
  rw [drop_one hk hb, ← h]
  simp only [List.append_assoc, List.cons_append, List.nil_append]
theorem pT {s : List UInt8} {k : Nat} {b : UInt8} (h : ¬ (b.toNat : Int) = 124) : ¬ (b = 124 ∧ s.drop (k + 1) ≠ [] ∧ ¬ (s.drop (k + 1)).head? = some 124) := fun q => h ((dY (c := b) (n := 124) (by decide)).2 q.1)
theorem pS {s : List UInt8} {k : Nat} {b : UInt8} (h : s.length ≤ k + 1) : ¬ (b = 124 ∧ s.drop (k + 1) ≠ [] ∧ ¬ (s.drop (k + 1)).head? = some 124) := fun q => q.2.1 (List.drop_of_length_le h)
theorem pR {s : List UInt8} {k : Nat} {b d : UInt8} (h3 : k + 1 < s.length) (hd : s[k + 1] = d) (h : (d.toNat : Int) = 124) : ¬ (b = 124 ∧ s.drop (k + 1) ≠ [] ∧ ¬ (s.drop (k + 1)).head? = some 124) := fun q => q.2.2 (by rw [drop_head h3 hd, (dY (c := d) (n := 124) (by decide)).1 h]; rfl)
set_option maxHeartbeats 1000000 in
theorem scopeBack.law (W : World) (x : Value) (xl : List Int) (hxl0 : ReadsI W W.heap.size x xl) (lxl : xl.length ≤ maxLen) (ht : HasLib W) :
    Calls Tryz.prog 5 #[x] W fun e w' => e = .returned (.bool true) ∧ Below W.heap.size W w' := by
  obtain ⟨r, er⟩ : ∃ q, q = genRg xl 0 := ⟨_, rfl⟩
  have mr : rgMay r = true := er ▸ genRg_may xl 0
  obtain ⟨s, es⟩ : ∃ q, q = jT r := ⟨_, rfl⟩
  have hs1 : s = yZ r := by rw [es]; unfold jT; rw [if_pos mr]
  have hps : jT r = s := es.symm
  have hs96 : s.length ≤ 96 := by rw [hs1]; exact (rgMay.facts mr).2
  have hpg : x2 s = some r := by rw [hs1]; exact parse_text mr
  have hpd : (x2 s).getD [] = r := by rw [hpg]; rfl
  have hsz := xA s
  refine zQ (n := 98) Tryz.func5 rfl (by kernel_rfl) (by kernel_rfl) (ZO (Zv (.bool false) (ZR (Zv (x) (yH (k := 25) (args := #[x, .int .i64 0]) (fun v' L' => ∃ ob', L' = ob' ++ ([]) ∧ RgO v' r ob') (by kernel_rfl) (fun _ => by kernel_rfl) (fun w hO => (genRg_any x xl 0 w ((hxl0.below hO.below).more hO.below.size) (by unfold maxLen at lxl; omega) (by omega)).mono fun e w' ⟨v', ob', k1, k2, k3⟩ => ⟨v', _, k1, ⟨ob', rfl, by rw [← er] at k2; exact k2⟩, Own.joinN hO k3⟩) (fun sv1 L1 hv1 => ?_))))))
  obtain ⟨o1, rfl, hr1⟩ := hv1
  obtain ⟨xs1, u1, p1, q1, rfl, rfl, hx1, ha1⟩ := hr1
  obtain ⟨A1, c1, rfl⟩ := Sl.form ha1.top
  refine k8 (L' := p1 ++ q1) (List.append_nil _) (Za (.agg #[.slice none 0 0]) (fun b1 => Zs 0 ⟨b1, #[.slice none 0 0], 25⟩ (off := 0) (.agg #[.slice A1 xs1.length c1]) (ZR (Zl 0 ⟨b1, #[.slice A1 xs1.length c1], 25⟩ (off := 0) (.agg #[.slice A1 xs1.length c1]) (Zc (k := 21) (args := #[.agg #[.slice A1 xs1.length c1]]) (.string (mkS s)) (fun w hO => wX (by rw [hx1, hps]) (pE A1 c1 xs1 w (RgA.inn ha1 rfl hO (fun x hx => by simp [hx]) (fun x hx => by simp [hx]) (by rw [hx1]; exact jE (rgMay.facts mr).1)) (ht.on hO.below))) (Zv (.string (mkS s)) (zN (zC ?_))))))))
  refine ZO (Zv (.string (mkS s)) (yH (k := 12) (args := #[.string (mkS s)]) (fun v' L' => ∃ sv ob', v' = .tuple #[sv, .int .i64 0] ∧ L' = ob' ++ (⟨b1, #[.slice A1 xs1.length c1], 25⟩ :: ((p1 ++ q1))) ∧ RgO sv (r) ob') (by kernel_rfl) (fun _ => by kernel_rfl) (fun w hO => (wE s w (by omega) (ht.on hO.below)).mono fun e w' ⟨v', ob', k1, k2, k3⟩ => ⟨.tuple #[v', .int .i64 0], _, k1.trans (by rw [show kK s = 0 from (wF hpg).1]), ⟨v', ob', rfl, rfl, by rw [show (x2 s).getD [] = r from hpd] at k2; exact k2⟩, Own.joinN hO k3⟩) (fun tv L2 hv2 => ?_)))
  obtain ⟨sv2, o2, rfl, rfl, hr2⟩ := hv2
  obtain ⟨xs2, u2, p2, q2, rfl, rfl, hx2, ha2⟩ := hr2
  obtain ⟨A2, c2, rfl⟩ := Sl.form ha2.top
  refine Zv (.tuple #[.agg #[.slice A2 xs2.length c2], .int .i64 0]) (Zv (.agg #[.slice A2 xs2.length c2]) (Zv (.int .i64 0) (Za (.agg #[.slice none 0 0]) (fun b2 => Zs 0 ⟨b2, #[.slice none 0 0], 25⟩ (off := 0) (.agg #[.slice A2 xs2.length c2]) (Zv (.int .i64 0) (ZR (Zv (.string ⟨#[]⟩) (zN ?_))))))))
  refine zC (z6 (ZO (Zv (.int .i64 0) (ZN (zI (yT (fun L f m => ∃ (k : Nat) (acc : List UInt8) (j : Nat → Value), (k ≤ s.length ∧ acc ++ xE (s.drop k) = xE s) ∧ L = ⟨b2, #[.slice A2 xs2.length c2], 25⟩ :: ((p2 ++ q2) ++ (⟨b1, #[.slice A1 xs1.length c1], 25⟩ :: ((p1 ++ q1)))) ∧ f = kE j [(3, .pointer (some ⟨b1, 0, none⟩)), (4, .string (mkS s)), (5, .pointer (some ⟨b2, 0, none⟩)), (6, .int .i64 0), (7, .string (mkS acc)), (8, .int .i64 (k : Int))] ∧ m = s.length - k) (s.length - 0) ⟨0, [], _, ⟨Nat.zero_le _, rfl⟩, rfl, ZU, rfl⟩ ?_))))))
  rintro L f m ⟨k, acc, j, hrel, rfl, rfl, rfl⟩
  have hkl := hrel.1; have hal := wide_acc hrel.2 hs96
  refine z6 (ZO (Zv (.int .i64 (k : Int)) (Zv (.string (mkS s)) (Zv (.int .i64 ((mkS s).size)) ?_))))
  by_cases h1 : (k : Int) < (mkS s).size
  · have hk : k < s.length := by omega
    obtain ⟨b, hb⟩ : ∃ b, s[k] = b := ⟨_, rfl⟩
    refine Zd (p := (k : Int) < (mkS s).size) true (decide_eq_true (h1)) (ZY (ZB (z6 (zI (z6 (ZO (Zv (.string (mkS s)) ?_)))))))
    refine Zv (.int .i64 (k : Int)) (zT (.int .u8 (b.toNat : Int)) (by kernel_rfl) (fun w => by rw [← hb]; exact uY (s := s) (k := .i64) (j := (k : Int)) rfl (by kernel_rfl) (by kernel_rfl) Tryz.underlying9 (by omega) (by omega) w) ?_)
    by_cases h2 : (b.toNat : Int) = 44
    · refine zV (p := (b.toNat : Int) = 44) true (by kernel_rfl) (fun _ => by kernel_rfl) (decide_eq_true (h2)) ?_
      refine ZY (z7 (Zv (.string (mkS acc)) (zT (.string (mkS (acc ++ [32]))) (by kernel_rfl) (yG (a := acc) (b := [32]) rfl (by kernel_rfl) (by kernel_rfl) (by simp only [List.length_append, List.length_cons, List.length_nil, List.length_take, List.length_drop]; omega)) (Zv (.string (mkS (acc ++ [32]))) (ZR (Zv (.string (mkS (acc ++ [32]))) ?_))))))
      refine Zv (.string (mkS s)) (Zv (.int .i64 (k : Int)) (Zv (.int .i64 (k : Int)) (Zu (k := .i64) (((k + 1 : Nat) : Int)) (IntWalk.i64_in _ (by omega)) (zT (.string (mkS ((s.drop k).take (k + 1 - k)))) (by kernel_rfl) (run_strmid (s := s) (k := .i64) (q := .i64) (i := (k : Int)) (j := ((k + 1 : Nat) : Int)) rfl (by kernel_rfl) (by kernel_rfl) (by kernel_rfl) Tryz.underlying9 (by omega) (by omega) (by omega)) (zT (.string (mkS ((acc ++ [32]) ++ ((s.drop k).take (k + 1 - k))))) (by kernel_rfl) (yG (a := (acc ++ [32])) (b := ((s.drop k).take (k + 1 - k))) rfl (by kernel_rfl) (by kernel_rfl) (by simp only [List.length_append, List.length_cons, List.length_nil, List.length_take, List.length_drop]; omega)) (Zv (.string (mkS ((acc ++ [32]) ++ ((s.drop k).take (k + 1 - k))))) (ZR (Zv (.string (mkS s)) ?_))))))))
      refine Zv (.int .i64 (k : Int)) (zT (.int .u8 (b.toNat : Int)) (by kernel_rfl) (fun w => by rw [← hb]; exact uY (s := s) (k := .i64) (j := (k : Int)) rfl (by kernel_rfl) (by kernel_rfl) Tryz.underlying9 (by omega) (by omega) w) (Zd (p := (b.toNat : Int) = 44) true (decide_eq_true (h2)) (Zv (.bool true) (Zk (Zk (Zk (Zk (Zk (Zk (Zk (Zk ?_)))))))))))
      refine Zk (Zk (Zk (Zk (Zk (Zk (Zk (Zk (Zk (Zk (Zv (.bool true) (zN ?_)))))))))))
      refine zC (Zt (z7 (Zv (.string (mkS ((acc ++ [32]) ++ ((s.drop k).take (k + 1 - k))))) (zT (.string (mkS (((acc ++ [32]) ++ ((s.drop k).take (k + 1 - k))) ++ [32, 32]))) (by kernel_rfl) (yG (a := ((acc ++ [32]) ++ ((s.drop k).take (k + 1 - k)))) (b := [32, 32]) rfl (by kernel_rfl) (by kernel_rfl) (by simp only [List.length_append, List.length_cons, List.length_nil, List.length_take, List.length_drop]; omega)) (Zv (.string (mkS (((acc ++ [32]) ++ ((s.drop k).take (k + 1 - k))) ++ [32, 32]))) (zN (zR (zC (z7 (Zv (.int .i64 (k : Int)) (Zu (k := .i64) (((k + 1 : Nat) : Int)) (IntWalk.i64_in _ (by omega)) ?_)))))))))))
      exact Zv (.int .i64 ((k + 1 : Nat) : Int)) (zN (zU (m' := s.length - (k + 1)) (by omega) ⟨k + 1, (((acc ++ [32]) ++ ((s.drop k).take (k + 1 - k))) ++ [32, 32]), _, ⟨by omega, by first | exact pU hk hb hrel.2 (by omega) | exact fG hk hb hrel.2 (by omega) (by omega) hk1 hd (by omega) | exact q7 hk hb hrel.2 (by omega) (pT (by omega)) | exact q7 hk hb hrel.2 (by omega) (pS (by omega)) | exact q7 hk hb hrel.2 (by omega) (pR hk1 hd (by omega))⟩, rfl, ZU, rfl⟩))
    refine Zd (p := (b.toNat : Int) = 44) false (decide_eq_false (h2)) (ZX (ZB (ZO (Zv (.string (mkS acc)) (Zv (.string (mkS s)) (Zv (.int .i64 (k : Int)) (Zv (.int .i64 (k : Int)) ?_)))))))
    refine Zu (k := .i64) (((k + 1 : Nat) : Int)) (IntWalk.i64_in _ (by omega)) (zT (.string (mkS ((s.drop k).take (k + 1 - k)))) (by kernel_rfl) (run_strmid (s := s) (k := .i64) (q := .i64) (i := (k : Int)) (j := ((k + 1 : Nat) : Int)) rfl (by kernel_rfl) (by kernel_rfl) (by kernel_rfl) Tryz.underlying9 (by omega) (by omega) (by omega)) (zT (.string (mkS (acc ++ ((s.drop k).take (k + 1 - k))))) (by kernel_rfl) (yG (a := acc) (b := ((s.drop k).take (k + 1 - k))) rfl (by kernel_rfl) (by kernel_rfl) (by simp only [List.length_append, List.length_cons, List.length_nil, List.length_take, List.length_drop]; omega)) (Zv (.string (mkS (acc ++ ((s.drop k).take (k + 1 - k))))) (ZR (Zv (.string (mkS s)) (Zv (.int .i64 (k : Int)) (zT (.int .u8 (b.toNat : Int)) (by kernel_rfl) (fun w => by rw [← hb]; exact uY (s := s) (k := .i64) (j := (k : Int)) rfl (by kernel_rfl) (by kernel_rfl) Tryz.underlying9 (by omega) (by omega) w) (Zd (p := (b.toNat : Int) = 44) false (decide_eq_false (h2)) ?_))))))))
    refine Zv (.bool false) (Zv (.string (mkS s)) (Zv (.int .i64 (k : Int)) (zT (.int .u8 (b.toNat : Int)) (by kernel_rfl) (fun w => by rw [← hb]; exact uY (s := s) (k := .i64) (j := (k : Int)) rfl (by kernel_rfl) (by kernel_rfl) Tryz.underlying9 (by omega) (by omega) w) ?_)))
    by_cases h3 : (b.toNat : Int) = 124
    · refine zV (p := (b.toNat : Int) = 124) true (by kernel_rfl) (fun _ => by kernel_rfl) (decide_eq_true (h3)) ?_
      refine Zv (.bool true) (Zv (.int .i64 (k : Int)) (Zu (k := .i64) (((k + 1 : Nat) : Int)) (IntWalk.i64_in _ (by omega)) (Zv (.string (mkS s)) (Zv (.int .i64 ((mkS s).size)) ?_))))
      by_cases h4 : ((k + 1 : Nat) : Int) < (mkS s).size
      · have hk1 : k + 1 < s.length := by omega
        obtain ⟨dd, hd⟩ : ∃ b, s[k + 1] = b := ⟨_, rfl⟩
        refine Zd (p := ((k + 1 : Nat) : Int) < (mkS s).size) true (decide_eq_true (h4)) (Zv (.bool true) (Zv (.bool true) (Zv (.string (mkS s)) (Zv (.int .i64 (k : Int)) (Zu (k := .i64) (((k + 1 : Nat) : Int)) (IntWalk.i64_in _ (by omega)) (zT (.int .u8 (dd.toNat : Int)) (by kernel_rfl) (fun w => by rw [← hd]; exact uY (s := s) (k := .i64) (j := ((k + 1 : Nat) : Int)) rfl (by kernel_rfl) (by kernel_rfl) Tryz.underlying9 (by omega) (by omega) w) ?_))))))
        by_cases h5 : (dd.toNat : Int) = 124
        · refine vL (p := (dd.toNat : Int) = 124) true (by kernel_rfl) (fun _ => by kernel_rfl) (decide_eq_true (h5)) ?_
          refine Zv (.bool false) (Zv (.bool false) (ZX (x4 (zR (zC (z7 (Zv (.int .i64 (k : Int)) (Zu (k := .i64) (((k + 1 : Nat) : Int)) (IntWalk.i64_in _ (by omega)) (Zv (.int .i64 ((k + 1 : Nat) : Int)) ?_)))))))))
          exact zN (zU (m' := s.length - (k + 1)) (by omega) ⟨k + 1, (acc ++ ((s.drop k).take (k + 1 - k))), _, ⟨by omega, by first | exact pU hk hb hrel.2 (by omega) | exact fG hk hb hrel.2 (by omega) (by omega) hk1 hd (by omega) | exact q7 hk hb hrel.2 (by omega) (pT (by omega)) | exact q7 hk hb hrel.2 (by omega) (pS (by omega)) | exact q7 hk hb hrel.2 (by omega) (pR hk1 hd (by omega))⟩, rfl, ZU, rfl⟩)
        refine Zn (p := (dd.toNat : Int) = 124) false (decide_eq_false (h5)) (Zv (.bool true) (Zv (.bool true) (ZY (z7 (Zv (.string (mkS (acc ++ ((s.drop k).take (k + 1 - k))))) (zT (.string (mkS ((acc ++ ((s.drop k).take (k + 1 - k))) ++ [32, 32]))) (by kernel_rfl) (yG (a := (acc ++ ((s.drop k).take (k + 1 - k)))) (b := [32, 32]) rfl (by kernel_rfl) (by kernel_rfl) (by simp only [List.length_append, List.length_cons, List.length_nil, List.length_take, List.length_drop]; omega)) (Zv (.string (mkS ((acc ++ ((s.drop k).take (k + 1 - k))) ++ [32, 32]))) (zN (zR ?_)))))))))
        exact zC (z7 (Zv (.int .i64 (k : Int)) (Zu (k := .i64) (((k + 1 : Nat) : Int)) (IntWalk.i64_in _ (by omega)) (Zv (.int .i64 ((k + 1 : Nat) : Int)) (zN (zU (m' := s.length - (k + 1)) (by omega) ⟨k + 1, ((acc ++ ((s.drop k).take (k + 1 - k))) ++ [32, 32]), _, ⟨by omega, by first | exact pU hk hb hrel.2 (by omega) | exact fG hk hb hrel.2 (by omega) (by omega) hk1 hd (by omega) | exact q7 hk hb hrel.2 (by omega) (pT (by omega)) | exact q7 hk hb hrel.2 (by omega) (pS (by omega)) | exact q7 hk hb hrel.2 (by omega) (pR hk1 hd (by omega))⟩, rfl, ZU, rfl⟩))))))
      refine Zd (p := ((k + 1 : Nat) : Int) < (mkS s).size) false (decide_eq_false (h4)) (Zv (.bool false) (Zv (.bool false) (Zk (Zk (Zk (Zk (Zk (Zv (.bool false) (Zv (.bool false) (zN (zC ?_)))))))))))
      exact Zf (x4 (zR (zC (z7 (Zv (.int .i64 (k : Int)) (Zu (k := .i64) (((k + 1 : Nat) : Int)) (IntWalk.i64_in _ (by omega)) (Zv (.int .i64 ((k + 1 : Nat) : Int)) (zN (zU (m' := s.length - (k + 1)) (by omega) ⟨k + 1, (acc ++ ((s.drop k).take (k + 1 - k))), _, ⟨by omega, by first | exact pU hk hb hrel.2 (by omega) | exact fG hk hb hrel.2 (by omega) (by omega) hk1 hd (by omega) | exact q7 hk hb hrel.2 (by omega) (pT (by omega)) | exact q7 hk hb hrel.2 (by omega) (pS (by omega)) | exact q7 hk hb hrel.2 (by omega) (pR hk1 hd (by omega))⟩, rfl, ZU, rfl⟩)))))))))
    refine Zd (p := (b.toNat : Int) = 124) false (decide_eq_false (h3)) (Zv (.bool false) (Zk (Zk (Zk (Zk (Zk (Zv (.bool false) (Zv (.bool false) (Zk (Zk (Zk ?_)))))))))))
    refine Zk (Zk (Zv (.bool false) (Zv (.bool false) (ZX (x4 (zR (zC (z7 (Zv (.int .i64 (k : Int)) ?_)))))))))
    exact Zu (k := .i64) (((k + 1 : Nat) : Int)) (IntWalk.i64_in _ (by omega)) (Zv (.int .i64 ((k + 1 : Nat) : Int)) (zN (zU (m' := s.length - (k + 1)) (by omega) ⟨k + 1, (acc ++ ((s.drop k).take (k + 1 - k))), _, ⟨by omega, by first | exact pU hk hb hrel.2 (by omega) | exact fG hk hb hrel.2 (by omega) (by omega) hk1 hd (by omega) | exact q7 hk hb hrel.2 (by omega) (pT (by omega)) | exact q7 hk hb hrel.2 (by omega) (pS (by omega)) | exact q7 hk hb hrel.2 (by omega) (pR hk1 hd (by omega))⟩, rfl, ZU, rfl⟩)))
  have hka : acc = xE s := wide_end hrel.2 (by omega)
  have hW : (96 < acc.length ∧ kK acc = 3) ∨ (kK acc = 0 ∧ x2 acc = some r) := by rw [hka, hs1]; exact wide_spelt mr (wide_may mr)
  have hza := xA acc
  refine Zd (p := (k : Int) < (mkS s).size) false (decide_eq_false (h1)) (ZX (y5 (zB (zM (zH (zC (ZO (Zv (.string (mkS acc)) ?_))))))))
  refine yH (k := 12) (args := #[.string (mkS acc)]) (fun v' L' => ∃ sv ob', v' = .tuple #[sv, .int .i64 (kK acc)] ∧ L' = ob' ++ (⟨b2, #[.slice A2 xs2.length c2], 25⟩ :: ((p2 ++ q2) ++ (⟨b1, #[.slice A1 xs1.length c1], 25⟩ :: ((p1 ++ q1))))) ∧ RgO sv ((x2 acc).getD []) ob') (by kernel_rfl) (fun _ => by kernel_rfl) (fun w hO => (wE acc w (by omega) (ht.on hO.below)).mono fun e w' ⟨v', ob', k1, k2, k3⟩ => ⟨.tuple #[v', .int .i64 (kK acc)], _, k1.trans (by rw [show kK acc = (kK acc) from rfl]), ⟨v', ob', rfl, rfl, by rw [show (x2 acc).getD [] = (x2 acc).getD [] from rfl] at k2; exact k2⟩, Own.joinN hO k3⟩) (fun tv L3 hv3 => ?_)
  obtain ⟨sv3, o3, rfl, rfl, hr3⟩ := hv3
  obtain ⟨xs3, u3, p3, q3, rfl, rfl, hx3, ha3⟩ := hr3
  obtain ⟨A3, c3, rfl⟩ := Sl.form ha3.top
  refine Zv (.tuple #[.agg #[.slice A3 xs3.length c3], .int .i64 (kK acc)]) (Zv (.agg #[.slice A3 xs3.length c3]) (Zv (.int .i64 (kK acc)) (Za (.agg #[.slice none 0 0]) (fun b3 => Zs 0 ⟨b3, #[.slice none 0 0], 25⟩ (off := 0) (.agg #[.slice A3 xs3.length c3]) (Zv (.int .i64 (kK acc)) (ZR (Zc (k := 11) (args := #[]) (.bool true) (fun w hO => awake7_any w (ht.on hO.below)) (Zv (.bool true) ?_))))))))
  refine Zv (.int .i64 0) (Zv (.bool true) (Zv (.bool true) (Zv (.bool true) (uK ⟨b1, #[.slice A1 xs1.length c1], 25⟩ (off := 0) (.agg #[.slice A1 xs1.length c1]) (by kernel_rfl) rfl (by simp) (by kernel_rfl) (by kernel_rfl) (uK ⟨b2, #[.slice A2 xs2.length c2], 25⟩ (off := 0) (.agg #[.slice A2 xs2.length c2]) (by kernel_rfl) rfl (by simp) (by kernel_rfl) (by kernel_rfl) (Zc (k := 16) (args := #[.agg #[.slice A1 xs1.length c1], .agg #[.slice A2 xs2.length c2]]) (.bool true) (fun w hO => ret_b (decide_eq_true (hx1.trans hx2.symm)) (same7_any A1 A2 c1 c2 xs1 xs2 w (RgA.inn ha1 rfl hO (fun x hx => by simp [hx]) (fun x hx => by simp [hx]) (by rw [hx1]; exact jE (rgMay.facts mr).1)) (RgA.inn ha2 rfl hO (fun x hx => by simp [hx]) (fun x hx => by simp [hx]) (by rw [hx2]; exact (hpd ▸ tO s))))) (Zv (.bool true) (Zv (.bool true) (Zv (.string (mkS acc)) (Zv (.int .i64 ((mkS acc).size)) ?_))))))))))
  by_cases h6 : (96 : Int) < (mkS acc).size
  · refine zV (p := (96 : Int) < (mkS acc).size) true (by kernel_rfl) (fun _ => by kernel_rfl) (decide_eq_true (h6)) ?_
    refine Zv (.bool true) (Zv (.int .i64 (kK acc)) ?_)
    by_cases h7 : ((kK acc) : Int) = 3
    · refine zV (p := ((kK acc) : Int) = 3) true (by kernel_rfl) (fun _ => by kernel_rfl) (decide_eq_true (h7)) ?_
      refine Zv (.bool true) (Zv (.bool true) (Zk (Zk (Zk (Zk (Zk (Zk (Zk (Zv (.bool true) (Zv (.bool true) (Zv (.bool true) ?_)))))))))))
      exact ZN (zA (ZF (.bool true) Tryz.results5 (fun w hO => ⟨rfl, hO.below⟩)))
    refine Zd (p := ((kK acc) : Int) = 3) false (decide_eq_false (h7)) (Zv (.bool false) (Zv (.bool false) (Zv (.int .i64 (kK acc)) ?_)))
    by_cases h8 : ((kK acc) : Int) = 0
    · refine zV (p := ((kK acc) : Int) = 0) true (by kernel_rfl) (fun _ => by kernel_rfl) (decide_eq_true (h8)) ?_
      refine Zv (.bool true) (uK ⟨b1, #[.slice A1 xs1.length c1], 25⟩ (off := 0) (.agg #[.slice A1 xs1.length c1]) (by kernel_rfl) rfl (by simp) (by kernel_rfl) (by kernel_rfl) (Zl 0 ⟨b3, #[.slice A3 xs3.length c3], 25⟩ (off := 0) (.agg #[.slice A3 xs3.length c3]) (Zc (k := 16) (args := #[.agg #[.slice A1 xs1.length c1], .agg #[.slice A3 xs3.length c3]]) (.bool true) (fun w hO => ret_b (decide_eq_true ((hx1).trans (Eq.trans (wide_same hW (by omega)) (hx3).symm))) (same7_any A1 A3 c1 c3 xs1 xs3 w (RgA.inn ha1 rfl hO (fun x hx => by simp [hx]) (fun x hx => by simp [hx]) (by rw [hx1]; exact jE (rgMay.facts mr).1)) (RgA.inn ha3 rfl hO (fun x hx => by simp [hx]) (fun x hx => by simp [hx]) (by rw [hx3]; exact tO acc)))) (Zv (.bool true) (Zv (.bool true) (Zv (.bool true) (Zv (.bool true) (ZN (zA (ZF (.bool true) Tryz.results5 ?_))))))))))
      exact fun w hO => ⟨rfl, hO.below⟩
    refine Zd (p := ((kK acc) : Int) = 0) false (decide_eq_false (h8)) (Zv (.bool false) (Zk (Zk (Zk (Zv (.bool false) (Zv (.bool false) (Zv (.bool false) (Zv (.bool false) (ZN (zA ?_))))))))))
    exact ZF (.bool false) Tryz.results5 (fun w hO => by exfalso; omega)
  refine Zd (p := (96 : Int) < (mkS acc).size) false (decide_eq_false (h6)) (Zv (.bool false) (Zk (Zk (Zv (.bool false) (Zv (.bool false) (Zv (.int .i64 (kK acc)) ?_))))))
  by_cases h9 : ((kK acc) : Int) = 0
  · refine zV (p := ((kK acc) : Int) = 0) true (by kernel_rfl) (fun _ => by kernel_rfl) (decide_eq_true (h9)) ?_
    refine Zv (.bool true) (uK ⟨b1, #[.slice A1 xs1.length c1], 25⟩ (off := 0) (.agg #[.slice A1 xs1.length c1]) (by kernel_rfl) rfl (by simp) (by kernel_rfl) (by kernel_rfl) (Zl 0 ⟨b3, #[.slice A3 xs3.length c3], 25⟩ (off := 0) (.agg #[.slice A3 xs3.length c3]) (Zc (k := 16) (args := #[.agg #[.slice A1 xs1.length c1], .agg #[.slice A3 xs3.length c3]]) (.bool true) (fun w hO => ret_b (decide_eq_true ((hx1).trans (Eq.trans (wide_same hW (by omega)) (hx3).symm))) (same7_any A1 A3 c1 c3 xs1 xs3 w (RgA.inn ha1 rfl hO (fun x hx => by simp [hx]) (fun x hx => by simp [hx]) (by rw [hx1]; exact jE (rgMay.facts mr).1)) (RgA.inn ha3 rfl hO (fun x hx => by simp [hx]) (fun x hx => by simp [hx]) (by rw [hx3]; exact tO acc)))) (Zv (.bool true) (Zv (.bool true) (Zv (.bool true) (Zv (.bool true) (ZN (zA (ZF (.bool true) Tryz.results5 ?_))))))))))
    exact fun w hO => ⟨rfl, hO.below⟩
  refine Zd (p := ((kK acc) : Int) = 0) false (decide_eq_false (h9)) (Zv (.bool false) (Zk (Zk (Zk (Zv (.bool false) (Zv (.bool false) (Zv (.bool false) (Zv (.bool false) (ZN (zA ?_))))))))))
  exact ZF (.bool false) Tryz.results5 (fun w hO => by exfalso; omega)
end Go.Proofs.YtkljdpiaghepfaaGreatDoor
end

section
/-
  ScopeBack: for every input the call returns true, and each argument reads afterwards as it read before. Conditions: none but the row's own, that the listed package-level variables read as the program's text lays them.
-/
namespace Go.Proofs.YtkljdpiaghepfaaGreatDoor.scopeBack
open Go.ChangeShapes Go.WideShapes Go.ChangeAt Go.RowKit
open Go.ChangeMaps (open_string shut_string)
set_option linter.unusedVariables false

set_option maxRecDepth 100000 in
theorem contract (H : Type) (enc : TypeId × Value → H) (W : World) (base : Nat) (args : Array Value) (ds gs : List (DataW H)) (before : List MemPlace)
    (hval : ∀ (j : Nat) t v, Tryz.f5.params[j]? = some t → args[j]? = some v → Value.okWide Tryz.prog W .any base t v)
    (hW : DataW.Whole enc Tryz.prog Tryz.f5.params.toList Rows.scopeBackSpec.vars false W args.toList ds gs before) (hL : laidMetH Tryz.prog Rows.scopeBackRow.laid W) (hS : W.ShapedOpen Tryz.prog) :
    Calls Tryz.prog 5 args W fun e W' => ∃ v, e = .returned v ∧ Rows.scopeBackSpec.post enc Tryz.prog Tryz.f5 false true false false W args v W' := by
  have ht : HasLib W := hasLib_of (hasTab_of hL (by rfl)) hS
  have hW' := hW
  obtain ⟨p, q, hA0, hV, rfl, hfz, hnd⟩ := hW
  have hA : DataW.TrodAll enc Tryz.prog W 0 (fun _ => true) true Tryz.f5.params.toList args.toList ds p := hA0
  rw [Tryz.params5] at hA hval
  obtain ⟨v0, vs0, d0, ds0, p0, q0, hargs, rfl, rfl, h0, r0⟩ := trodAll_cons hA
  obtain ⟨rfl, rfl, rfl⟩ := trodAll_nil r0
  obtain rfl : args = #[v0] := by cases args; simp_all
  obtain ⟨rfl, rfl⟩ := trodVars_none hV
  clear hA0
  obtain ⟨l, l_reads, l_len⟩ := open_nums (hval 0 40 v0 rfl rfl) h0
  refine (scopeBack.law W v0 l l_reads l_len ht).mono fun e W' ⟨he, hb⟩ => ?_
  subst he
  exact ⟨_, rfl, law_end laidOut (fun t ht => by rw [Tryz.params5] at ht; simp at ht; subst ht; exact ⟨by kernel_rfl, of_decide_eq_true (by kernel_rfl)⟩) rfl rfl Tryz.underlying4 hW' (by rfl) hb⟩

noncomputable def jN (os : Os) : World :=
  { World.holding Tryz.prog os ⟨#[], #[], []⟩ with heap := n9 (n9 (n9 (n9 (n9 ((World.holding Tryz.prog os ⟨#[], #[], []⟩).heap) 4 Rows.laid_math_bits_deBruijn32tab) 5 Rows.laid_math_bits_deBruijn64tab) 3 Rows.laid_internal_strconv_uint64pow10) 2 Rows.laid_unicode_utf8_acceptRanges) 1 Rows.laid_unicode_utf8_first }
theorem laid_met (os : Os) : laidMet Tryz.prog Rows.scopeBackRow.laid ((jN os).forCall (fun _ _ => 0) ⟨#[], #[.slice none 0 0], []⟩).memory :=
  laidMet_of_run' 8 (by kernel_rfl) (by kernel_rfl)
theorem reads (os : Os) {H : Type} (enc : TypeId × Value → H) : ∃ places, DataW.whole enc Tryz.prog ((jN os).forCall (fun _ _ => 0) ⟨#[], #[.slice none 0 0], []⟩).memory Tryz.f5.params.toList Rows.scopeBackSpec.vars false (#[.slice none 0 0] : Array Value).toList 8 = some ([.nil], [], places) :=
  ⟨[], by kernel_rfl⟩

set_option maxRecDepth 100000 in
theorem lifted (os : Os) (started : os.Started) (H : Type) (enc : TypeId × Value → H) (F : Stop.Interp) :
    ReturnsInHanded {} Tryz.checked os 5 .any ((OpenSpec.ofChange Rows.scopeBackSpec).preRow enc Tryz.prog Tryz.f5 Rows.scopeBackRow.domain false Rows.scopeBackRow.laid) (((OpenSpec.ofChange Rows.scopeBackSpec).at F).post enc Tryz.prog Tryz.f5 false true false false) := by
  obtain ⟨places, hx⟩ := reads os enc
  refine returnsInHanded_of_row (C := Tryz.checked) (s := OpenSpec.ofChange Rows.scopeBackSpec) own started (by kernel_rfl) Tryz.func5
    (witness_row_at (enc := enc) (C := Tryz.checked) false (jN os) #[.slice none 0 0] rfl (by kernel_rfl) (by kernel_rfl) (by kernel_rfl)
      (OpenSpec.preRow_of_cond 8 hx (by kernel_rfl) (fun k hk => by cases hk) (by kernel_rfl) (laid_met os))) ?_
  intro W base args ds gs before hval hW _ _ _ hL hS _
  exact contract H enc W base args ds gs before hval hW hL hS

theorem said : Rows.ScopeBackSaid :=
  OpenClaim.holds_of_cond 5 Tryz.f5 rfl rfl rfl rfl rfl rfl rfl ⟨rfl, rfl, rfl, rfl, rfl⟩ rfl rfl rfl rfl rfl (by kernel_rfl) Tryz.func5 (by kernel_rfl)
    (of_decide_eq_true (by kernel_rfl)) (by unfold Func.isWrapper; first | (rw [if_pos (by decide +kernel)]; kernel_rfl) | (rw [if_neg (by decide +kernel)]; exact ⟨rfl, rfl⟩))
    (fun os started H enc _ F => by rw [OpenClaim.pre_eq_preRow]; exact lifted os started H enc F)

theorem n8 (f : FuncId) (fn : Func) (hf : Tryz.pinned.checked.prog.funcNamed "linchpin/linchpinlaw7.ScopeBack" = some f) (hfn : Tryz.pinned.checked.prog.funcs[f]? = some fn) :
    false = Tryz.pinned.checked.prog.looks [] ∧ ∀ (j : Nat) t, fn.params[j]? = some t → Tryz.pinned.checked.prog.wantsStandIn t = false := by
  obtain rfl : f = 5 := Option.some.inj ((show Tryz.prog.funcNamed "linchpin/linchpinlaw7.ScopeBack" = some 5 by kernel_rfl).symm.trans hf) |>.symm
  obtain rfl : fn = Tryz.f5 := (Option.some.inj (Tryz.func5.symm.trans hfn)).symm
  refine ⟨by kernel_rfl, fun j t ht => ?_⟩
  rw [Tryz.params5] at ht
  have hm := Array.mem_of_getElem? ht
  simp at hm
  subst hm
  exact (show Tryz.prog.wantsStandIn 40 = false by kernel_rfl)

theorem card : Rows.ScopeBackCardSaid :=
  Claim7.holds_tied_plain_at .later [] _ _ _ _ said (fun _ h => by cases h) (by kernel_rfl) (fun _ h => by cases h) scopeBack_row_tie rfl ⟨rfl, rfl⟩ (by kernel_rfl) rfl n8 (by kernel_rfl)

#print axioms card
end Go.Proofs.YtkljdpiaghepfaaGreatDoor.scopeBack
end
