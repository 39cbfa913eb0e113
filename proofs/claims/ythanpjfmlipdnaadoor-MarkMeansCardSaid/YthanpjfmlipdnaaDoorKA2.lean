/-
  What the statement's proof leans on: the ways of walking, qX mathematics, and what the program's functions return; each theorem says on what conditions.
-/
import Derived.Test.YthanpjfmlipdnaaDoorKA1
set_option maxRecDepth 1000000
set_option maxHeartbeats 8000000
set_option linter.unusedVariables false
set_option linter.unusedSimpArgs false
namespace Go.Proofs.YthanpjfmlipdnaaDoor
open Go.RowKit

section
set_option linter.unnecessarySimpa false
def rt (st : List (Nat × Tr)) : List Int := (st.map fun p => ((p.1 : Nat) : Int)).reverse
theorem yW (p : Nat × Tr) (st : List (Nat × Tr)) : rt (p :: st) = rt st ++ [(p.1 : Int)] := by unfold rt; simp
theorem xC (st : List (Nat × Tr)) : (rt st).length = st.length := by unfold rt; simp
theorem rt_take (p : Nat × Tr) (st : List (Nat × Tr)) : (rt (p :: st)).take st.length = rt st := by rw [yW, ← xC st]; simp
theorem dU (p q : Nat × Tr) (st : List (Nat × Tr)) : (rt (p :: q :: st)).take st.length = rt st := by rw [yW, yW, ← xC st]; simp
theorem wI (p : Nat × Tr) (st : List (Nat × Tr)) (h : st.length < (rt (p :: st)).length) : (rt (p :: st))[st.length] = (p.1 : Int) := by
  have e := yW p st
  have h2 : (rt (p :: st))[st.length]? = some (p.1 : Int) := by rw [e, ← xC st]; simp
  rw [List.getElem?_eq_getElem h] at h2
  exact Option.some.inj h2
theorem dV (p q : Nat × Tr) (st : List (Nat × Tr)) (h : st.length < (rt (p :: q :: st)).length) : (rt (p :: q :: st))[st.length] = (q.1 : Int) := by
  have h2 : (rt (p :: q :: st))[st.length]? = some (q.1 : Int) := by rw [yW, yW, ← xC st]; simp
  rw [List.getElem?_eq_getElem h] at h2
  exact Option.some.inj h2
def qO (l : List Nd) : Bool := match gA 0 [] l with | some s => decide (l = []) || decide (s.length = 1) | none => false
theorem vD {i : Nat} {st s : List (Nat × Tr)} {n : Nd} {r : List Nd} (h : stp i st n = some s) : gA i st (n :: r) = gA (i + 1) s r := by rw [gA, h]
theorem xW {i : Nat} {st : List (Nat × Tr)} {n : Nd} {r : List Nd} (h : stp i st n = none) : gA i st (n :: r) = none := by rw [gA, h]
theorem tH {i : Nat} {st : List (Nat × Tr)} {n : Nd} (h : xH n = true) : stp i st n = some ((i, .is n.key.toNat n.text) :: st) := by unfold stp; rw [if_pos h]
theorem stp_not {i : Nat} {p : Nat × Tr} {st : List (Nat × Tr)} {n : Nd} (h : xH n = false) (h1 : kH (p :: st) n = true) : stp i (p :: st) n = some ((i, .no p.2) :: st) := by unfold stp; rw [if_neg (by rw [h]; simp), if_pos h1]
theorem stp_bin {i : Nat} {p q : Nat × Tr} {st : List (Nat × Tr)} {n : Nd} (h : xH n = false) (h1 : kH (p :: q :: st) n = false) (h2 : isBin (p :: q :: st) n = true) : stp i (p :: q :: st) n = some ((i, if n.op = 3 then .both q.2 p.2 else .one q.2 p.2) :: st) := by unfold stp; rw [if_neg (by rw [h]; simp), if_neg (by rw [h1]; simp), if_pos h2]
theorem wV {i : Nat} {st : List (Nat × Tr)} {n : Nd} (h : xH n = false) (h1 : kH st n = false) (h2 : isBin st n = false) : stp i st n = none := by unfold stp; rw [if_neg (by rw [h]; simp), if_neg (by rw [h1]; simp), if_neg (by rw [h2]; simp)]
theorem isNot_cons {st : List (Nat × Tr)} {n : Nd} (h : kH st n = true) : ∃ p r, st = p :: r := by cases st with | nil => cases h | cons p r => exact ⟨p, r, rfl⟩
theorem isBin_cons {st : List (Nat × Tr)} {n : Nd} (h : isBin st n = true) : ∃ p q r, st = p :: q :: r := by
  match st, h with
  | p :: q :: r, _ => exact ⟨p, q, r, rfl⟩
theorem st_one {st : List (Nat × Tr)} (h : 0 < st.length) : ∃ p r, st = p :: r := by cases st with | nil => cases h | cons p r => exact ⟨p, r, rfl⟩
theorem mL {st : List (Nat × Tr)} (h : 1 < st.length) : ∃ p q r, st = p :: q :: r := by
  match st, h with
  | p :: q :: r, _ => exact ⟨p, q, r, rfl⟩
theorem st_none {st : List (Nat × Tr)} (h : ¬ 0 < st.length) : st = [] := List.eq_nil_of_length_eq_zero (by omega)
theorem pH {st : List (Nat × Tr)} {n : Nd} (h : ¬ 1 < st.length) : isBin st n = false := by
  match st, h with
  | [], _ => rfl
  | [p], _ => rfl
  | p :: q :: r, h => simp at h
theorem fS {st : List (Nat × Tr)} {n : Nd} (h : ¬ n.op = 2) : kH st n = false := by cases st with | nil => rfl | cons p r => unfold kH; rw [decide_eq_false h]; rfl
theorem pV {st : List (Nat × Tr)} {n : Nd} (h : ¬ n.op = 3) (h2 : ¬ n.op = 4) : isBin st n = false := by
  match st with
  | [] => rfl
  | [p] => rfl
  | p :: q :: r => unfold isBin; rw [decide_eq_false h, decide_eq_false h2]; rfl
theorem bare_not {st : List (Nat × Tr)} {n : Nd} (h : k8 n = false) : kH st n = false := by cases st with | nil => rfl | cons p r => unfold kH; rw [h]; simp
theorem bare_bin {st : List (Nat × Tr)} {n : Nd} (h : k8 n = false) : isBin st n = false := by
  match st with
  | [] => rfl
  | [p] => rfl
  | p :: q :: r => unfold isBin; rw [h]; simp
theorem tQ (A : Option Addr) (cap0 : Nat) (l : List Nd) (W : World) (hv : Reads nC W W.heap.size A l) (hn0 : l.length ≤ 1000) (ht : ∀ n ∈ l, n.text.length ≤ 1000000) : Calls Tryd.prog 51 #[.slice A l.length cap0] W fun e w' => e = .returned (.bool (qO l)) ∧ Below W.heap.size W w' := by
  refine zU (n := 113) Tryd.func51 rfl (by kernel_rfl) (by kernel_rfl) (ZO (Zv (.bool false) (ZR (Zv (.slice none 0 0) (ZN (zF ?_))))))
  refine ZO (Zv (.int .i64 0) (ZN (zP (xT (fun L f m => ∃ (i : Nat) (st : List (Nat × Tr)) (B : Option Addr) (cap : Nat) (oc : List Blk) (j : Nat → Value), (i ≤ l.length ∧ gA 0 [] l = gA i st (l.drop i) ∧ SlZ (.slice B (rt st).length cap) (rt st) oc ∧ st.length ≤ i) ∧ L = (oc ++ []) ∧ f = qT j [(0, .slice A l.length cap0), (3, .slice B (rt st).length cap), (4, .int .i64 (i : Int))] ∧ m = l.length - i) (l.length - 0) ⟨0, [], none, 0, [], _, ⟨Nat.zero_le _, rfl, Sl.nil _ _, Nat.le_refl _⟩, rfl, ZU, rfl⟩ ?_))))
  rintro L f m ⟨i, st, B, cap, oc, j, hrel, rfl, rfl, rfl⟩
  obtain ⟨hi6, hrun, hsl, hstl⟩ := hrel; have hrtl := xC st; refine yB (L' := oc) (by simp) ?_
  refine zF (ZO (Zv (.int .i64 (i : Int)) (Zv (.slice A l.length cap0) (Zv (.int .i64 (l.length : Int)) ?_))))
  by_cases h1 : (i : Int) < (l.length : Int)
  · have hil : i < l.length := by omega
    obtain ⟨bp, off, hA, hlt, hcell⟩ := hv (by omega)
    obtain ⟨n, hn⟩ : ∃ n, l[i] = n := ⟨_, rfl⟩
    have hnt := hn ▸ ht l[i] (List.getElem_mem hil)
    have hdr : l.drop i = n :: l.drop (i + 1) := by rw [← hn]; exact List.drop_eq_getElem_cons hil
    refine Zd (p := (i : Int) < (l.length : Int)) true (decide_eq_true (h1)) (ZY (ZB (zF (zP (ZO (Zv (.slice A l.length cap0) (Zv (.int .i64 (i : Int)) ?_)))))))
    refine zM (.pointer (some ⟨bp, off + i * 5, none⟩)) (by kernel_rfl) (ZA (b := bp) (off := off) (c := cap0) (n := l.length) (k := .i64) (j := (i : Int)) (e := 48) (sz := 5) hA) (Zo (ndV n) (a := ⟨bp, off + i * 5, none⟩) (fun w hO => Reads.load yX (hv.on hO.below hO.size) hA i 0 hil (by omega) _ (by rw [hn]; kernel_rfl)) (Zv (.slice B ((rt st).length) cap) (Zv (.int .i64 ((rt st).length : Int)) (Za (.agg #[.int .i64 0, .int .i64 0, .int .i64 0, .int .i64 0, .string ⟨#[]⟩]) (fun b1 => Zs 0 ⟨b1, #[.int .i64 0, .int .i64 0, .int .i64 0, .int .i64 0, .string ⟨#[]⟩], 48⟩ (off := 0) (ndV n) (Zv (.int .i64 ((rt st).length : Int)) (ZN (zF (pW (fun L f => L = ⟨b1, (ndV n).cells, 48⟩ :: (oc) ∧ ∃ (j : Nat → Value), f = qT j [(0, .slice A l.length cap0), (3, .slice B ((rt st).length) cap), (4, .int .i64 (i : Int)), (5, .pointer (some ⟨b1, 0, none⟩)), (6, .int .i64 ((rt st).length : Int)), (7, .bool (k8 n))]) ?_ ?_)))))))))
    · refine z7 ?_
      refine Zv (.pointer (some ⟨b1, 3, none⟩)) (Zl 0 ⟨b1, (ndV n).cells, 48⟩ (off := 3) (.int .i64 n.key) ?_)
      by_cases h2 : (n.key : Int) = 0
      · refine x8 (p := (n.key : Int) = 0) true (by kernel_rfl) (fun _ => by kernel_rfl) (decide_eq_true (h2)) ?_
        refine Zv (.bool true) (Zv (.pointer (some ⟨b1, 4, none⟩)) (Zl 0 ⟨b1, (ndV n).cells, 48⟩ (off := 4) (.string (mkS n.text)) ?_))
        by_cases h3 : (n.text : List UInt8) = []
        · refine zM (.bool true) (by kernel_rfl) (zV (a := n.text) (b := ([])) rfl (by kernel_rfl) (by kernel_rfl) (decide_eq_true (h3))) ?_
          refine Zv (.bool true) (Zv (.bool true) (zK ?_))
          have hjn : k8 n = true := by unfold k8; simp [h1, h2, h3]
          exact xL ⟨rfl, _, by rw [hjn]; exact ZU⟩
        refine zM (.bool false) (by kernel_rfl) (zV (a := n.text) (b := ([])) rfl (by kernel_rfl) (by kernel_rfl) (decide_eq_false (h3))) (Zv (.bool false) (Zv (.bool false) (zK ?_)))
        have hjn : k8 n = false := by unfold k8; simp [h1, h2, h3]
        exact xL ⟨rfl, _, by rw [hjn]; exact ZU⟩
      refine Zd (p := (n.key : Int) = 0) false (decide_eq_false (h2)) (Zv (.bool false) (Zk (Zk (Zk (Zv (.bool false) (Zv (.bool false) (zK ?_)))))))
      have hjn : k8 n = false := by unfold k8; simp [h1, h2]
      exact xL ⟨rfl, _, by rw [hjn]; exact ZU⟩
    · rintro L f ⟨rfl, j3, rfl⟩
      refine z8 (zF (zP (ZO (Zl 0 ⟨b1, (ndV n).cells, 48⟩ (off := 0) (ndV n) (Zc (k := 73) (args := #[ndV n]) (.bool (xH n)) (fun w _ => tR n w hnt) (Zv (.bool (xH n)) (zK (z8 ?_))))))))
      cases h4 : xH n with
      | true =>
        refine Zt (x6 (zJ (z8 (z7 (Zv (.slice B ((rt st).length) cap) (Zv (.int .i64 (i : Int)) (g0 3 #[.int .i64 (i : Int)] (by kernel_rfl) rfl (fun _ => by kernel_rfl) (fun b2 => ?_))))))))
        obtain ⟨i0, z0, e1, e2, e3, e4, e5⟩ := gJ
        refine zH (L' := [⟨b2, #[.int .i64 (i : Int)], 3⟩, ⟨b1, (ndV n).cells, 48⟩] ++ oc ++ ([] : List Blk)) (by rw [List.append_nil]; rfl) (x0 (sz := 1) (by kernel_rfl) rfl Tryd.underlying39 e1 e2 e3 e4 (by kernel_rfl) hsl (a := ⟨b2, 0, none⟩) (m := 1) (c := 1) (news := zC (i : Int)) (by kernel_rfl) rfl (fun w hO j u hj => ?_) (fun u hu => by rw [List.mem_singleton.1 hu]; rfl) (by unfold maxLen; omega) (by rw [e5]; omega) (fun u2 ob2 hu2 => ?_))
        · rw [y5, cell_of_row w b2 (0 + j) (zC (i : Int)).toArray 3 _ (hO.held ⟨b2, (zC (i : Int)).toArray, 3⟩ (List.mem_append_left _ (List.mem_append_left _ (List.mem_cons_self ..))))]; simpa using hj
        have hu2s : SlZ u2 (rt st ++ [(i : Int)]) ob2 := SlZ.add hu2
        obtain ⟨B2, cb2, rfl⟩ := Sl.form hu2s
        refine yI (L' := ⟨b1, (ndV n).cells, 48⟩ :: (ob2)) (fun w hO => Own.sub [⟨b2, #[.int .i64 (i : Int)], 3⟩] (show Own _ _ w (⟨b2, #[.int .i64 (i : Int)], 3⟩ :: (⟨b1, (ndV n).cells, 48⟩ :: (ob2))) from by rw [List.append_nil] at hO; exact hO)) (Zv (.slice B2 ((rt st ++ [(i : Int)]).length) cb2) (zK (zJ (z8 (z7 (Zv (.int .i64 (i : Int)) (Zu (k := .i64) (((i + 1 : Nat) : Int)) (IntWalk.i64_in _ (by omega)) (Zv (.int .i64 ((i + 1 : Nat) : Int)) (zK ?_)))))))))
        have hrl2 : (rt ((i, Tr.is n.key.toNat n.text) :: st)).length = (rt st ++ [(i : Int)]).length := by rw [yW]
        rw [← hrl2]
        exact xF (L' := ob2 ++ []) (fun w hO => hO.sublist (by simp)) (zS (m' := l.length - (i + 1)) (by omega) ⟨i + 1, ((i, Tr.is n.key.toNat n.text) :: st), B2, cb2, ob2, _, ⟨by omega, by rw [hrun, hdr, vD (tH h4)], by rw [yW]; exact hu2s, by first | (rw [hst] at hstl; simp only [List.length_cons] at hstl ⊢; omega) | (simp only [List.length_cons]; omega)⟩, rfl, ZU, rfl⟩)
      | false =>
        refine Zf (zF (pW (fun L f => L = ⟨b1, (ndV n).cells, 48⟩ :: (oc) ∧ ∃ (j : Nat → Value), f = qT j [(0, .slice A l.length cap0), (3, .slice B ((rt st).length) cap), (4, .int .i64 (i : Int)), (5, .pointer (some ⟨b1, 0, none⟩)), (6, .int .i64 ((rt st).length : Int)), (7, .bool (k8 n)), (31, .bool (kH st n))]) ?_ ?_))
        · refine xU (by kernel_rfl) (by kernel_rfl) ?_
          refine Zw (.pointer (some ⟨b1, 0, none⟩)) (Zm 0 ⟨b1, (ndV n).cells, 48⟩ (off := 0) (.int .i64 n.op) ?_)
          by_cases h5 : (n.op : Int) = 2
          · refine j0 (p := (n.op : Int) = 2) true (by kernel_rfl) (fun _ => by kernel_rfl) (decide_eq_true (h5)) ?_
            refine Zw (.bool true) (Zw (.bool (k8 n)) (Zw (.bool (k8 n)) (Zw (.bool (k8 n)) ?_)))
            cases h6 : k8 n with
            | true =>
              refine Zw (.int .i64 ((rt st).length : Int)) ?_
              by_cases h7 : (0 : Int) < ((rt st).length : Int)
              · obtain ⟨p, r, hst⟩ := st_one (st := st) (by omega)
                obtain ⟨g, hg, hcap⟩ := Sl.at0 hsl (by omega)
                have hrl : (rt st).length = r.length + 1 := by rw [xC, hst]; rfl
                have hlast : ∀ h : r.length < (rt st).length, (rt st)[r.length] = (p.1 : Int) := by subst hst; exact fun h => wI p r h
                refine Ze (p := (0 : Int) < ((rt st).length : Int)) true (decide_eq_true (h7)) (Zw (.bool true) (Zw (.bool true) (Zw (.pointer (some ⟨b1, 1, none⟩)) (Zm 0 ⟨b1, (ndV n).cells, 48⟩ (off := 1) (.int .i64 n.a) (Zw (.slice B ((rt st).length) cap) (Zw (.int .i64 ((rt st).length : Int)) (j7 (k := .i64) ((((rt st).length : Int) : Int) - 1) (by kernel_rfl) (fun _ => by kernel_rfl) (IntWalk.i64_in _ (by omega)) (yQ (.pointer (some ⟨g, 0 + (r.length) * 1, none⟩)) (by kernel_rfl) (xY (b := g) (off := 0) (c := cap) (n := (rt st).length) (k := .i64) (j := (((rt st).length : Int) : Int) - 1) (e := 3) (sz := 1) rfl (by kernel_rfl) hg (by kernel_rfl) (by kernel_rfl) (by kernel_rfl) (by omega) (by omega) (by omega)) (qW (.int .i64 (p.1 : Int)) (a := ⟨g, 0 + (r.length) * 1, none⟩) (by kernel_rfl) rfl (by kernel_rfl) (fun w hO => Reads.load x7 (Sl.reads hsl rfl hO (fun x hx => by simp [hx])) hg (r.length) 0 (by omega) (by omega) _ (by rw [hlast]; kernel_rfl)) ?_)))))))))
                by_cases h8 : (n.a : Int) = (p.1 : Int)
                · refine j0 (p := (n.a : Int) = (p.1 : Int)) true (by kernel_rfl) (fun _ => by kernel_rfl) (decide_eq_true (h8)) ?_
                  refine Zw (.bool true) (Zw (.bool true) (Zw (.pointer (some ⟨b1, 2, none⟩)) (Zm 0 ⟨b1, (ndV n).cells, 48⟩ (off := 2) (.int .i64 n.b) ?_)))
                  by_cases h9 : (n.b : Int) = 0
                  · refine j0 (p := (n.b : Int) = 0) true (by kernel_rfl) (fun _ => by kernel_rfl) (decide_eq_true (h9)) ?_
                    refine Zw (.bool true) (Zw (.bool true) (yU ?_))
                    have hjn : kH st n = true := by rw [hst]; unfold kH; simp [h1, h4, h5, h6, h7, h8, h9]
                    exact xL ⟨rfl, _, by rw [hjn]; exact ZU⟩
                  refine Ze (p := (n.b : Int) = 0) false (decide_eq_false (h9)) (Zw (.bool false) (Zw (.bool false) (yU ?_)))
                  have hjn : kH st n = false := by rw [hst]; unfold kH; simp [h1, h4, h5, h6, h7, h8, h9]
                  exact xL ⟨rfl, _, by rw [hjn]; exact ZU⟩
                refine Ze (p := (n.a : Int) = (p.1 : Int)) false (decide_eq_false (h8)) (Zw (.bool false) (Zw (.bool false) (Zj (Zj (Zj (Zw (.bool false) (Zw (.bool false) (yU ?_))))))))
                have hjn : kH st n = false := by rw [hst]; unfold kH; simp [h1, h4, h5, h6, h7, h8]
                exact xL ⟨rfl, _, by rw [hjn]; exact ZU⟩
              refine Ze (p := (0 : Int) < ((rt st).length : Int)) false (decide_eq_false (h7)) (Zw (.bool false) (Zw (.bool false) (Zj (Zj (Zj (Zj (Zj (Zj (Zj (Zj (Zw (.bool false) ?_)))))))))))
              refine Zw (.bool false) (Zj (Zj (Zj (Zw (.bool false) (Zw (.bool false) (yU ?_))))))
              have hjn : kH st n = false := by rw [st_none (st := st) (by rw [← xC]; omega)]; rfl
              exact xL ⟨rfl, _, by rw [hjn]; exact ZU⟩
            | false =>
              refine Zj (Zj (Zw (.bool false) (Zw (.bool false) (Zj (Zj (Zj (Zj (Zj (Zj (Zj (Zj ?_)))))))))))
              refine Zw (.bool false) (Zw (.bool false) (Zj (Zj (Zj (Zw (.bool false) (Zw (.bool false) (yU ?_)))))))
              have hjn : kH st n = false := bare_not h6
              exact xL ⟨rfl, _, by rw [hjn]; exact ZU⟩
          refine Ze (p := (n.op : Int) = 2) false (decide_eq_false (h5)) (Zw (.bool false) (Zj (Zw (.bool false) (Zw (.bool false) (Zj (Zj (Zw (.bool false) (Zw (.bool false) (Zj (Zj (Zj ?_)))))))))))
          refine Zj (Zj (Zj (Zj (Zj (Zw (.bool false) (Zw (.bool false) (Zj (Zj (Zj (Zw (.bool false) (Zw (.bool false) ?_)))))))))))
          refine yU ?_
          have hjn : kH st n = false := fS h5
          exact xL ⟨rfl, _, by rw [hjn]; exact ZU⟩
        · rintro L f ⟨rfl, j9, rfl⟩
          refine z8 ?_
          cases h10 : kH st n with
          | true =>
            obtain ⟨p, r, hst⟩ := isNot_cons h10
            obtain ⟨g, hgB, hcap⟩ := Sl.at0 hsl (by rw [xC, hst]; simp)
            have hrl : (rt st).length = r.length + 1 := by rw [xC, hst]; rfl
            have hrr := xC r
            have hsl2 : SlZ (.slice (some ⟨g, 0, none⟩) (rt r).length cap) (rt r) oc := by
              subst hst; subst hgB
              have q9 := Sl.front x7 hsl (by rw [yW]; simp) (k := r.length) (by omega)
              rw [rt_take] at q9
              unfold SlZ; rw [show (rt r).length = r.length from xC r] at q9 ⊢; exact q9
            refine Zt (z7 (Zv (.slice B ((rt st).length) cap) (Zv (.int .i64 ((rt st).length : Int)) (Zu (k := .i64) ((((rt st).length : Int) : Int) - 1) (IntWalk.i64_in _ (by omega)) (zM (.slice (some ⟨g, 0, none⟩) ((rt r).length) cap) (by kernel_rfl) (fun w => by rw [show (rt r).length = (((rt st).length : Int) - 1).toNat from by omega]; subst hgB; exact jR (b := g) (off := 0) (n := (rt st).length) (c := cap) (k := .i64) (j := ((rt st).length : Int) - 1) (e := 3) (sz := 1) rfl (by kernel_rfl) (by kernel_rfl) (by kernel_rfl) (by kernel_rfl) (by omega) (by omega) w) (Zv (.slice (some ⟨g, 0, none⟩) ((rt r).length) cap) (zK (zJ (z8 (z7 (Zv (.slice (some ⟨g, 0, none⟩) ((rt r).length) cap) ?_)))))))))))
            refine Zv (.int .i64 (i : Int)) (g0 3 #[.int .i64 (i : Int)] (by kernel_rfl) rfl (fun _ => by kernel_rfl) (fun b2 => ?_))
            obtain ⟨i0, z0, e1, e2, e3, e4, e5⟩ := gJ
            refine zH (L' := [⟨b2, #[.int .i64 (i : Int)], 3⟩, ⟨b1, (ndV n).cells, 48⟩] ++ oc ++ ([] : List Blk)) (by rw [List.append_nil]; rfl) (x0 (sz := 1) (by kernel_rfl) rfl Tryd.underlying39 e1 e2 e3 e4 (by kernel_rfl) hsl2 (a := ⟨b2, 0, none⟩) (m := 1) (c := 1) (news := zC (i : Int)) (by kernel_rfl) rfl (fun w hO j u hj => ?_) (fun u hu => by rw [List.mem_singleton.1 hu]; rfl) (by unfold maxLen; omega) (by rw [e5]; omega) (fun u2 ob2 hu2 => ?_))
            · rw [y5, cell_of_row w b2 (0 + j) (zC (i : Int)).toArray 3 _ (hO.held ⟨b2, (zC (i : Int)).toArray, 3⟩ (List.mem_append_left _ (List.mem_append_left _ (List.mem_cons_self ..))))]; simpa using hj
            have hu2s : SlZ u2 (rt r ++ [(i : Int)]) ob2 := SlZ.add hu2
            obtain ⟨B2, cb2, rfl⟩ := Sl.form hu2s
            refine yI (L' := ⟨b1, (ndV n).cells, 48⟩ :: (ob2)) (fun w hO => Own.sub [⟨b2, #[.int .i64 (i : Int)], 3⟩] (show Own _ _ w (⟨b2, #[.int .i64 (i : Int)], 3⟩ :: (⟨b1, (ndV n).cells, 48⟩ :: (ob2))) from by rw [List.append_nil] at hO; exact hO)) (Zv (.slice B2 ((rt r ++ [(i : Int)]).length) cb2) (zK (zJ (z8 (z7 (Zv (.int .i64 (i : Int)) (Zu (k := .i64) (((i + 1 : Nat) : Int)) (IntWalk.i64_in _ (by omega)) (Zv (.int .i64 ((i + 1 : Nat) : Int)) (zK ?_)))))))))
            have hrl2 : (rt ((i, Tr.no p.2) :: r)).length = (rt r ++ [(i : Int)]).length := by rw [yW]
            rw [← hrl2]
            exact xF (L' := ob2 ++ []) (fun w hO => hO.sublist (by simp)) (zS (m' := l.length - (i + 1)) (by omega) ⟨i + 1, ((i, Tr.no p.2) :: r), B2, cb2, ob2, _, ⟨by omega, by rw [hrun, hdr, vD (hst ▸ stp_not h4 (hst ▸ h10))], by rw [yW]; exact hu2s, by first | (rw [hst] at hstl; simp only [List.length_cons] at hstl ⊢; omega) | (simp only [List.length_cons]; omega)⟩, rfl, ZU, rfl⟩)
          | false =>
            refine Zf (zF (pW (fun L f => L = ⟨b1, (ndV n).cells, 48⟩ :: (oc) ∧ ∃ (j : Nat → Value), f = qT j [(0, .slice A l.length cap0), (3, .slice B ((rt st).length) cap), (4, .int .i64 (i : Int)), (5, .pointer (some ⟨b1, 0, none⟩)), (6, .int .i64 ((rt st).length : Int)), (7, .bool (k8 n)), (61, .bool (isBin st n))]) ?_ ?_))
            · refine xU (by kernel_rfl) (by kernel_rfl) ?_
              refine Zw (.pointer (some ⟨b1, 0, none⟩)) (Zm 0 ⟨b1, (ndV n).cells, 48⟩ (off := 0) (.int .i64 n.op) ?_)
              by_cases h11 : (n.op : Int) = 3
              · refine j0 (p := (n.op : Int) = 3) true (by kernel_rfl) (fun _ => by kernel_rfl) (decide_eq_true (h11)) ?_
                refine Zw (.bool true) (Zj (Zj (Zj (Zw (.bool true) (Zw (.bool true) (Zw (.bool (k8 n)) (Zw (.bool (k8 n)) (Zw (.bool (k8 n)) ?_))))))))
                cases h12 : k8 n with
                | true =>
                  refine Zw (.int .i64 ((rt st).length : Int)) ?_
                  by_cases h13 : (1 : Int) < ((rt st).length : Int)
                  · obtain ⟨p, q, r, hst⟩ := mL (st := st) (by omega)
                    obtain ⟨g, hg, hcap⟩ := Sl.at0 hsl (by omega)
                    have hrl : (rt st).length = r.length + 2 := by rw [xC, hst]; rfl
                    have hlast : ∀ h : r.length + 1 < (rt st).length, (rt st)[r.length + 1] = (p.1 : Int) := by subst hst; exact fun h => wI p (q :: r) h
                    have hprev : ∀ h : r.length < (rt st).length, (rt st)[r.length] = (q.1 : Int) := by subst hst; exact fun h => dV p q r h
                    refine Ze (p := (1 : Int) < ((rt st).length : Int)) true (decide_eq_true (h13)) (Zw (.bool true) (Zw (.bool true) (Zw (.pointer (some ⟨b1, 1, none⟩)) (Zm 0 ⟨b1, (ndV n).cells, 48⟩ (off := 1) (.int .i64 n.a) (Zw (.slice B ((rt st).length) cap) (Zw (.int .i64 ((rt st).length : Int)) (j7 (k := .i64) ((((rt st).length : Int) : Int) - 2) (by kernel_rfl) (fun _ => by kernel_rfl) (IntWalk.i64_in _ (by omega)) (yQ (.pointer (some ⟨g, 0 + (r.length) * 1, none⟩)) (by kernel_rfl) (xY (b := g) (off := 0) (c := cap) (n := (rt st).length) (k := .i64) (j := (((rt st).length : Int) : Int) - 2) (e := 3) (sz := 1) rfl (by kernel_rfl) hg (by kernel_rfl) (by kernel_rfl) (by kernel_rfl) (by omega) (by omega) (by omega)) (qW (.int .i64 (q.1 : Int)) (a := ⟨g, 0 + (r.length) * 1, none⟩) (by kernel_rfl) rfl (by kernel_rfl) (fun w hO => Reads.load x7 (Sl.reads hsl rfl hO (fun x hx => by simp [hx])) hg (r.length) 0 (by omega) (by omega) _ (by rw [hprev]; kernel_rfl)) ?_)))))))))
                    by_cases h14 : (n.a : Int) = (q.1 : Int)
                    · refine j0 (p := (n.a : Int) = (q.1 : Int)) true (by kernel_rfl) (fun _ => by kernel_rfl) (decide_eq_true (h14)) ?_
                      refine Zw (.bool true) (Zw (.bool true) (Zw (.pointer (some ⟨b1, 2, none⟩)) (Zm 0 ⟨b1, (ndV n).cells, 48⟩ (off := 2) (.int .i64 n.b) (Zw (.slice B ((rt st).length) cap) (Zw (.int .i64 ((rt st).length : Int)) (j7 (k := .i64) ((((rt st).length : Int) : Int) - 1) (by kernel_rfl) (fun _ => by kernel_rfl) (IntWalk.i64_in _ (by omega)) (yQ (.pointer (some ⟨g, 0 + (r.length + 1) * 1, none⟩)) (by kernel_rfl) (xY (b := g) (off := 0) (c := cap) (n := (rt st).length) (k := .i64) (j := (((rt st).length : Int) : Int) - 1) (e := 3) (sz := 1) rfl (by kernel_rfl) hg (by kernel_rfl) (by kernel_rfl) (by kernel_rfl) (by omega) (by omega) (by omega)) (qW (.int .i64 (p.1 : Int)) (a := ⟨g, 0 + (r.length + 1) * 1, none⟩) (by kernel_rfl) rfl (by kernel_rfl) (fun w hO => Reads.load x7 (Sl.reads hsl rfl hO (fun x hx => by simp [hx])) hg (r.length + 1) 0 (by omega) (by omega) _ (by rw [hlast]; kernel_rfl)) ?_))))))))
                      by_cases h15 : (n.b : Int) = (p.1 : Int)
                      · refine j0 (p := (n.b : Int) = (p.1 : Int)) true (by kernel_rfl) (fun _ => by kernel_rfl) (decide_eq_true (h15)) ?_
                        refine Zw (.bool true) (Zw (.bool true) (yU ?_))
                        have hjn : isBin st n = true := by rw [hst]; unfold isBin; simp [h1, h4, h10, h11, h12, h13, h14, h15]
                        exact xL ⟨rfl, _, by rw [hjn]; exact ZU⟩
                      refine Ze (p := (n.b : Int) = (p.1 : Int)) false (decide_eq_false (h15)) (Zw (.bool false) (Zw (.bool false) (yU ?_)))
                      have hjn : isBin st n = false := by rw [hst]; unfold isBin; simp [h1, h4, h10, h11, h12, h13, h14, h15]
                      exact xL ⟨rfl, _, by rw [hjn]; exact ZU⟩
                    refine Ze (p := (n.a : Int) = (q.1 : Int)) false (decide_eq_false (h14)) (Zw (.bool false) (Zw (.bool false) (Zj (Zj (Zj (Zj (Zj (Zj (Zj (Zj (Zw (.bool false) ?_)))))))))))
                    refine Zw (.bool false) (yU ?_)
                    have hjn : isBin st n = false := by rw [hst]; unfold isBin; simp [h1, h4, h10, h11, h12, h13, h14]
                    exact xL ⟨rfl, _, by rw [hjn]; exact ZU⟩
                  refine Ze (p := (1 : Int) < ((rt st).length : Int)) false (decide_eq_false (h13)) (Zw (.bool false) (Zw (.bool false) (Zj (Zj (Zj (Zj (Zj (Zj (Zj (Zj (Zw (.bool false) ?_)))))))))))
                  refine Zw (.bool false) (Zj (Zj (Zj (Zj (Zj (Zj (Zj (Zj (Zw (.bool false) (Zw (.bool false) (yU ?_)))))))))))
                  have hjn : isBin st n = false := pH (by rw [← xC]; omega)
                  exact xL ⟨rfl, _, by rw [hjn]; exact ZU⟩
                | false =>
                  refine Zj (Zj (Zw (.bool false) (Zw (.bool false) (Zj (Zj (Zj (Zj (Zj (Zj (Zj (Zj ?_)))))))))))
                  refine Zw (.bool false) (Zw (.bool false) (Zj (Zj (Zj (Zj (Zj (Zj (Zj (Zj (Zw (.bool false) (Zw (.bool false) ?_)))))))))))
                  refine yU ?_
                  have hjn : isBin st n = false := bare_bin h12
                  exact xL ⟨rfl, _, by rw [hjn]; exact ZU⟩
              refine Ze (p := (n.op : Int) = 3) false (decide_eq_false (h11)) (Zw (.bool false) (Zw (.pointer (some ⟨b1, 0, none⟩)) (Zm 0 ⟨b1, (ndV n).cells, 48⟩ (off := 0) (.int .i64 n.op) ?_)))
              by_cases h16 : (n.op : Int) = 4
              · refine j0 (p := (n.op : Int) = 4) true (by kernel_rfl) (fun _ => by kernel_rfl) (decide_eq_true (h16)) ?_
                refine Zw (.bool true) (Zw (.bool true) (Zw (.bool (k8 n)) (Zw (.bool (k8 n)) (Zw (.bool (k8 n)) ?_))))
                cases h17 : k8 n with
                | true =>
                  refine Zw (.int .i64 ((rt st).length : Int)) ?_
                  by_cases h18 : (1 : Int) < ((rt st).length : Int)
                  · obtain ⟨p, q, r, hst⟩ := mL (st := st) (by omega)
                    obtain ⟨g, hg, hcap⟩ := Sl.at0 hsl (by omega)
                    have hrl : (rt st).length = r.length + 2 := by rw [xC, hst]; rfl
                    have hlast : ∀ h : r.length + 1 < (rt st).length, (rt st)[r.length + 1] = (p.1 : Int) := by subst hst; exact fun h => wI p (q :: r) h
                    have hprev : ∀ h : r.length < (rt st).length, (rt st)[r.length] = (q.1 : Int) := by subst hst; exact fun h => dV p q r h
                    refine Ze (p := (1 : Int) < ((rt st).length : Int)) true (decide_eq_true (h18)) (Zw (.bool true) (Zw (.bool true) (Zw (.pointer (some ⟨b1, 1, none⟩)) (Zm 0 ⟨b1, (ndV n).cells, 48⟩ (off := 1) (.int .i64 n.a) (Zw (.slice B ((rt st).length) cap) (Zw (.int .i64 ((rt st).length : Int)) (j7 (k := .i64) ((((rt st).length : Int) : Int) - 2) (by kernel_rfl) (fun _ => by kernel_rfl) (IntWalk.i64_in _ (by omega)) (yQ (.pointer (some ⟨g, 0 + (r.length) * 1, none⟩)) (by kernel_rfl) (xY (b := g) (off := 0) (c := cap) (n := (rt st).length) (k := .i64) (j := (((rt st).length : Int) : Int) - 2) (e := 3) (sz := 1) rfl (by kernel_rfl) hg (by kernel_rfl) (by kernel_rfl) (by kernel_rfl) (by omega) (by omega) (by omega)) (qW (.int .i64 (q.1 : Int)) (a := ⟨g, 0 + (r.length) * 1, none⟩) (by kernel_rfl) rfl (by kernel_rfl) (fun w hO => Reads.load x7 (Sl.reads hsl rfl hO (fun x hx => by simp [hx])) hg (r.length) 0 (by omega) (by omega) _ (by rw [hprev]; kernel_rfl)) ?_)))))))))
                    by_cases h19 : (n.a : Int) = (q.1 : Int)
                    · refine j0 (p := (n.a : Int) = (q.1 : Int)) true (by kernel_rfl) (fun _ => by kernel_rfl) (decide_eq_true (h19)) ?_
                      refine Zw (.bool true) (Zw (.bool true) (Zw (.pointer (some ⟨b1, 2, none⟩)) (Zm 0 ⟨b1, (ndV n).cells, 48⟩ (off := 2) (.int .i64 n.b) (Zw (.slice B ((rt st).length) cap) (Zw (.int .i64 ((rt st).length : Int)) (j7 (k := .i64) ((((rt st).length : Int) : Int) - 1) (by kernel_rfl) (fun _ => by kernel_rfl) (IntWalk.i64_in _ (by omega)) (yQ (.pointer (some ⟨g, 0 + (r.length + 1) * 1, none⟩)) (by kernel_rfl) (xY (b := g) (off := 0) (c := cap) (n := (rt st).length) (k := .i64) (j := (((rt st).length : Int) : Int) - 1) (e := 3) (sz := 1) rfl (by kernel_rfl) hg (by kernel_rfl) (by kernel_rfl) (by kernel_rfl) (by omega) (by omega) (by omega)) (qW (.int .i64 (p.1 : Int)) (a := ⟨g, 0 + (r.length + 1) * 1, none⟩) (by kernel_rfl) rfl (by kernel_rfl) (fun w hO => Reads.load x7 (Sl.reads hsl rfl hO (fun x hx => by simp [hx])) hg (r.length + 1) 0 (by omega) (by omega) _ (by rw [hlast]; kernel_rfl)) ?_))))))))
                      by_cases h20 : (n.b : Int) = (p.1 : Int)
                      · refine j0 (p := (n.b : Int) = (p.1 : Int)) true (by kernel_rfl) (fun _ => by kernel_rfl) (decide_eq_true (h20)) ?_
                        refine Zw (.bool true) (Zw (.bool true) (yU ?_))
                        have hjn : isBin st n = true := by rw [hst]; unfold isBin; simp [h1, h4, h10, h11, h16, h17, h18, h19, h20]
                        exact xL ⟨rfl, _, by rw [hjn]; exact ZU⟩
                      refine Ze (p := (n.b : Int) = (p.1 : Int)) false (decide_eq_false (h20)) (Zw (.bool false) (Zw (.bool false) (yU ?_)))
                      have hjn : isBin st n = false := by rw [hst]; unfold isBin; simp [h1, h4, h10, h11, h16, h17, h18, h19, h20]
                      exact xL ⟨rfl, _, by rw [hjn]; exact ZU⟩
                    refine Ze (p := (n.a : Int) = (q.1 : Int)) false (decide_eq_false (h19)) (Zw (.bool false) (Zw (.bool false) (Zj (Zj (Zj (Zj (Zj (Zj (Zj (Zj (Zw (.bool false) ?_)))))))))))
                    refine Zw (.bool false) (yU ?_)
                    have hjn : isBin st n = false := by rw [hst]; unfold isBin; simp [h1, h4, h10, h11, h16, h17, h18, h19]
                    exact xL ⟨rfl, _, by rw [hjn]; exact ZU⟩
                  refine Ze (p := (1 : Int) < ((rt st).length : Int)) false (decide_eq_false (h18)) (Zw (.bool false) (Zw (.bool false) (Zj (Zj (Zj (Zj (Zj (Zj (Zj (Zj (Zw (.bool false) ?_)))))))))))
                  refine Zw (.bool false) (Zj (Zj (Zj (Zj (Zj (Zj (Zj (Zj (Zw (.bool false) (Zw (.bool false) (yU ?_)))))))))))
                  have hjn : isBin st n = false := pH (by rw [← xC]; omega)
                  exact xL ⟨rfl, _, by rw [hjn]; exact ZU⟩
                | false =>
                  refine Zj (Zj (Zw (.bool false) (Zw (.bool false) (Zj (Zj (Zj (Zj (Zj (Zj (Zj (Zj ?_)))))))))))
                  refine Zw (.bool false) (Zw (.bool false) (Zj (Zj (Zj (Zj (Zj (Zj (Zj (Zj (Zw (.bool false) (Zw (.bool false) ?_)))))))))))
                  refine yU ?_
                  have hjn : isBin st n = false := bare_bin h17
                  exact xL ⟨rfl, _, by rw [hjn]; exact ZU⟩
              refine Ze (p := (n.op : Int) = 4) false (decide_eq_false (h16)) (Zw (.bool false) (Zw (.bool false) (Zj (Zw (.bool false) (Zw (.bool false) (Zj (Zj (Zw (.bool false) (Zw (.bool false) (Zj (Zj ?_)))))))))))
              refine Zj (Zj (Zj (Zj (Zj (Zj (Zw (.bool false) (Zw (.bool false) (Zj (Zj (Zj (Zj ?_)))))))))))
              refine Zj (Zj (Zj (Zj (Zw (.bool false) (Zw (.bool false) (yU ?_))))))
              have hjn : isBin st n = false := pV h11 h16
              exact xL ⟨rfl, _, by rw [hjn]; exact ZU⟩
            · rintro L f ⟨rfl, j20, rfl⟩
              refine z8 ?_
              cases h21 : isBin st n with
              | true =>
                obtain ⟨p, q, r, hst⟩ := isBin_cons h21
                obtain ⟨g, hgB, hcap⟩ := Sl.at0 hsl (by rw [xC, hst]; simp)
                have hrl : (rt st).length = r.length + 2 := by rw [xC, hst]; rfl
                have hrr := xC r
                have hsl2 : SlZ (.slice (some ⟨g, 0, none⟩) (rt r).length cap) (rt r) oc := by
                  subst hst; subst hgB
                  have q9 := Sl.front x7 hsl (by rw [yW]; simp) (k := r.length) (by omega)
                  rw [dU] at q9
                  unfold SlZ; rw [show (rt r).length = r.length from xC r] at q9 ⊢; exact q9
                refine Zt (z7 (Zv (.slice B ((rt st).length) cap) (Zv (.int .i64 ((rt st).length : Int)) (Zu (k := .i64) ((((rt st).length : Int) : Int) - 2) (IntWalk.i64_in _ (by omega)) (zM (.slice (some ⟨g, 0, none⟩) ((rt r).length) cap) (by kernel_rfl) (fun w => by rw [show (rt r).length = (((rt st).length : Int) - 2).toNat from by omega]; subst hgB; exact jR (b := g) (off := 0) (n := (rt st).length) (c := cap) (k := .i64) (j := ((rt st).length : Int) - 2) (e := 3) (sz := 1) rfl (by kernel_rfl) (by kernel_rfl) (by kernel_rfl) (by kernel_rfl) (by omega) (by omega) w) (Zv (.slice (some ⟨g, 0, none⟩) ((rt r).length) cap) (zK (zJ (z8 (z7 (Zv (.slice (some ⟨g, 0, none⟩) ((rt r).length) cap) ?_)))))))))))
                refine Zv (.int .i64 (i : Int)) (g0 3 #[.int .i64 (i : Int)] (by kernel_rfl) rfl (fun _ => by kernel_rfl) (fun b2 => ?_))
                obtain ⟨i0, z0, e1, e2, e3, e4, e5⟩ := gJ
                refine zH (L' := [⟨b2, #[.int .i64 (i : Int)], 3⟩, ⟨b1, (ndV n).cells, 48⟩] ++ oc ++ ([] : List Blk)) (by rw [List.append_nil]; rfl) (x0 (sz := 1) (by kernel_rfl) rfl Tryd.underlying39 e1 e2 e3 e4 (by kernel_rfl) hsl2 (a := ⟨b2, 0, none⟩) (m := 1) (c := 1) (news := zC (i : Int)) (by kernel_rfl) rfl (fun w hO j u hj => ?_) (fun u hu => by rw [List.mem_singleton.1 hu]; rfl) (by unfold maxLen; omega) (by rw [e5]; omega) (fun u2 ob2 hu2 => ?_))
                · rw [y5, cell_of_row w b2 (0 + j) (zC (i : Int)).toArray 3 _ (hO.held ⟨b2, (zC (i : Int)).toArray, 3⟩ (List.mem_append_left _ (List.mem_append_left _ (List.mem_cons_self ..))))]; simpa using hj
                have hu2s : SlZ u2 (rt r ++ [(i : Int)]) ob2 := SlZ.add hu2
                obtain ⟨B2, cb2, rfl⟩ := Sl.form hu2s
                refine yI (L' := ⟨b1, (ndV n).cells, 48⟩ :: (ob2)) (fun w hO => Own.sub [⟨b2, #[.int .i64 (i : Int)], 3⟩] (show Own _ _ w (⟨b2, #[.int .i64 (i : Int)], 3⟩ :: (⟨b1, (ndV n).cells, 48⟩ :: (ob2))) from by rw [List.append_nil] at hO; exact hO)) (Zv (.slice B2 ((rt r ++ [(i : Int)]).length) cb2) (zK (zJ (z8 (z7 (Zv (.int .i64 (i : Int)) (Zu (k := .i64) (((i + 1 : Nat) : Int)) (IntWalk.i64_in _ (by omega)) (Zv (.int .i64 ((i + 1 : Nat) : Int)) (zK ?_)))))))))
                have hrl2 : (rt ((i, if n.op = 3 then Tr.both q.2 p.2 else Tr.one q.2 p.2) :: r)).length = (rt r ++ [(i : Int)]).length := by rw [yW]
                rw [← hrl2]
                exact xF (L' := ob2 ++ []) (fun w hO => hO.sublist (by simp)) (zS (m' := l.length - (i + 1)) (by omega) ⟨i + 1, ((i, if n.op = 3 then Tr.both q.2 p.2 else Tr.one q.2 p.2) :: r), B2, cb2, ob2, _, ⟨by omega, by rw [hrun, hdr, vD (hst ▸ stp_bin h4 (hst ▸ h10) (hst ▸ h21))], by rw [yW]; exact hu2s, by first | (rw [hst] at hstl; simp only [List.length_cons] at hstl ⊢; omega) | (simp only [List.length_cons]; omega)⟩, rfl, ZU, rfl⟩)
              | false =>
                refine Zf (ZO (Zv (.bool false) (ZN (zG (zD (z5 (zD (z5 (yE ?_)))))))))
                exact zD (z5 (ZF (.bool false) Tryd.results51 (fun w hO => ⟨by rw [show qO l = false from by unfold qO; rw [hrun, hdr, xW (wV h4 h10 h21)]], hO.below⟩)))
  have hil : l.drop i = [] := List.drop_of_length_le (by omega)
  refine Zd (p := (i : Int) < (l.length : Int)) false (decide_eq_false (h1)) (ZX (xN (yG (zY (zZ (z8 (ZO (Zv (.slice A l.length cap0) ?_))))))))
  refine Zv (.int .i64 (l.length : Int)) ?_
  by_cases h22 : (l.length : Int) = 0
  · refine x8 (p := (l.length : Int) = 0) true (by kernel_rfl) (fun _ => by kernel_rfl) (decide_eq_true (h22)) ?_
    exact Zv (.bool true) (Zk (Zk (Zk (Zv (.bool true) (Zv (.bool true) (ZN (zG (ZF (.bool true) Tryd.results51 (fun w hO => ⟨by rw [show qO l = true from by unfold qO; rw [hrun, hil]; show (decide (l = []) || decide (st.length = 1)) = _; simp; first | omega | (rw [← List.length_eq_zero_iff]; omega)], hO.below⟩)))))))))
  refine Zd (p := (l.length : Int) = 0) false (decide_eq_false (h22)) (Zv (.bool false) (Zv (.slice B ((rt st).length) cap) (Zv (.int .i64 ((rt st).length : Int)) ?_)))
  by_cases h23 : ((rt st).length : Int) = 1
  · refine x8 (p := ((rt st).length : Int) = 1) true (by kernel_rfl) (fun _ => by kernel_rfl) (decide_eq_true (h23)) ?_
    exact Zv (.bool true) (Zv (.bool true) (ZN (zG (ZF (.bool true) Tryd.results51 (fun w hO => ⟨by rw [show qO l = true from by unfold qO; rw [hrun, hil]; show (decide (l = []) || decide (st.length = 1)) = _; simp; first | omega | (rw [← List.length_eq_zero_iff]; omega)], hO.below⟩)))))
  exact Zd (p := ((rt st).length : Int) = 1) false (decide_eq_false (h23)) (Zv (.bool false) (Zv (.bool false) (ZN (zG (ZF (.bool false) Tryd.results51 (fun w hO => ⟨by rw [show qO l = false from by unfold qO; rw [hrun, hil]; show (decide (l = []) || decide (st.length = 1)) = _; simp; first | omega | (rw [← List.length_eq_zero_iff]; omega)], hO.below⟩))))))
end
section
set_option linter.unnecessarySimpa false
theorem bL (c : Bool) {l : List Tok} (h : l ≠ []) : x1 32 (yR c l) = yA c (x1 32 l) := by
  unfold yR yA
  cases c with
  | false => rfl
  | true =>
    show x1 32 ([yP] ++ (l ++ [yC])) = _
    rw [gI 32 [yP] _ (by simp) (by simp), gI 32 l [yC] h (by simp)]
    simp [x1, yP, yC]
theorem dN {c : Bool} {l : List Tok} (h : l ≠ []) : yR c l ≠ [] := by unfold yR; cases c <;> simp [h]
theorem text_is (k : Nat) (t : List UInt8) : (Tr.is k t).text = yH k ++ [32, 61, 32] ++ t := by
  unfold Tr.text; rw [Tr.tok]; simp [x1, tEq]
theorem text_no_is (k : Nat) (t : List UInt8) : (Tr.no (.is k t)).text = yH k ++ [32, 33, 61, 32] ++ t := by
  unfold Tr.text; rw [Tr.tok]; simp [x1, tNe]
theorem text_no {x : Tr} (h : ∀ k t, x ≠ .is k t) : (Tr.no x).text = [110, 111, 116, 32] ++ yA x.isBin x.text := by
  unfold Tr.text
  rw [Tr.tok_no h, show yZ :: yR x.isBin x.tok = [yZ] ++ yR x.isBin x.tok from rfl, gI 32 _ _ (by simp) (dN x.tok_ne), bL _ x.tok_ne]; simp [x1, yZ]
theorem j2 (x y : Tr) : (Tr.both x y).text = yA x.isOne x.text ++ [32, 97, 110, 100, 32] ++ yA y.isBin y.text := by
  unfold Tr.text
  rw [Tr.tok, show xB :: yR y.isBin y.tok = [xB] ++ yR y.isBin y.tok from rfl, gI 32 _ _ (dN x.tok_ne) (by simp), gI 32 [xB] _ (by simp) (dN y.tok_ne), bL _ x.tok_ne, bL _ y.tok_ne]; simp [x1, xB]
theorem tE (x y : Tr) : (Tr.one x y).text = x.text ++ [32, 111, 114, 32] ++ yA y.isOne y.text := by
  unfold Tr.text
  rw [Tr.tok, show tOr :: yR y.isOne y.tok = [tOr] ++ yR y.isOne y.tok from rfl, gI 32 _ _ x.tok_ne (by simp), gI 32 [tOr] _ (by simp) (dN y.tok_ne), bL _ y.tok_ne]; simp [x1, tOr]
def Tr.opc : Tr → Int
  | .is _ _ => 1
  | .no _ => 2
  | .both _ _ => 3
  | .one _ _ => 4
theorem opc_14 (t : Tr) : 1 ≤ t.opc ∧ t.opc ≤ 4 := by cases t <;> simp [Tr.opc]
theorem jI (t : Tr) : t.isOne = decide (t.opc = 4) := by cases t <;> rfl
theorem jN (t : Tr) : t.isBin = (decide (t.opc = 4) || decide (t.opc = 3)) := by cases t <;> rfl
theorem bD : ∀ t : Tr, t.ok = true → t.w ≤ 20 * t.sz
  | .is k v, h => by
    unfold Tr.ok at h
    simp only [Bool.and_eq_true, decide_eq_true_eq] at h
    have hv := h.2
    unfold wdL at hv
    simp only [Bool.and_eq_true, decide_eq_true_eq] at hv
    rw [w_is]
    have : (yH k).length ≤ 4 := by unfold yH; split <;> (try split) <;> simp
    show _ ≤ 20; omega
  | .no x, h => by have := bD x h; have := (w_no x).1; have := x.w_le; show _ ≤ 20 * (x.sz + 1); omega
  | .both x y, h => by
    unfold Tr.ok at h; rw [Bool.and_eq_true] at h
    have := bD x h.1; have := bD y h.2; have := x.w_le; have := y.w_le
    rw [fM]; show _ ≤ 20 * (x.sz + y.sz + 1); omega
  | .one x y, h => by
    unfold Tr.ok at h; rw [Bool.and_eq_true] at h
    have := bD x h.1; have := bD y h.2; have := x.w_le; have := y.w_le
    rw [tC]; show _ ≤ 20 * (x.sz + y.sz + 1); omega
def gV (A : Option Addr) (cap : Nat) (l : List Nd) (a : Nat) (t : Tr) : Prop := ∀ W : World, Reads nC W W.heap.size A l → Calls Tryd.prog 74 #[.slice A l.length cap, .int .i64 (a : Int)] W fun e w' => e = .returned (.string (mkS t.text)) ∧ Below W.heap.size W w'
theorem gK (c : Bool) (s : List UInt8) : (yA c s).length ≤ s.length + 4 := by unfold yA; cases c <;> simp
theorem yV {α : Type} {l : List α} {r : Nat} {x : α} (h : l[r]? = some x) : ∃ hr : r < l.length, l[r] = x := List.getElem?_eq_some_iff.1 h
theorem tx_is {A : Option Addr} {cap : Nat} {l : List Nd} (hn : l.length ≤ 1000) {r : Nat} {k : Nat} {t : List UInt8} (hk : k < 3) (ht : t.length ≤ 1000) (hr : l[r]? = some ⟨1, 0, 0, (k : Int), t⟩) : gV A cap l r (.is k t) := fun W hv => by
  obtain ⟨hr, er⟩ := yV hr
  obtain ⟨bp, off, hA, hlt, hcell⟩ := hv (by omega)
  have hkl : (yH k).length ≤ 4 := by unfold yH; split <;> (try split) <;> simp
  refine zU (n := 102) Tryd.func74 rfl (by kernel_rfl) (by kernel_rfl) (ZO (Zv (.string ⟨#[]⟩) (ZR (Zv (.slice A l.length cap) (Zv (.int .i64 (r : Int)) (zM (.pointer (some ⟨bp, off + r * 5, none⟩)) (by kernel_rfl) (ZA (b := bp) (off := off) (c := cap) (n := l.length) (k := .i64) (j := (r : Int)) (e := 48) (sz := 5) hA) (Zo (ndV ⟨1, 0, 0, k, t⟩) (a := ⟨bp, off + r * 5, none⟩) (fun w hO => Reads.load yX (hv.on hO.below hO.size) hA r 0 hr (by omega) _ (by rw [er]; kernel_rfl)) ?_)))))))
  refine Za (.agg #[.int .i64 0, .int .i64 0, .int .i64 0, .int .i64 0, .string ⟨#[]⟩]) (fun b1 => Zs 0 ⟨b1, #[.int .i64 0, .int .i64 0, .int .i64 0, .int .i64 0, .string ⟨#[]⟩], 48⟩ (off := 0) (ndV ⟨1, 0, 0, k, t⟩) (ZN (zF (ZO (Zv (.pointer (some ⟨b1, 0, none⟩)) (Zl 0 ⟨b1, (ndV ⟨1, 0, 0, k, t⟩).cells, 48⟩ (off := 0) (.int .i64 1) (ZN (zP ?_))))))))
  refine ZO (Zv (.bool true) (Zv (.bool true) (ZY (zF (xU (by kernel_rfl) (by kernel_rfl) (Zw (.pointer (some ⟨b1, 3, none⟩)) (Zm 0 ⟨b1, (ndV ⟨1, 0, 0, k, t⟩).cells, 48⟩ (off := 3) (.int .i64 (k : Int)) (Zq (k := 83) (args := #[.int .i64 (k : Int)]) (.string (mkS (yH k))) (fun w _ => dI k hk w) ?_))))))))
  exact yQ (.string (mkS ((yH k) ++ [32, 61, 32]))) (by kernel_rfl) (y9 (a := (yH k)) (b := [32, 61, 32]) rfl (by kernel_rfl) (by kernel_rfl) (by first | omega | (simp only [List.length_append, List.length_cons, List.length_nil]; omega))) (Zw (.pointer (some ⟨b1, 4, none⟩)) (Zm 0 ⟨b1, (ndV ⟨1, 0, 0, k, t⟩).cells, 48⟩ (off := 4) (.string (mkS t)) (yQ (.string (mkS (((yH k) ++ [32, 61, 32]) ++ t))) (by kernel_rfl) (y9 (a := ((yH k) ++ [32, 61, 32])) (b := t) rfl (by kernel_rfl) (by kernel_rfl) (by first | omega | (simp only [List.length_append, List.length_cons, List.length_nil]; omega))) (Zw (.string (mkS (((yH k) ++ [32, 61, 32]) ++ t))) (yU (z8 (zG (zD (z5 (ZF (.string (mkS (((yH k) ++ [32, 61, 32]) ++ t))) Tryd.results74 (fun w hO => ⟨by rw [text_is], hO.below⟩)))))))))))
theorem tx_no_is {A : Option Addr} {cap : Nat} {l : List Nd} (hn : l.length ≤ 1000) {r : Nat} {a k : Nat} {t : List UInt8} (hk : k < 3) (ht : t.length ≤ 1000) (hr : l[r]? = some ⟨2, (a : Int), 0, 0, []⟩) (ha : l[a]? = some ⟨1, 0, 0, (k : Int), t⟩) : gV A cap l r (.no (.is k t)) := fun W hv => by
  obtain ⟨hr, er⟩ := yV hr
  obtain ⟨ha, ea⟩ := yV ha
  obtain ⟨bp, off, hA, hlt, hcell⟩ := hv (by omega)
  have hkl : (yH k).length ≤ 4 := by unfold yH; split <;> (try split) <;> simp
  refine zU (n := 102) Tryd.func74 rfl (by kernel_rfl) (by kernel_rfl) (ZO (Zv (.string ⟨#[]⟩) (ZR (Zv (.slice A l.length cap) (Zv (.int .i64 (r : Int)) (zM (.pointer (some ⟨bp, off + r * 5, none⟩)) (by kernel_rfl) (ZA (b := bp) (off := off) (c := cap) (n := l.length) (k := .i64) (j := (r : Int)) (e := 48) (sz := 5) hA) (Zo (ndV ⟨2, a, 0, 0, []⟩) (a := ⟨bp, off + r * 5, none⟩) (fun w hO => Reads.load yX (hv.on hO.below hO.size) hA r 0 hr (by omega) _ (by rw [er]; kernel_rfl)) ?_)))))))
  refine Za (.agg #[.int .i64 0, .int .i64 0, .int .i64 0, .int .i64 0, .string ⟨#[]⟩]) (fun b1 => Zs 0 ⟨b1, #[.int .i64 0, .int .i64 0, .int .i64 0, .int .i64 0, .string ⟨#[]⟩], 48⟩ (off := 0) (ndV ⟨2, a, 0, 0, []⟩) (ZN (zF (ZO (Zv (.pointer (some ⟨b1, 0, none⟩)) (Zl 0 ⟨b1, (ndV ⟨2, a, 0, 0, []⟩).cells, 48⟩ (off := 0) (.int .i64 2) (ZN (zP ?_))))))))
  refine ZO (Zv (.bool false) (Zv (.bool false) (ZX (ZO (Zv (.bool true) (Zv (.bool true) (zK ?_)))))))
  refine z8 (Zt (ZO (Zv (.slice A l.length cap) (Zv (.pointer (some ⟨b1, 1, none⟩)) (Zl 0 ⟨b1, (ndV ⟨2, a, 0, 0, []⟩).cells, 48⟩ (off := 1) (.int .i64 (a : Int)) (zM (.pointer (some ⟨bp, off + a * 5, none⟩)) (by kernel_rfl) (ZA (b := bp) (off := off) (c := cap) (n := l.length) (k := .i64) (j := (a : Int)) (e := 48) (sz := 5) hA) (Zo (ndV ⟨1, 0, 0, k, t⟩) (a := ⟨bp, off + a * 5, none⟩) (fun w hO => Reads.load yX (hv.on hO.below hO.size) hA a 0 ha (by omega) _ (by rw [ea]; kernel_rfl)) (Za (.agg #[.int .i64 0, .int .i64 0, .int .i64 0, .int .i64 0, .string ⟨#[]⟩]) (fun b2 => Zs 0 ⟨b2, #[.int .i64 0, .int .i64 0, .int .i64 0, .int .i64 0, .string ⟨#[]⟩], 48⟩ (off := 0) (ndV ⟨1, 0, 0, k, t⟩) (zK ?_))))))))))
  refine z8 (zF (ZO (Zv (.pointer (some ⟨b2, 0, none⟩)) (Zl 0 ⟨b2, (ndV ⟨1, 0, 0, k, t⟩).cells, 48⟩ (off := 0) (.int .i64 1) (Zv (.bool true) (ZY (zF (xU (by kernel_rfl) (by kernel_rfl) ?_))))))))
  refine Zw (.pointer (some ⟨b2, 3, none⟩)) (Zm 0 ⟨b2, (ndV ⟨1, 0, 0, k, t⟩).cells, 48⟩ (off := 3) (.int .i64 (k : Int)) (Zq (k := 83) (args := #[.int .i64 (k : Int)]) (.string (mkS (yH k))) (fun w _ => dI k hk w) (yQ (.string (mkS ((yH k) ++ [32, 33, 61, 32]))) (by kernel_rfl) (y9 (a := (yH k)) (b := [32, 33, 61, 32]) rfl (by kernel_rfl) (by kernel_rfl) (by first | omega | (simp only [List.length_append, List.length_cons, List.length_nil]; omega))) (Zw (.pointer (some ⟨b2, 4, none⟩)) (Zm 0 ⟨b2, (ndV ⟨1, 0, 0, k, t⟩).cells, 48⟩ (off := 4) (.string (mkS t)) (yQ (.string (mkS (((yH k) ++ [32, 33, 61, 32]) ++ t))) (by kernel_rfl) (y9 (a := ((yH k) ++ [32, 33, 61, 32])) (b := t) rfl (by kernel_rfl) (by kernel_rfl) (by first | omega | (simp only [List.length_append, List.length_cons, List.length_nil]; omega))) (Zw (.string (mkS (((yH k) ++ [32, 33, 61, 32]) ++ t))) (yU (z8 (zG (z5 ?_)))))))))))
  exact zD (z5 (ZF (.string (mkS (((yH k) ++ [32, 33, 61, 32]) ++ t))) Tryd.results74 (fun w hO => ⟨by rw [text_no_is], hO.below⟩)))
theorem tx_no {A : Option Addr} {cap : Nat} {l : List Nd} (hn : l.length ≤ 1000) {r : Nat} {a : Nat} {na : Nd} {x : Tr} (hne : ∀ k t, x ≠ .is k t) (hxl : x.text.length ≤ 100000) (hr : l[r]? = some ⟨2, (a : Int), 0, 0, []⟩) (ha : l[a]? = some na) (ha' : gV A cap l a x) (hxo : na.op = x.opc) (hx1 : ¬ na.op = 1) (hx5 : 1 ≤ na.op ∧ na.op ≤ 4) : gV A cap l r (.no x) := fun W hv => by
  obtain ⟨hr, er⟩ := yV hr
  obtain ⟨ha, ea⟩ := yV ha
  obtain ⟨bp, off, hA, hlt, hcell⟩ := hv (by omega)
  have hw1 := gK true x.text
  have hw2 := gK false x.text
  refine zU (n := 102) Tryd.func74 rfl (by kernel_rfl) (by kernel_rfl) (ZO (Zv (.string ⟨#[]⟩) (ZR (Zv (.slice A l.length cap) (Zv (.int .i64 (r : Int)) (zM (.pointer (some ⟨bp, off + r * 5, none⟩)) (by kernel_rfl) (ZA (b := bp) (off := off) (c := cap) (n := l.length) (k := .i64) (j := (r : Int)) (e := 48) (sz := 5) hA) (Zo (ndV ⟨2, a, 0, 0, []⟩) (a := ⟨bp, off + r * 5, none⟩) (fun w hO => Reads.load yX (hv.on hO.below hO.size) hA r 0 hr (by omega) _ (by rw [er]; kernel_rfl)) ?_)))))))
  refine Za (.agg #[.int .i64 0, .int .i64 0, .int .i64 0, .int .i64 0, .string ⟨#[]⟩]) (fun b1 => Zs 0 ⟨b1, #[.int .i64 0, .int .i64 0, .int .i64 0, .int .i64 0, .string ⟨#[]⟩], 48⟩ (off := 0) (ndV ⟨2, a, 0, 0, []⟩) (ZN (zF (ZO (Zv (.pointer (some ⟨b1, 0, none⟩)) (Zl 0 ⟨b1, (ndV ⟨2, a, 0, 0, []⟩).cells, 48⟩ (off := 0) (.int .i64 2) (ZN (zP ?_))))))))
  refine ZO (Zv (.bool false) (Zv (.bool false) (ZX (ZO (Zv (.bool true) (Zv (.bool true) (zK ?_)))))))
  refine z8 (Zt (ZO (Zv (.slice A l.length cap) (Zv (.pointer (some ⟨b1, 1, none⟩)) (Zl 0 ⟨b1, (ndV ⟨2, a, 0, 0, []⟩).cells, 48⟩ (off := 1) (.int .i64 (a : Int)) (zM (.pointer (some ⟨bp, off + a * 5, none⟩)) (by kernel_rfl) (ZA (b := bp) (off := off) (c := cap) (n := l.length) (k := .i64) (j := (a : Int)) (e := 48) (sz := 5) hA) (Zo (ndV na) (a := ⟨bp, off + a * 5, none⟩) (fun w hO => Reads.load yX (hv.on hO.below hO.size) hA a 0 ha (by omega) _ (by rw [ea]; kernel_rfl)) (Za (.agg #[.int .i64 0, .int .i64 0, .int .i64 0, .int .i64 0, .string ⟨#[]⟩]) (fun b2 => Zs 0 ⟨b2, #[.int .i64 0, .int .i64 0, .int .i64 0, .int .i64 0, .string ⟨#[]⟩], 48⟩ (off := 0) (ndV na) (zK ?_))))))))))
  refine z8 (zF (ZO (Zv (.pointer (some ⟨b2, 0, none⟩)) (Zl 0 ⟨b2, (ndV na).cells, 48⟩ (off := 0) (.int .i64 na.op) (Zd (p := (na.op : Int) = 1) false (decide_eq_false (hx1)) (ZX (x6 (z8 ?_))))))))
  refine zF (xU (by kernel_rfl) (by kernel_rfl) (Zw (.slice A l.length cap) (Zw (.pointer (some ⟨b1, 1, none⟩)) (Zm 1 ⟨b1, (ndV ⟨2, a, 0, 0, []⟩).cells, 48⟩ (off := 1) (.int .i64 (a : Int)) (Zq (k := 74) (args := #[.slice A l.length cap, .int .i64 (a : Int)]) (.string (mkS x.text)) (fun w hO => ha' w (hv.on hO.below hO.size)) (Zw (.pointer (some ⟨b2, 0, none⟩)) (Zm 0 ⟨b2, (ndV na).cells, 48⟩ (off := 0) (.int .i64 na.op) ?_)))))))
  by_cases h1 : (na.op : Int) = 2
  · refine q_ndec (p := (na.op : Int) = 2) true (by kernel_rfl) (fun _ => by kernel_rfl) (decide_eq_true (h1)) ?_
    exact Zq (k := 84) (args := #[.string (mkS x.text), .bool false]) (.string (mkS (yA false x.text))) (fun w _ => xP x.text false w (by omega)) (yQ (.string (mkS ([110, 111, 116, 32] ++ (yA false x.text)))) (by kernel_rfl) (y9 (a := [110, 111, 116, 32]) (b := (yA false x.text)) rfl (by kernel_rfl) (by kernel_rfl) (by first | omega | (simp only [List.length_append, List.length_cons, List.length_nil]; omega))) (Zw (.string (mkS ([110, 111, 116, 32] ++ (yA false x.text)))) (yU (z8 (zG (zD (z5 (ZF (.string (mkS ([110, 111, 116, 32] ++ (yA false x.text)))) Tryd.results74 (fun w hO => ⟨by rw [text_no hne, show x.isBin = false from by rw [jN]; simp [← hxo]; omega], hO.below⟩)))))))))
  exact q_ndec (p := (na.op : Int) = 2) false (by kernel_rfl) (fun _ => by kernel_rfl) (decide_eq_false (h1)) (Zq (k := 84) (args := #[.string (mkS x.text), .bool true]) (.string (mkS (yA true x.text))) (fun w _ => xP x.text true w (by omega)) (yQ (.string (mkS ([110, 111, 116, 32] ++ (yA true x.text)))) (by kernel_rfl) (y9 (a := [110, 111, 116, 32]) (b := (yA true x.text)) rfl (by kernel_rfl) (by kernel_rfl) (by first | omega | (simp only [List.length_append, List.length_cons, List.length_nil]; omega))) (Zw (.string (mkS ([110, 111, 116, 32] ++ (yA true x.text)))) (yU (z8 (zG (zD (z5 (ZF (.string (mkS ([110, 111, 116, 32] ++ (yA true x.text)))) Tryd.results74 (fun w hO => ⟨by rw [text_no hne, show x.isBin = true from by rw [jN]; simp [← hxo]; omega], hO.below⟩))))))))))
theorem tx_both {A : Option Addr} {cap : Nat} {l : List Nd} (hn : l.length ≤ 1000) {r : Nat} {a b : Nat} {na nb : Nd} {x y : Tr} (hxl : x.text.length ≤ 100000) (hyl : y.text.length ≤ 100000) (hr : l[r]? = some ⟨3, (a : Int), (b : Int), 0, []⟩) (ha : l[a]? = some na) (hb : l[b]? = some nb) (ha' : gV A cap l a x) (hb' : gV A cap l b y) (hxo : na.op = x.opc) (hyo : nb.op = y.opc) : gV A cap l r (.both x y) := fun W hv => by
  obtain ⟨hr, er⟩ := yV hr
  obtain ⟨ha, ea⟩ := yV ha
  obtain ⟨hb, eb⟩ := yV hb
  obtain ⟨bp, off, hA, hlt, hcell⟩ := hv (by omega)
  have hw0 := gK true x.text
  have hw1 := gK false x.text
  have hw2 := gK true y.text
  have hw3 := gK false y.text
  refine zU (n := 102) Tryd.func74 rfl (by kernel_rfl) (by kernel_rfl) (ZO (Zv (.string ⟨#[]⟩) (ZR (Zv (.slice A l.length cap) (Zv (.int .i64 (r : Int)) (zM (.pointer (some ⟨bp, off + r * 5, none⟩)) (by kernel_rfl) (ZA (b := bp) (off := off) (c := cap) (n := l.length) (k := .i64) (j := (r : Int)) (e := 48) (sz := 5) hA) (Zo (ndV ⟨3, a, b, 0, []⟩) (a := ⟨bp, off + r * 5, none⟩) (fun w hO => Reads.load yX (hv.on hO.below hO.size) hA r 0 hr (by omega) _ (by rw [er]; kernel_rfl)) ?_)))))))
  refine Za (.agg #[.int .i64 0, .int .i64 0, .int .i64 0, .int .i64 0, .string ⟨#[]⟩]) (fun b1 => Zs 0 ⟨b1, #[.int .i64 0, .int .i64 0, .int .i64 0, .int .i64 0, .string ⟨#[]⟩], 48⟩ (off := 0) (ndV ⟨3, a, b, 0, []⟩) (ZN (zF (ZO (Zv (.pointer (some ⟨b1, 0, none⟩)) (Zl 0 ⟨b1, (ndV ⟨3, a, b, 0, []⟩).cells, 48⟩ (off := 0) (.int .i64 3) (ZN (zP ?_))))))))
  refine ZO (Zv (.bool false) (Zv (.bool false) (ZX (ZO (Zv (.bool false) (Zv (.bool false) (zK ?_)))))))
  refine z8 (Zf (ZO (Zv (.bool true) (Zv (.bool true) (ZY (zF (xU (by kernel_rfl) (by kernel_rfl) (Zw (.slice A l.length cap) ?_))))))))
  refine Zw (.pointer (some ⟨b1, 1, none⟩)) (Zm 0 ⟨b1, (ndV ⟨3, a, b, 0, []⟩).cells, 48⟩ (off := 1) (.int .i64 (a : Int)) (yQ (.pointer (some ⟨bp, off + a * 5, none⟩)) (by kernel_rfl) (ZA (b := bp) (off := off) (c := cap) (n := l.length) (k := .i64) (j := (a : Int)) (e := 48) (sz := 5) hA) (Zw (.pointer (some ⟨bp, off + a * 5 + 0, none⟩)) (qW (.int .i64 na.op) (a := ⟨bp, off + a * 5 + 0, none⟩) (by kernel_rfl) rfl (by kernel_rfl) (fun w hO => Reads.load yX (hv.on hO.below hO.size) hA a 0 ha (by omega) _ (by rw [ea]; kernel_rfl)) (Zw (.slice A l.length cap) (Zw (.pointer (some ⟨b1, 2, none⟩)) (Zm 0 ⟨b1, (ndV ⟨3, a, b, 0, []⟩).cells, 48⟩ (off := 2) (.int .i64 (b : Int)) (yQ (.pointer (some ⟨bp, off + b * 5, none⟩)) (by kernel_rfl) (ZA (b := bp) (off := off) (c := cap) (n := l.length) (k := .i64) (j := (b : Int)) (e := 48) (sz := 5) hA) (Zw (.pointer (some ⟨bp, off + b * 5 + 0, none⟩)) (qW (.int .i64 nb.op) (a := ⟨bp, off + b * 5 + 0, none⟩) (by kernel_rfl) rfl (by kernel_rfl) (fun w hO => Reads.load yX (hv.on hO.below hO.size) hA b 0 hb (by omega) _ (by rw [eb]; kernel_rfl)) (Zw (.int .i64 na.op) ?_)))))))))))
  refine Zw (.int .i64 nb.op) (yU (z8 (zF (xU (by kernel_rfl) (by kernel_rfl) (Zw (.slice A l.length cap) (Zw (.pointer (some ⟨b1, 1, none⟩)) (Zm 0 ⟨b1, (ndV ⟨3, a, b, 0, []⟩).cells, 48⟩ (off := 1) (.int .i64 (a : Int)) (Zq (k := 74) (args := #[.slice A l.length cap, .int .i64 (a : Int)]) (.string (mkS x.text)) (fun w hO => ha' w (hv.on hO.below hO.size)) (Zw (.int .i64 na.op) ?_)))))))))
  by_cases h1 : (na.op : Int) = 4
  · refine j0 (p := (na.op : Int) = 4) true (by kernel_rfl) (fun _ => by kernel_rfl) (decide_eq_true (h1)) ?_
    refine Zq (k := 84) (args := #[.string (mkS x.text), .bool true]) (.string (mkS (yA true x.text))) (fun w _ => xP x.text true w (by omega)) (yQ (.string (mkS ((yA true x.text) ++ [32, 97, 110, 100, 32]))) (by kernel_rfl) (y9 (a := (yA true x.text)) (b := [32, 97, 110, 100, 32]) rfl (by kernel_rfl) (by kernel_rfl) (by first | omega | (simp only [List.length_append, List.length_cons, List.length_nil]; omega))) (Zw (.slice A l.length cap) (Zw (.pointer (some ⟨b1, 2, none⟩)) (Zm 0 ⟨b1, (ndV ⟨3, a, b, 0, []⟩).cells, 48⟩ (off := 2) (.int .i64 (b : Int)) (Zq (k := 74) (args := #[.slice A l.length cap, .int .i64 (b : Int)]) (.string (mkS y.text)) (fun w hO => hb' w (hv.on hO.below hO.size)) (Zw (.int .i64 nb.op) ?_))))))
    by_cases h2 : (nb.op : Int) = 4
    · refine j0 (p := (nb.op : Int) = 4) true (by kernel_rfl) (fun _ => by kernel_rfl) (decide_eq_true (h2)) ?_
      refine Zw (.bool true) (Zj (Zj (Zw (.bool true) (Zq (k := 84) (args := #[.string (mkS y.text), .bool true]) (.string (mkS (yA true y.text))) (fun w _ => xP y.text true w (by omega)) (yQ (.string (mkS (((yA true x.text) ++ [32, 97, 110, 100, 32]) ++ (yA true y.text)))) (by kernel_rfl) (y9 (a := ((yA true x.text) ++ [32, 97, 110, 100, 32])) (b := (yA true y.text)) rfl (by kernel_rfl) (by kernel_rfl) (by first | omega | (simp only [List.length_append, List.length_cons, List.length_nil]; omega))) (Zw (.string (mkS (((yA true x.text) ++ [32, 97, 110, 100, 32]) ++ (yA true y.text)))) (yU (z8 (zG (zD (z5 ?_)))))))))))
      exact ZF (.string (mkS (((yA true x.text) ++ [32, 97, 110, 100, 32]) ++ (yA true y.text)))) Tryd.results74 (fun w hO => ⟨by rw [j2, show x.isOne = true from by rw [jI, ← hxo]; simp; omega, show y.isBin = true from by rw [jN, ← hyo]; simp; omega], hO.below⟩)
    refine Ze (p := (nb.op : Int) = 4) false (decide_eq_false (h2)) (Zw (.bool false) (Zw (.int .i64 nb.op) ?_))
    by_cases h3 : (nb.op : Int) = 3
    · refine j0 (p := (nb.op : Int) = 3) true (by kernel_rfl) (fun _ => by kernel_rfl) (decide_eq_true (h3)) ?_
      exact Zw (.bool true) (Zq (k := 84) (args := #[.string (mkS y.text), .bool true]) (.string (mkS (yA true y.text))) (fun w _ => xP y.text true w (by omega)) (yQ (.string (mkS (((yA true x.text) ++ [32, 97, 110, 100, 32]) ++ (yA true y.text)))) (by kernel_rfl) (y9 (a := ((yA true x.text) ++ [32, 97, 110, 100, 32])) (b := (yA true y.text)) rfl (by kernel_rfl) (by kernel_rfl) (by first | omega | (simp only [List.length_append, List.length_cons, List.length_nil]; omega))) (Zw (.string (mkS (((yA true x.text) ++ [32, 97, 110, 100, 32]) ++ (yA true y.text)))) (yU (z8 (zG (zD (z5 (ZF (.string (mkS (((yA true x.text) ++ [32, 97, 110, 100, 32]) ++ (yA true y.text)))) Tryd.results74 (fun w hO => ⟨by rw [j2, show x.isOne = true from by rw [jI, ← hxo]; simp; omega, show y.isBin = true from by rw [jN, ← hyo]; simp; omega], hO.below⟩))))))))))
    exact Ze (p := (nb.op : Int) = 3) false (decide_eq_false (h3)) (Zw (.bool false) (Zq (k := 84) (args := #[.string (mkS y.text), .bool false]) (.string (mkS (yA false y.text))) (fun w _ => xP y.text false w (by omega)) (yQ (.string (mkS (((yA true x.text) ++ [32, 97, 110, 100, 32]) ++ (yA false y.text)))) (by kernel_rfl) (y9 (a := ((yA true x.text) ++ [32, 97, 110, 100, 32])) (b := (yA false y.text)) rfl (by kernel_rfl) (by kernel_rfl) (by first | omega | (simp only [List.length_append, List.length_cons, List.length_nil]; omega))) (Zw (.string (mkS (((yA true x.text) ++ [32, 97, 110, 100, 32]) ++ (yA false y.text)))) (yU (z8 (zG (zD (z5 (ZF (.string (mkS (((yA true x.text) ++ [32, 97, 110, 100, 32]) ++ (yA false y.text)))) Tryd.results74 (fun w hO => ⟨by rw [j2, show x.isOne = true from by rw [jI, ← hxo]; simp; omega, show y.isBin = false from by rw [jN, ← hyo]; simp; omega], hO.below⟩)))))))))))
  refine Ze (p := (na.op : Int) = 4) false (decide_eq_false (h1)) (Zq (k := 84) (args := #[.string (mkS x.text), .bool false]) (.string (mkS (yA false x.text))) (fun w _ => xP x.text false w (by omega)) (yQ (.string (mkS ((yA false x.text) ++ [32, 97, 110, 100, 32]))) (by kernel_rfl) (y9 (a := (yA false x.text)) (b := [32, 97, 110, 100, 32]) rfl (by kernel_rfl) (by kernel_rfl) (by first | omega | (simp only [List.length_append, List.length_cons, List.length_nil]; omega))) (Zw (.slice A l.length cap) (Zw (.pointer (some ⟨b1, 2, none⟩)) (Zm 0 ⟨b1, (ndV ⟨3, a, b, 0, []⟩).cells, 48⟩ (off := 2) (.int .i64 (b : Int)) (Zq (k := 74) (args := #[.slice A l.length cap, .int .i64 (b : Int)]) (.string (mkS y.text)) (fun w hO => hb' w (hv.on hO.below hO.size)) (Zw (.int .i64 nb.op) ?_)))))))
  by_cases h4 : (nb.op : Int) = 4
  · refine j0 (p := (nb.op : Int) = 4) true (by kernel_rfl) (fun _ => by kernel_rfl) (decide_eq_true (h4)) ?_
    refine Zw (.bool true) (Zj (Zj (Zw (.bool true) (Zq (k := 84) (args := #[.string (mkS y.text), .bool true]) (.string (mkS (yA true y.text))) (fun w _ => xP y.text true w (by omega)) (yQ (.string (mkS (((yA false x.text) ++ [32, 97, 110, 100, 32]) ++ (yA true y.text)))) (by kernel_rfl) (y9 (a := ((yA false x.text) ++ [32, 97, 110, 100, 32])) (b := (yA true y.text)) rfl (by kernel_rfl) (by kernel_rfl) (by first | omega | (simp only [List.length_append, List.length_cons, List.length_nil]; omega))) (Zw (.string (mkS (((yA false x.text) ++ [32, 97, 110, 100, 32]) ++ (yA true y.text)))) (yU (z8 (zG (zD (z5 ?_)))))))))))
    exact ZF (.string (mkS (((yA false x.text) ++ [32, 97, 110, 100, 32]) ++ (yA true y.text)))) Tryd.results74 (fun w hO => ⟨by rw [j2, show x.isOne = false from by rw [jI, ← hxo]; simp; omega, show y.isBin = true from by rw [jN, ← hyo]; simp; omega], hO.below⟩)
  refine Ze (p := (nb.op : Int) = 4) false (decide_eq_false (h4)) (Zw (.bool false) (Zw (.int .i64 nb.op) ?_))
  by_cases h5 : (nb.op : Int) = 3
  · refine j0 (p := (nb.op : Int) = 3) true (by kernel_rfl) (fun _ => by kernel_rfl) (decide_eq_true (h5)) ?_
    exact Zw (.bool true) (Zq (k := 84) (args := #[.string (mkS y.text), .bool true]) (.string (mkS (yA true y.text))) (fun w _ => xP y.text true w (by omega)) (yQ (.string (mkS (((yA false x.text) ++ [32, 97, 110, 100, 32]) ++ (yA true y.text)))) (by kernel_rfl) (y9 (a := ((yA false x.text) ++ [32, 97, 110, 100, 32])) (b := (yA true y.text)) rfl (by kernel_rfl) (by kernel_rfl) (by first | omega | (simp only [List.length_append, List.length_cons, List.length_nil]; omega))) (Zw (.string (mkS (((yA false x.text) ++ [32, 97, 110, 100, 32]) ++ (yA true y.text)))) (yU (z8 (zG (zD (z5 (ZF (.string (mkS (((yA false x.text) ++ [32, 97, 110, 100, 32]) ++ (yA true y.text)))) Tryd.results74 (fun w hO => ⟨by rw [j2, show x.isOne = false from by rw [jI, ← hxo]; simp; omega, show y.isBin = true from by rw [jN, ← hyo]; simp; omega], hO.below⟩))))))))))
  exact Ze (p := (nb.op : Int) = 3) false (decide_eq_false (h5)) (Zw (.bool false) (Zq (k := 84) (args := #[.string (mkS y.text), .bool false]) (.string (mkS (yA false y.text))) (fun w _ => xP y.text false w (by omega)) (yQ (.string (mkS (((yA false x.text) ++ [32, 97, 110, 100, 32]) ++ (yA false y.text)))) (by kernel_rfl) (y9 (a := ((yA false x.text) ++ [32, 97, 110, 100, 32])) (b := (yA false y.text)) rfl (by kernel_rfl) (by kernel_rfl) (by first | omega | (simp only [List.length_append, List.length_cons, List.length_nil]; omega))) (Zw (.string (mkS (((yA false x.text) ++ [32, 97, 110, 100, 32]) ++ (yA false y.text)))) (yU (z8 (zG (zD (z5 (ZF (.string (mkS (((yA false x.text) ++ [32, 97, 110, 100, 32]) ++ (yA false y.text)))) Tryd.results74 (fun w hO => ⟨by rw [j2, show x.isOne = false from by rw [jI, ← hxo]; simp; omega, show y.isBin = false from by rw [jN, ← hyo]; simp; omega], hO.below⟩)))))))))))
theorem tx_one {A : Option Addr} {cap : Nat} {l : List Nd} (hn : l.length ≤ 1000) {r : Nat} {a b : Nat} {na nb : Nd} {x y : Tr} (hxl : x.text.length ≤ 100000) (hyl : y.text.length ≤ 100000) (hr : l[r]? = some ⟨4, (a : Int), (b : Int), 0, []⟩) (ha : l[a]? = some na) (hb : l[b]? = some nb) (ha' : gV A cap l a x) (hb' : gV A cap l b y) (hxo : na.op = x.opc) (hyo : nb.op = y.opc) : gV A cap l r (.one x y) := fun W hv => by
  obtain ⟨hr, er⟩ := yV hr
  obtain ⟨ha, ea⟩ := yV ha
  obtain ⟨hb, eb⟩ := yV hb
  obtain ⟨bp, off, hA, hlt, hcell⟩ := hv (by omega)
  have hw0 := gK true x.text
  have hw1 := gK false x.text
  have hw2 := gK true y.text
  have hw3 := gK false y.text
  refine zU (n := 102) Tryd.func74 rfl (by kernel_rfl) (by kernel_rfl) (ZO (Zv (.string ⟨#[]⟩) (ZR (Zv (.slice A l.length cap) (Zv (.int .i64 (r : Int)) (zM (.pointer (some ⟨bp, off + r * 5, none⟩)) (by kernel_rfl) (ZA (b := bp) (off := off) (c := cap) (n := l.length) (k := .i64) (j := (r : Int)) (e := 48) (sz := 5) hA) (Zo (ndV ⟨4, a, b, 0, []⟩) (a := ⟨bp, off + r * 5, none⟩) (fun w hO => Reads.load yX (hv.on hO.below hO.size) hA r 0 hr (by omega) _ (by rw [er]; kernel_rfl)) ?_)))))))
  refine Za (.agg #[.int .i64 0, .int .i64 0, .int .i64 0, .int .i64 0, .string ⟨#[]⟩]) (fun b1 => Zs 0 ⟨b1, #[.int .i64 0, .int .i64 0, .int .i64 0, .int .i64 0, .string ⟨#[]⟩], 48⟩ (off := 0) (ndV ⟨4, a, b, 0, []⟩) (ZN (zF (ZO (Zv (.pointer (some ⟨b1, 0, none⟩)) (Zl 0 ⟨b1, (ndV ⟨4, a, b, 0, []⟩).cells, 48⟩ (off := 0) (.int .i64 4) (ZN (zP ?_))))))))
  refine ZO (Zv (.bool false) (Zv (.bool false) (ZX (ZO (Zv (.bool false) (Zv (.bool false) (zK ?_)))))))
  refine z8 (Zf (ZO (Zv (.bool false) (Zv (.bool false) (ZX (x6 (zJ (z8 ?_))))))))
  refine zF (xU (by kernel_rfl) (by kernel_rfl) (Zw (.slice A l.length cap) (Zw (.pointer (some ⟨b1, 1, none⟩)) (Zm 0 ⟨b1, (ndV ⟨4, a, b, 0, []⟩).cells, 48⟩ (off := 1) (.int .i64 (a : Int)) (Zq (k := 74) (args := #[.slice A l.length cap, .int .i64 (a : Int)]) (.string (mkS x.text)) (fun w hO => ha' w (hv.on hO.below hO.size)) (yQ (.string (mkS (x.text ++ [32, 111, 114, 32]))) (by kernel_rfl) (y9 (a := x.text) (b := [32, 111, 114, 32]) rfl (by kernel_rfl) (by kernel_rfl) (by first | omega | (simp only [List.length_append, List.length_cons, List.length_nil]; omega))) (Zw (.slice A l.length cap) (Zw (.pointer (some ⟨b1, 2, none⟩)) (Zm 0 ⟨b1, (ndV ⟨4, a, b, 0, []⟩).cells, 48⟩ (off := 2) (.int .i64 (b : Int)) (Zq (k := 74) (args := #[.slice A l.length cap, .int .i64 (b : Int)]) (.string (mkS y.text)) (fun w hO => hb' w (hv.on hO.below hO.size)) (Zw (.slice A l.length cap) ?_)))))))))))
  refine Zw (.pointer (some ⟨b1, 2, none⟩)) (Zm 0 ⟨b1, (ndV ⟨4, a, b, 0, []⟩).cells, 48⟩ (off := 2) (.int .i64 (b : Int)) (yQ (.pointer (some ⟨bp, off + b * 5, none⟩)) (by kernel_rfl) (ZA (b := bp) (off := off) (c := cap) (n := l.length) (k := .i64) (j := (b : Int)) (e := 48) (sz := 5) hA) (Zw (.pointer (some ⟨bp, off + b * 5 + 0, none⟩)) (qW (.int .i64 nb.op) (a := ⟨bp, off + b * 5 + 0, none⟩) (by kernel_rfl) rfl (by kernel_rfl) (fun w hO => Reads.load yX (hv.on hO.below hO.size) hA b 0 hb (by omega) _ (by rw [eb]; kernel_rfl)) ?_))))
  by_cases h1 : (nb.op : Int) = 4
  · refine j0 (p := (nb.op : Int) = 4) true (by kernel_rfl) (fun _ => by kernel_rfl) (decide_eq_true (h1)) ?_
    exact Zq (k := 84) (args := #[.string (mkS y.text), .bool true]) (.string (mkS (yA true y.text))) (fun w _ => xP y.text true w (by omega)) (yQ (.string (mkS ((x.text ++ [32, 111, 114, 32]) ++ (yA true y.text)))) (by kernel_rfl) (y9 (a := (x.text ++ [32, 111, 114, 32])) (b := (yA true y.text)) rfl (by kernel_rfl) (by kernel_rfl) (by first | omega | (simp only [List.length_append, List.length_cons, List.length_nil]; omega))) (Zw (.string (mkS ((x.text ++ [32, 111, 114, 32]) ++ (yA true y.text)))) (yU (z8 (zG (ZF (.string (mkS ((x.text ++ [32, 111, 114, 32]) ++ (yA true y.text)))) Tryd.results74 (fun w hO => ⟨by rw [tE, show y.isOne = true from by rw [jI, ← hyo]; simp; omega], hO.below⟩)))))))
  exact Ze (p := (nb.op : Int) = 4) false (decide_eq_false (h1)) (Zq (k := 84) (args := #[.string (mkS y.text), .bool false]) (.string (mkS (yA false y.text))) (fun w _ => xP y.text false w (by omega)) (yQ (.string (mkS ((x.text ++ [32, 111, 114, 32]) ++ (yA false y.text)))) (by kernel_rfl) (y9 (a := (x.text ++ [32, 111, 114, 32])) (b := (yA false y.text)) rfl (by kernel_rfl) (by kernel_rfl) (by first | omega | (simp only [List.length_append, List.length_cons, List.length_nil]; omega))) (Zw (.string (mkS ((x.text ++ [32, 111, 114, 32]) ++ (yA false y.text)))) (yU (z8 (zG (ZF (.string (mkS ((x.text ++ [32, 111, 114, 32]) ++ (yA false y.text)))) Tryd.results74 (fun w hO => ⟨by rw [tE, show y.isOne = false from by rw [jI, ← hyo]; simp; omega], hO.below⟩))))))))
def xA (l : List Nd) (o : Nat) (t : Tr) : Prop := ∀ i x, (t.enc o)[i]? = some x → l[o + i]? = some x
theorem yL {l : List Nd} {o : Nat} {p q : List Nd} (h : ∀ i x, (p ++ q)[i]? = some x → l[o + i]? = some x) : ∀ i x, p[i]? = some x → l[o + i]? = some x := fun i x hi => h i x (by rw [List.getElem?_append_left (List.getElem?_eq_some_iff.1 hi).1]; exact hi)
theorem yD {l : List Nd} {o k : Nat} {p q : List Nd} (hk : p.length = k) (h : ∀ i x, (p ++ q)[i]? = some x → l[o + i]? = some x) : ∀ i x, q[i]? = some x → l[o + k + i]? = some x := fun i x hi => by
  have := h (k + i) x (by rw [List.getElem?_append_right (by omega), hk, Nat.add_sub_cancel_left]; exact hi)
  rw [← Nat.add_assoc] at this; exact this
theorem root_op : ∀ (t : Tr) (o : Nat), ∃ n, (t.enc o)[t.sz - 1]? = some n ∧ n.op = t.opc
  | .is k v, o => ⟨_, rfl, rfl⟩
  | .no x, o => ⟨⟨2, ((o + x.sz - 1 : Nat) : Int), 0, 0, []⟩, by rw [Tr.enc, List.getElem?_append_right (by rw [Tr.enc_len]; show x.sz ≤ x.sz + 1 - 1; omega), Tr.enc_len]; show [_][x.sz + 1 - 1 - x.sz]? = _; rw [show x.sz + 1 - 1 - x.sz = 0 by omega]; rfl, rfl⟩
  | .both x y, o => ⟨⟨3, ((o + x.sz - 1 : Nat) : Int), ((o + x.sz + y.sz - 1 : Nat) : Int), 0, []⟩, by rw [Tr.enc, List.getElem?_append_right (by rw [List.length_append, Tr.enc_len, Tr.enc_len]; show x.sz + y.sz ≤ x.sz + y.sz + 1 - 1; omega), List.length_append, Tr.enc_len, Tr.enc_len]; show [_][x.sz + y.sz + 1 - 1 - (x.sz + y.sz)]? = _; rw [show x.sz + y.sz + 1 - 1 - (x.sz + y.sz) = 0 by omega]; rfl, rfl⟩
  | .one x y, o => ⟨⟨4, ((o + x.sz - 1 : Nat) : Int), ((o + x.sz + y.sz - 1 : Nat) : Int), 0, []⟩, by rw [Tr.enc, List.getElem?_append_right (by rw [List.length_append, Tr.enc_len, Tr.enc_len]; show x.sz + y.sz ≤ x.sz + y.sz + 1 - 1; omega), List.length_append, Tr.enc_len, Tr.enc_len]; show [_][x.sz + y.sz + 1 - 1 - (x.sz + y.sz)]? = _; rw [show x.sz + y.sz + 1 - 1 - (x.sz + y.sz) = 0 by omega]; rfl, rfl⟩
theorem kD {l : List Nd} {o : Nat} {t : Tr} (h : xA l o t) : ∃ n, l[o + t.sz - 1]? = some n ∧ n.op = t.opc := by
  obtain ⟨n, h1, h2⟩ := root_op t o
  have hz := t.sz_pos
  have := h _ _ h1
  rw [← Nat.add_sub_assoc (by omega)] at this
  exact ⟨n, this, h2⟩
theorem vA {t : Tr} (h : t.ok = true) (hs : t.sz ≤ 1000) : t.text.length ≤ 100000 := by have := bD t h; have := t.text_w; omega
theorem wF {v : List UInt8} (h : wdL v = true) : v.length ≤ 12 := by unfold wdL at h; simp only [Bool.and_eq_true, decide_eq_true_eq] at h; omega
theorem qP {A : Option Addr} {cap : Nat} {l : List Nd} (hn : l.length ≤ 1000) : ∀ (t : Tr) (o : Nat), t.ok = true → xA l o t → t.sz ≤ 1000 → gV A cap l (o + t.sz - 1) t
  | .is k v, o, h, hs, _ => by
    unfold Tr.ok at h
    simp only [Bool.and_eq_true, decide_eq_true_eq] at h
    exact tx_is hn h.1 (by have := wF h.2; omega) (hs 0 _ rfl)
  | .no x, o, h, hs, hz => by
    have hx : x.ok = true := h
    have hzx : x.sz + 1 ≤ 1000 := hz
    have hxz := x.sz_pos
    have hs1 : xA l o x := yL hs
    have hr := yD (k := x.sz) (Tr.enc_len x o) hs 0 _ rfl
    have ih := qP (A := A) (cap := cap) hn x o hx hs1 (by omega)
    obtain ⟨na, hna, hop⟩ := kD hs1
    rw [Nat.add_zero] at hr
    have goal : gV A cap l (o + x.sz) (.no x) := by
      by_cases hi : ∃ k v, x = .is k v
      · obtain ⟨k, v, rfl⟩ := hi
        unfold Tr.ok at hx
        simp only [Bool.and_eq_true, decide_eq_true_eq] at hx
        exact tx_no_is hn hx.1 (by have := wF hx.2; omega) hr (hs1 0 _ rfl)
      · refine tx_no hn (fun k v q => hi ⟨k, v, q⟩) (vA hx (by omega)) hr hna ih hop ?_ ?_
        · rw [hop]; cases x <;> first | exact absurd ⟨_, _, rfl⟩ hi | (intro q; cases q)
        · rw [hop]; exact opc_14 x
    show gV A cap l (o + (x.sz + 1) - 1) _
    rw [show o + (x.sz + 1) - 1 = o + x.sz by omega]; exact goal
  | .both x y, o, h, hs, hz => by
    unfold Tr.ok at h
    rw [Bool.and_eq_true] at h
    have hzx : x.sz + y.sz + 1 ≤ 1000 := hz
    have hs0 : ∀ i u, (x.enc o ++ y.enc (o + x.sz))[i]? = some u → l[o + i]? = some u := yL hs
    have hs1 : xA l o x := yL hs0
    have hs2 : xA l (o + x.sz) y := yD (Tr.enc_len x o) hs0
    have hr := yD (k := x.sz + y.sz) (by rw [List.length_append, Tr.enc_len, Tr.enc_len]) hs 0 _ rfl
    obtain ⟨na, hna, hop⟩ := kD hs1
    obtain ⟨nb, hnb, hopb⟩ := kD hs2
    have goal : gV A cap l (o + (x.sz + y.sz) + 0) (.both x y) := tx_both hn (vA h.1 (by omega)) (vA h.2 (by omega)) hr hna hnb (qP hn x o h.1 hs1 (by omega)) (qP hn y (o + x.sz) h.2 hs2 (by omega)) hop hopb
    show gV A cap l (o + (x.sz + y.sz + 1) - 1) _
    rw [show o + (x.sz + y.sz + 1) - 1 = o + (x.sz + y.sz) + 0 by omega]; exact goal
  | .one x y, o, h, hs, hz => by
    unfold Tr.ok at h
    rw [Bool.and_eq_true] at h
    have hzx : x.sz + y.sz + 1 ≤ 1000 := hz
    have hs0 : ∀ i u, (x.enc o ++ y.enc (o + x.sz))[i]? = some u → l[o + i]? = some u := yL hs
    have hs1 : xA l o x := yL hs0
    have hs2 : xA l (o + x.sz) y := yD (Tr.enc_len x o) hs0
    have hr := yD (k := x.sz + y.sz) (by rw [List.length_append, Tr.enc_len, Tr.enc_len]) hs 0 _ rfl
    obtain ⟨na, hna, hop⟩ := kD hs1
    obtain ⟨nb, hnb, hopb⟩ := kD hs2
    have goal : gV A cap l (o + (x.sz + y.sz) + 0) (.one x y) := tx_one hn (vA h.1 (by omega)) (vA h.2 (by omega)) hr hna hnb (qP hn x o h.1 hs1 (by omega)) (qP hn y (o + x.sz) h.2 hs2 (by omega)) hop hopb
    show gV A cap l (o + (x.sz + y.sz + 1) - 1) _
    rw [show o + (x.sz + y.sz + 1) - 1 = o + (x.sz + y.sz) + 0 by omega]; exact goal
theorem hX {l : List Nd} (h : qO l = true) : l = [] ∨ ∃ t : Tr, t.ok = true ∧ l = t.enc 0 := by
  unfold qO at h
  cases hr : gA 0 [] l with
  | none => rw [hr] at h; cases h
  | some s =>
    rw [hr] at h
    simp only [Bool.or_eq_true, decide_eq_true_eq] at h
    rcases h with h | h
    · exact .inl h
    · match s, h, hr with
      | [p], _, hr =>
        obtain ⟨l0, hl0, hok, _, e⟩ := mQ l [] [] [p] rfl hr
        have : l0 = [] := hl0
        subst this
        exact .inr ⟨p.2, hok, e⟩
theorem treeB_enc {t : Tr} (h : t.ok = true) : qO (t.enc 0) = true := by unfold qO; rw [wH t 0 [] h]; simp
theorem gS (t : Tr) : xA (t.enc 0) 0 t := fun i x h => by rw [Nat.zero_add]; exact h
def vX (l : List Nd) : List UInt8 := match gN l with | some t => t.text | none => []
theorem mF {t : Tr} (h : t.ok = true) : vX (t.enc 0) = t.text := by unfold vX; rw [g8 h]
theorem fB (l : List Nd) : kB l = (decide (l.length ≤ 15) && (qO l && decide ((vX l).length ≤ 96))) := by
  cases h : qO l with
  | false =>
    cases hm : kB l with
    | false => simp
    | true =>
      rcases kG hm with rfl | ⟨t, hok, rfl, _, _⟩
      · cases h
      · rw [treeB_enc hok] at h; cases h
  | true =>
    rcases hX h with rfl | ⟨t, hok, rfl⟩
    · rfl
    · rw [fC hok, mF hok, Tr.enc_len]; simp
theorem pP (A : Option Addr) (cap : Nat) (l : List Nd) (W : World) (hv : Reads nC W W.heap.size A l) (hn : l.length ≤ 1000) (ht : qO l = true) : Calls Tryd.prog 52 #[.slice A l.length cap] W fun e w' => e = .returned (.string (mkS (vX l))) ∧ Below W.heap.size W w' := by
  refine zU (n := 11) Tryd.func52 rfl (by kernel_rfl) (by kernel_rfl) (ZO (Zv (.string ⟨#[]⟩) (ZN (zF (ZO (Zv (.slice A l.length cap) (Zv (.int .i64 (l.length : Int)) ?_)))))))
  by_cases h1 : (l.length : Int) = 0
  · have hl0 : l = [] := List.eq_nil_of_length_eq_zero (by omega)
    refine Zd (p := (l.length : Int) = 0) true (decide_eq_true (h1)) (ZY (ZO (Zv (.string ⟨#[]⟩) (ZN (zG (z5 (ZF (.string ⟨#[]⟩) Tryd.results52 ?_)))))))
    exact fun w hO => ⟨by rw [show vX l = [] from by rw [hl0]; rfl]; rfl, hO.below⟩
  obtain ⟨t, hok, hl⟩ := (hX ht).resolve_left (fun q => h1 (by rw [q]; rfl))
  have hlen : l.length = t.sz := by rw [hl, Tr.enc_len]
  have hpos := t.sz_pos
  refine Zd (p := (l.length : Int) = 0) false (decide_eq_false (h1)) (ZX (ZB (ZO (Zv (.slice A l.length cap) (Zv (.slice A l.length cap) (Zv (.int .i64 (l.length : Int)) (Zu (k := .i64) ((l.length : Int) - 1) (IntWalk.i64_in _ (by omega)) ?_)))))))
  exact Zc (k := 74) (args := #[.slice A l.length cap, .int .i64 ((l.length : Int) - 1)]) (.string (mkS t.text)) (fun w hO => by have q := qP (A := A) (cap := cap) hn t 0 hok (hl ▸ gS t) (by omega) w (hv.on hO.below hO.size); rw [show ((0 + t.sz - 1 : Nat) : Int) = (l.length : Int) - 1 by omega] at q; exact q) (Zv (.string (mkS t.text)) (ZN (zG (ZF (.string (mkS t.text)) Tryd.results52 (fun w hO => ⟨by rw [show vX l = t.text from by rw [hl, mF hok]], hO.below⟩)))))
theorem mT (A : Option Addr) (cap : Nat) (l : List Nd) (W : World) (hv : Reads nC W W.heap.size A l) (hn : l.length ≤ 1000) (ht : ∀ n ∈ l, n.text.length ≤ 1000000) : Calls Tryd.prog 30 #[.agg #[.slice A l.length cap]] W fun e w' => e = .returned (.bool (kB l)) ∧ Below W.heap.size W w' := by
  have hsz := k0 (vX l)
  refine zU (n := 19) Tryd.func30 rfl (by kernel_rfl) (by kernel_rfl) (ZO (Zb (.agg #[.slice A l.length cap]) (fun b1 => Zv (.bool false) (ZR (Zv (.pointer (some ⟨b1, 0, none⟩)) (Zl 0 ⟨b1, #[.slice A l.length cap], 25⟩ (off := 0) (.slice A l.length cap) (Zv (.int .i64 (l.length : Int)) ?_)))))))
  by_cases h1 : (l.length : Int) ≤ 15
  · refine x8 (p := (l.length : Int) ≤ 15) true (by kernel_rfl) (fun _ => by kernel_rfl) (decide_eq_true (h1)) ?_
    refine Zv (.bool true) (Zv (.pointer (some ⟨b1, 0, none⟩)) (Zl 0 ⟨b1, #[.slice A l.length cap], 25⟩ (off := 0) (.slice A l.length cap) (Zc (k := 51) (args := #[.slice A l.length cap]) (.bool (qO l)) (fun w hO => tQ A cap l w (hv.on hO.below hO.size) hn ht) (Zv (.bool (qO l)) (Zv (.bool (qO l)) ?_)))))
    cases h2 : qO l with
    | true =>
      refine Zv (.pointer (some ⟨b1, 0, none⟩)) (Zl 0 ⟨b1, #[.slice A l.length cap], 25⟩ (off := 0) (.slice A l.length cap) (Zc (k := 52) (args := #[.slice A l.length cap]) (.string (mkS (vX l))) (fun w hO => pP A cap l w (hv.on hO.below hO.size) hn h2) (Zv (.int .i64 ((mkS (vX l)).size)) ?_)))
      by_cases h3 : ((mkS (vX l)).size : Int) ≤ 96
      · refine x8 (p := ((mkS (vX l)).size : Int) ≤ 96) true (by kernel_rfl) (fun _ => by kernel_rfl) (decide_eq_true (h3)) ?_
        exact Zv (.bool true) (Zv (.bool true) (ZN (zG (ZF (.bool true) Tryd.results30 (fun w hO => ⟨by rw [fB]; simp [h1, h2, h3, k0]; try omega, hO.below⟩)))))
      exact Zd (p := ((mkS (vX l)).size : Int) ≤ 96) false (decide_eq_false (h3)) (Zv (.bool false) (Zv (.bool false) (ZN (zG (ZF (.bool false) Tryd.results30 (fun w hO => ⟨by rw [fB]; simp [h1, h2, h3, k0]; try omega, hO.below⟩))))))
    | false =>
      exact Zk (Zk (Zk (Zk (Zk (Zv (.bool false) (Zv (.bool false) (ZN (zG (ZF (.bool false) Tryd.results30 (fun w hO => ⟨by rw [fB]; simp [h1, h2, k0]; try omega, hO.below⟩))))))))))
  refine Zd (p := (l.length : Int) ≤ 15) false (decide_eq_false (h1)) (Zv (.bool false) (Zk (Zk (Zk (Zv (.bool false) (Zv (.bool false) (Zk (Zk (Zk (Zk (Zk ?_)))))))))))
  exact Zv (.bool false) (Zv (.bool false) (ZN (zG (ZF (.bool false) Tryd.results30 (fun w hO => ⟨by rw [fB]; simp [h1, k0]; try omega, hO.below⟩)))))
end
section
set_option linter.unnecessarySimpa false
def g6 (e : Pf) (n : Nd) (vs : List Int) : Int :=
  if n.op = 1 then (if e n.key.toNat = [] then 1 else if e n.key.toNat = n.text then 2 else 0)
  else if n.op = 2 then 2 - vs.getD n.a.toNat 0
  else if n.op = 3 then min (vs.getD n.a.toNat 0) (vs.getD n.b.toNat 0) else max (vs.getD n.a.toNat 0) (vs.getD n.b.toNat 0)
structure NdOk (n : Nd) (m : Nat) : Prop where
  is : n.op = 1 → 0 ≤ n.key ∧ n.key < 3
  a : n.op ≠ 1 → 0 ≤ n.a ∧ n.a < m
  b : n.op ≠ 1 → n.op ≠ 2 → 0 ≤ n.b ∧ n.b < m
theorem mJ (e : Pf) (n : Nd) (vs : List Int) (h1 : ¬ n.op = 1) (h2 : ¬ n.op = 2) (h3 : ¬ n.op = 3) : g6 e n vs = max (vs.getD n.a.toNat 0) (vs.getD n.b.toNat 0) := by unfold g6; rw [if_neg h1, if_neg h2, if_neg h3]
theorem mI (e : Pf) (n : Nd) (vs : List Int) (h3 : n.op = 3) : g6 e n vs = min (vs.getD n.a.toNat 0) (vs.getD n.b.toNat 0) := by unfold g6; rw [if_neg (by omega), if_neg (by omega), if_pos h3]
theorem mH (e : Pf) (n : Nd) (vs : List Int) (h2 : n.op = 2) : g6 e n vs = 2 - vs.getD n.a.toNat 0 := by unfold g6; rw [if_neg (by omega), if_pos h2]
theorem dQ (e : Pf) (n : Nd) (vs : List Int) (h1 : n.op = 1) : g6 e n vs = if e n.key.toNat = [] then 1 else if e n.key.toNat = n.text then 2 else 0 := by unfold g6; rw [if_pos h1]
theorem m8 {l : List Int} {z : Int} (h0 : 0 ≤ z) (h1 : z < l.length) : ∃ (k : Nat) (hk : k < l.length), z = (k : Int) ∧ z.toNat = k ∧ l[k] = l.getD k 0 := ⟨z.toNat, by omega, by omega, rfl, by rw [List.getD_eq_getElem?_getD, List.getElem?_eq_getElem (by omega)]; rfl⟩
theorem pQ (A : Option Addr) (cap : Nat) (e : Pf) (n : Nd) (vs : List Int) (W : World) (hv : Reads zC W W.heap.size A vs) (hn : vs.length ≤ 1000) (hr : ∀ z ∈ vs, 0 ≤ z ∧ z ≤ 2) (he : PfS e) (ho : NdOk n vs.length) : Calls Tryd.prog 60 #[ndV n, .slice A vs.length cap, pfV e] W fun x w' => x = .returned (.int .i64 (g6 e n vs)) ∧ Below W.heap.size W w' := by
  have hgd : ∀ k, 0 ≤ vs.getD k 0 ∧ vs.getD k 0 ≤ 2 := fun k => by
    rw [List.getD_eq_getElem?_getD]
    cases h : vs[k]? with
    | none => exact ⟨by decide, by decide⟩
    | some z => exact hr z (List.mem_of_getElem? h)
  refine zU (n := 54) Tryd.func60 rfl (by kernel_rfl) (by kernel_rfl) (ZO (Zb (ndV n) (fun b1 => Zb (pfV e) (fun b2 => Zv (.int .i64 0) (ZN (zF (ZO (Zv (.pointer (some ⟨b1, 0, none⟩)) ?_))))))))
  refine Zl 1 ⟨b1, (ndV n).cells, 48⟩ (off := 0) (.int .i64 n.op) (ZN (zP (zF (z7 ?_))))
  by_cases h1 : (n.op : Int) = 1
  · obtain ⟨k, hk⟩ : ∃ k : Nat, n.key = (k : Int) := ⟨n.key.toNat, by have := (ho.is h1).1; omega⟩
    have hk3 : k < 3 := by have := (ho.is h1).2; omega
    have hek := he.at hk3
    refine Zd (p := (n.op : Int) = 1) true (decide_eq_true (h1)) (Zv (.bool true) (ZY (zF (ZO (Zv (.pointer (some ⟨b1, 3, none⟩)) (Zl 1 ⟨b1, (ndV n).cells, 48⟩ (off := 3) (.int .i64 n.key) (Zv (.pointer (some ⟨b2, 0, none⟩)) (zM (.pointer (some ⟨b2, k, none⟩)) (by kernel_rfl) (xK (b := b2) (off := 0) (k := .i64) (j := n.key) (n := 3) (e := 9) (sz := 1) rfl (by kernel_rfl) (by kernel_rfl) (by kernel_rfl) (by kernel_rfl) (by omega) (by omega) (by omega)) ?_))))))))
    refine qH 0 ⟨b2, (pfV e).cells, 33⟩ (off := k) (.string (mkS (e k))) (by kernel_rfl) rfl (by kernel_rfl) (by kernel_rfl) (wW e k hk3) (ZN (zP (zF (z7 ?_))))
    by_cases h2 : ((e k) : List UInt8) = []
    · refine zM (.bool true) (by kernel_rfl) (zV (a := (e k)) (b := ([])) rfl (by kernel_rfl) (by kernel_rfl) (decide_eq_true (h2))) ?_
      refine Zv (.bool true) (ZY (ZO (Zv (.int .i64 1) (ZN (zG (zD (z5 ?_)))))))
      exact zD (z5 (ZF (.int .i64 1) Tryd.results60 (fun w hO => ⟨by rw [dQ e n vs h1, show n.key.toNat = k by omega, if_pos h2], hO.below⟩)))
    refine zM (.bool false) (by kernel_rfl) (zV (a := (e k)) (b := ([])) rfl (by kernel_rfl) (by kernel_rfl) (decide_eq_false (h2))) (Zv (.bool false) (ZX (ZO (Zv (.pointer (some ⟨b1, 4, none⟩)) (Zl 1 ⟨b1, (ndV n).cells, 48⟩ (off := 4) (.string (mkS n.text)) ?_)))))
    by_cases h3 : ((e k) : List UInt8) = n.text
    · refine zM (.bool true) (by kernel_rfl) (zV (a := (e k)) (b := n.text) rfl (by kernel_rfl) (by kernel_rfl) (decide_eq_true (h3))) ?_
      refine Zv (.bool true) (ZY (ZO (Zv (.int .i64 2) (ZN (zG (zD (z5 ?_)))))))
      exact zD (z5 (ZF (.int .i64 2) Tryd.results60 (fun w hO => ⟨by rw [dQ e n vs h1, show n.key.toNat = k by omega, if_neg h2, if_pos h3], hO.below⟩)))
    refine zM (.bool false) (by kernel_rfl) (zV (a := (e k)) (b := n.text) rfl (by kernel_rfl) (by kernel_rfl) (decide_eq_false (h3))) (Zv (.bool false) (ZX (x6 (zJ (z8 (ZO (Zv (.int .i64 0) (zK ?_))))))))
    exact z8 (zG (zD (z5 (ZF (.int .i64 0) Tryd.results60 (fun w hO => ⟨by rw [dQ e n vs h1, show n.key.toNat = k by omega, if_neg h2, if_neg h3], hO.below⟩)))))
  obtain ⟨ka, hka, ea, ean, eav⟩ := m8 (ho.a h1).1 (ho.a h1).2
  obtain ⟨bp, off, hA, hlt, hcell⟩ := hv (by omega)
  have hga := hgd ka
  refine Zd (p := (n.op : Int) = 1) false (decide_eq_false (h1)) (Zv (.bool false) (ZX (zF (z7 ?_))))
  by_cases h4 : (n.op : Int) = 2
  · refine x8 (p := (n.op : Int) = 2) true (by kernel_rfl) (fun _ => by kernel_rfl) (decide_eq_true (h4)) ?_
    refine Zv (.bool true) (ZY (ZO (Zv (.slice A vs.length cap) (Zv (.pointer (some ⟨b1, 1, none⟩)) (Zl 1 ⟨b1, (ndV n).cells, 48⟩ (off := 1) (.int .i64 n.a) (zM (.pointer (some ⟨bp, off + ka * 1, none⟩)) (by kernel_rfl) (ZA (b := bp) (off := off) (c := cap) (n := vs.length) (k := .i64) (j := n.a) (e := 3) (sz := 1) hA) (Zo (.int .i64 (vs.getD ka 0)) (a := ⟨bp, off + ka * 1, none⟩) (fun w hO => Reads.load x7 (hv.on hO.below hO.size) hA ka 0 hka (by omega) _ (by rw [eav]; kernel_rfl)) (Zu (k := .i64) (2 - vs.getD ka 0) (IntWalk.i64_in _ (by omega)) ?_))))))))
    exact Zv (.int .i64 (2 - vs.getD ka 0)) (ZN (zG (zD (z5 (ZF (.int .i64 (2 - vs.getD ka 0)) Tryd.results60 (fun w hO => ⟨by rw [mH e n vs h4, ean], hO.below⟩))))))
  obtain ⟨kb, hkb, eb, ebn, ebv⟩ := m8 (ho.b h1 h4).1 (ho.b h1 h4).2
  refine Zd (p := (n.op : Int) = 2) false (decide_eq_false (h4)) (Zv (.bool false) (ZX (zF (z7 ?_))))
  by_cases h5 : (n.op : Int) = 3
  · refine x8 (p := (n.op : Int) = 3) true (by kernel_rfl) (fun _ => by kernel_rfl) (decide_eq_true (h5)) ?_
    refine Zv (.bool true) (ZY (zF (xU (by kernel_rfl) (by kernel_rfl) (Zw (.slice A vs.length cap) (Zw (.pointer (some ⟨b1, 1, none⟩)) (Zm 1 ⟨b1, (ndV n).cells, 48⟩ (off := 1) (.int .i64 n.a) (yQ (.pointer (some ⟨bp, off + ka * 1, none⟩)) (by kernel_rfl) (ZA (b := bp) (off := off) (c := cap) (n := vs.length) (k := .i64) (j := n.a) (e := 3) (sz := 1) hA) (qW (.int .i64 (vs.getD ka 0)) (a := ⟨bp, off + ka * 1, none⟩) (by kernel_rfl) rfl (by kernel_rfl) (fun w hO => Reads.load x7 (hv.on hO.below hO.size) hA ka 0 hka (by omega) _ (by rw [eav]; kernel_rfl)) (Zw (.slice A vs.length cap) ?_)))))))))
    refine Zw (.pointer (some ⟨b1, 2, none⟩)) (Zm 1 ⟨b1, (ndV n).cells, 48⟩ (off := 2) (.int .i64 n.b) (yQ (.pointer (some ⟨bp, off + kb * 1, none⟩)) (by kernel_rfl) (ZA (b := bp) (off := off) (c := cap) (n := vs.length) (k := .i64) (j := n.b) (e := 3) (sz := 1) hA) (qW (.int .i64 (vs.getD kb 0)) (a := ⟨bp, off + kb * 1, none⟩) (by kernel_rfl) rfl (by kernel_rfl) (fun w hO => Reads.load x7 (hv.on hO.below hO.size) hA kb 0 hkb (by omega) _ (by rw [ebv]; kernel_rfl)) (yQ (.int .i64 (min (vs.getD ka 0) (vs.getD kb 0 : Int))) (by kernel_rfl) (mP (k := .i64) (q := .i64) (i := vs.getD ka 0) (j := vs.getD kb 0) rfl (by kernel_rfl) (by kernel_rfl)) (Zw (.int .i64 (min (vs.getD ka 0) (vs.getD kb 0 : Int))) (yU (z8 (zG (zD (z5 (ZF (.int .i64 (min (vs.getD ka 0) (vs.getD kb 0 : Int))) Tryd.results60 ?_)))))))))))
    exact fun w hO => ⟨by rw [mI e n vs h5, ean, ebn], hO.below⟩
  refine Zd (p := (n.op : Int) = 3) false (decide_eq_false (h5)) (Zv (.bool false) (ZX (x6 (zJ (z8 (zF (xU (by kernel_rfl) (by kernel_rfl) (Zw (.slice A vs.length cap) (Zw (.pointer (some ⟨b1, 1, none⟩)) ?_)))))))))
  refine Zm 1 ⟨b1, (ndV n).cells, 48⟩ (off := 1) (.int .i64 n.a) (yQ (.pointer (some ⟨bp, off + ka * 1, none⟩)) (by kernel_rfl) (ZA (b := bp) (off := off) (c := cap) (n := vs.length) (k := .i64) (j := n.a) (e := 3) (sz := 1) hA) (qW (.int .i64 (vs.getD ka 0)) (a := ⟨bp, off + ka * 1, none⟩) (by kernel_rfl) rfl (by kernel_rfl) (fun w hO => Reads.load x7 (hv.on hO.below hO.size) hA ka 0 hka (by omega) _ (by rw [eav]; kernel_rfl)) (Zw (.slice A vs.length cap) (Zw (.pointer (some ⟨b1, 2, none⟩)) (Zm 1 ⟨b1, (ndV n).cells, 48⟩ (off := 2) (.int .i64 n.b) (yQ (.pointer (some ⟨bp, off + kb * 1, none⟩)) (by kernel_rfl) (ZA (b := bp) (off := off) (c := cap) (n := vs.length) (k := .i64) (j := n.b) (e := 3) (sz := 1) hA) (qW (.int .i64 (vs.getD kb 0)) (a := ⟨bp, off + kb * 1, none⟩) (by kernel_rfl) rfl (by kernel_rfl) (fun w hO => Reads.load x7 (hv.on hO.below hO.size) hA kb 0 hkb (by omega) _ (by rw [ebv]; kernel_rfl)) (yQ (.int .i64 (max (vs.getD ka 0) (vs.getD kb 0))) (by kernel_rfl) (tL (k := .i64) (q := .i64) (i := vs.getD ka 0) (j := vs.getD kb 0) rfl (by kernel_rfl) (by kernel_rfl)) (Zw (.int .i64 (max (vs.getD ka 0) (vs.getD kb 0))) (yU (z8 ?_)))))))))))
  exact zG (ZF (.int .i64 (max (vs.getD ka 0) (vs.getD kb 0))) Tryd.results60 (fun w hO => ⟨by rw [mJ e n vs h1 h4 h5, ean, ebn], hO.below⟩))
theorem jB (e : Pf) : ∀ (t : Tr) (o : Nat) (pre : List Int), t.ok = true → pre.length = o → ∀ i n, (t.enc o)[i]? = some n → NdOk n (o + i) ∧ (vlT e t)[i]? = some (g6 e n (pre ++ (vlT e t).take i))
  | .is k v, o, pre, h, hp, i, n, hn => by
    unfold Tr.ok at h
    simp only [Bool.and_eq_true, decide_eq_true_eq] at h
    match i, hn with
    | 0, hn =>
      obtain rfl := Option.some.inj hn
      refine ⟨⟨fun _ => ⟨by show (0 : Int) ≤ (k : Int); omega, by show (k : Int) < 3; omega⟩, fun q => absurd rfl q, fun q => absurd rfl q⟩, ?_⟩
      rw [dQ _ _ _ rfl]
      show some (evT e (.is k v)) = _
      unfold evT; rfl
    | i + 1, hn => cases hn
  | .no x, o, pre, h, hp, i, n, hn => by
    have hx : x.ok = true := h
    have hxz := x.sz_pos
    by_cases hi : i < x.sz
    · rw [Tr.enc, List.getElem?_append_left (by rw [Tr.enc_len]; exact hi)] at hn
      have := jB e x o pre hx hp i n hn
      refine ⟨this.1, ?_⟩
      rw [vlT, List.getElem?_append_left (by rw [zQ]; exact hi), List.take_append_of_le_length (by rw [zQ]; omega)]
      exact this.2
    · rw [Tr.enc, List.getElem?_append_right (by rw [Tr.enc_len]; omega), Tr.enc_len] at hn
      obtain rfl : i = x.sz := by
        have := (List.getElem?_eq_some_iff.1 hn).1
        simp at this; omega
      rw [Nat.sub_self] at hn
      obtain rfl := Option.some.inj hn
      refine ⟨⟨fun q => (by cases q), fun _ => ⟨by show (0 : Int) ≤ ((o + x.sz - 1 : Nat) : Int); omega, by show ((o + x.sz - 1 : Nat) : Int) < _; omega⟩, fun _ q => absurd rfl q⟩, ?_⟩
      rw [mH _ _ _ rfl, vlT, List.getElem?_append_right (by rw [zQ]; exact Nat.le_refl _), zQ, Nat.sub_self, List.take_append_of_le_length (by rw [zQ]; exact Nat.le_refl _), List.take_of_length_le (by rw [zQ]; exact Nat.le_refl _)]
      show some (evT e (.no x)) = _
      rw [show (((o + x.sz - 1 : Nat) : Int)).toNat = o + (x.sz - 1) by omega, List.getD_eq_getElem?_getD, List.getElem?_append_right (by omega), hp, Nat.add_sub_cancel_left, vN]
      rfl
  | .both x y, o, pre, h, hp, i, n, hn => by
    unfold Tr.ok at h
    rw [Bool.and_eq_true] at h
    have hxz := x.sz_pos
    have hyz := y.sz_pos
    by_cases hi : i < x.sz
    · rw [Tr.enc, List.append_assoc, List.getElem?_append_left (by rw [Tr.enc_len]; exact hi)] at hn
      have := jB e x o pre h.1 hp i n hn
      refine ⟨this.1, ?_⟩
      rw [vlT, List.append_assoc, List.getElem?_append_left (by rw [zQ]; exact hi), List.take_append_of_le_length (by rw [zQ]; omega)]
      exact this.2
    · by_cases hj : i < x.sz + y.sz
      · rw [Tr.enc, List.getElem?_append_left (by rw [List.length_append, Tr.enc_len, Tr.enc_len]; exact hj), List.getElem?_append_right (by rw [Tr.enc_len]; omega), Tr.enc_len] at hn
        have := jB e y (o + x.sz) (pre ++ vlT e x) h.2 (by rw [List.length_append, zQ]; omega) (i - x.sz) n hn
        refine ⟨by have q := this.1; rw [show o + x.sz + (i - x.sz) = o + i by omega] at q; exact q, ?_⟩
        rw [vlT, List.getElem?_append_left (by rw [List.length_append, zQ, zQ]; exact hj), List.getElem?_append_right (by rw [zQ]; omega), zQ, this.2]
        rw [List.take_append_of_le_length (by rw [List.length_append, zQ, zQ]; omega), List.take_append, zQ, List.take_of_length_le (l := vlT e x) (by rw [zQ]; omega), List.append_assoc]
      · rw [Tr.enc, List.getElem?_append_right (by rw [List.length_append, Tr.enc_len, Tr.enc_len]; omega), List.length_append, Tr.enc_len, Tr.enc_len] at hn
        obtain rfl : i = x.sz + y.sz := by
          have := (List.getElem?_eq_some_iff.1 hn).1
          simp at this; omega
        rw [Nat.sub_self] at hn
        obtain rfl := Option.some.inj hn
        refine ⟨⟨fun q => (by cases q), fun _ => ⟨by show (0 : Int) ≤ ((o + x.sz - 1 : Nat) : Int); omega, by show ((o + x.sz - 1 : Nat) : Int) < _; omega⟩, fun _ _ => ⟨by show (0 : Int) ≤ ((o + x.sz + y.sz - 1 : Nat) : Int); omega, by show ((o + x.sz + y.sz - 1 : Nat) : Int) < _; omega⟩⟩, ?_⟩
        have hvl : (vlT e x ++ vlT e y).length = x.sz + y.sz := by rw [List.length_append, zQ, zQ]
        rw [mI _ _ _ rfl, vlT, List.getElem?_append_right (by rw [hvl]; exact Nat.le_refl _), hvl, Nat.sub_self, List.take_append_of_le_length (by rw [hvl]; exact Nat.le_refl _), List.take_of_length_le (by rw [hvl]; exact Nat.le_refl _)]
        show some (evT e (.both x y)) = _
        rw [show (((o + x.sz - 1 : Nat) : Int)).toNat = o + (x.sz - 1) by omega, show (((o + x.sz + y.sz - 1 : Nat) : Int)).toNat = o + (x.sz + (y.sz - 1)) by omega, List.getD_eq_getElem?_getD, List.getElem?_append_right (by omega), hp, Nat.add_sub_cancel_left, List.getElem?_append_left (by rw [zQ]; omega), vN,
          List.getD_eq_getElem?_getD, List.getElem?_append_right (by omega), hp, Nat.add_sub_cancel_left, List.getElem?_append_right (by rw [zQ]; omega), zQ, Nat.add_sub_cancel_left, vN]
        rfl
  | .one x y, o, pre, h, hp, i, n, hn => by
    unfold Tr.ok at h
    rw [Bool.and_eq_true] at h
    have hxz := x.sz_pos
    have hyz := y.sz_pos
    by_cases hi : i < x.sz
    · rw [Tr.enc, List.append_assoc, List.getElem?_append_left (by rw [Tr.enc_len]; exact hi)] at hn
      have := jB e x o pre h.1 hp i n hn
      refine ⟨this.1, ?_⟩
      rw [vlT, List.append_assoc, List.getElem?_append_left (by rw [zQ]; exact hi), List.take_append_of_le_length (by rw [zQ]; omega)]
      exact this.2
    · by_cases hj : i < x.sz + y.sz
      · rw [Tr.enc, List.getElem?_append_left (by rw [List.length_append, Tr.enc_len, Tr.enc_len]; exact hj), List.getElem?_append_right (by rw [Tr.enc_len]; omega), Tr.enc_len] at hn
        have := jB e y (o + x.sz) (pre ++ vlT e x) h.2 (by rw [List.length_append, zQ]; omega) (i - x.sz) n hn
        refine ⟨by have q := this.1; rw [show o + x.sz + (i - x.sz) = o + i by omega] at q; exact q, ?_⟩
        rw [vlT, List.getElem?_append_left (by rw [List.length_append, zQ, zQ]; exact hj), List.getElem?_append_right (by rw [zQ]; omega), zQ, this.2]
        rw [List.take_append_of_le_length (by rw [List.length_append, zQ, zQ]; omega), List.take_append, zQ, List.take_of_length_le (l := vlT e x) (by rw [zQ]; omega), List.append_assoc]
      · rw [Tr.enc, List.getElem?_append_right (by rw [List.length_append, Tr.enc_len, Tr.enc_len]; omega), List.length_append, Tr.enc_len, Tr.enc_len] at hn
        obtain rfl : i = x.sz + y.sz := by
          have := (List.getElem?_eq_some_iff.1 hn).1
          simp at this; omega
        rw [Nat.sub_self] at hn
        obtain rfl := Option.some.inj hn
        refine ⟨⟨fun q => (by cases q), fun _ => ⟨by show (0 : Int) ≤ ((o + x.sz - 1 : Nat) : Int); omega, by show ((o + x.sz - 1 : Nat) : Int) < _; omega⟩, fun _ _ => ⟨by show (0 : Int) ≤ ((o + x.sz + y.sz - 1 : Nat) : Int); omega, by show ((o + x.sz + y.sz - 1 : Nat) : Int) < _; omega⟩⟩, ?_⟩
        have hvl : (vlT e x ++ vlT e y).length = x.sz + y.sz := by rw [List.length_append, zQ, zQ]
        rw [mJ _ _ _ (by simp) (by simp) (by simp), vlT, List.getElem?_append_right (by rw [hvl]; exact Nat.le_refl _), hvl, Nat.sub_self, List.take_append_of_le_length (by rw [hvl]; exact Nat.le_refl _), List.take_of_length_le (by rw [hvl]; exact Nat.le_refl _)]
        show some (evT e (.one x y)) = _
        rw [show (((o + x.sz - 1 : Nat) : Int)).toNat = o + (x.sz - 1) by omega, show (((o + x.sz + y.sz - 1 : Nat) : Int)).toNat = o + (x.sz + (y.sz - 1)) by omega, List.getD_eq_getElem?_getD, List.getElem?_append_right (by omega), hp, Nat.add_sub_cancel_left, List.getElem?_append_left (by rw [zQ]; omega), vN,
          List.getD_eq_getElem?_getD, List.getElem?_append_right (by omega), hp, Nat.add_sub_cancel_left, List.getElem?_append_right (by rw [zQ]; omega), zQ, Nat.add_sub_cancel_left, vN]
        rfl
theorem dA (e : Pf) : ∀ t : Tr, ∀ z ∈ vlT e t, 0 ≤ z ∧ z ≤ 2
  | .is k v, z, hz => by rw [vlT] at hz; rw [List.mem_singleton.1 hz]; exact xS e _
  | .no x, z, hz => by
    rw [vlT] at hz
    rcases List.mem_append.1 hz with hz | hz
    · exact dA e x z hz
    · rw [List.mem_singleton.1 hz]; exact xS e _
  | .both x y, z, hz => by
    rw [vlT] at hz
    rcases List.mem_append.1 hz with hz | hz
    · rcases List.mem_append.1 hz with hz | hz
      · exact dA e x z hz
      · exact dA e y z hz
    · rw [List.mem_singleton.1 hz]; exact xS e _
  | .one x y, z, hz => by
    rw [vlT] at hz
    rcases List.mem_append.1 hz with hz | hz
    · rcases List.mem_append.1 hz with hz | hz
      · exact dA e x z hz
      · exact dA e y z hz
    · rw [List.mem_singleton.1 hz]; exact xS e _
theorem bV (A : Option Addr) (cap : Nat) (e : Pf) (t : Tr) (l : List Nd) (W : World) (hl : l = t.enc 0) (hok : t.ok = true) (hv : Reads nC W W.heap.size A l) (hn : l.length ≤ 1000) (he : PfS e) : Calls Tryd.prog 35 #[.agg #[.slice A l.length cap], pfV e] W fun x w' => ∃ v' ob', x = .returned v' ∧ SlZ v' (vlT e t) ob' ∧ Own [] W w' ob' := by
  have hlen : l.length = t.sz := by rw [hl, Tr.enc_len]
  refine zU (n := 26) Tryd.func35 rfl (by kernel_rfl) (by kernel_rfl) (ZO (Zb (.agg #[.slice A l.length cap]) (fun b1 => Zb (pfV e) (fun b2 => Zv (.slice none 0 0) (ZR (Zv (.slice none 0 0) (zK ?_)))))))
  refine z8 (zF (ZO (Zv (.int .i64 0) (ZN (zP (yB (L' := ([] : List Blk) ++ [⟨b2, (pfV e).cells, 33⟩, ⟨b1, #[.slice A l.length cap], 25⟩]) rfl (xT (fun L f m => ∃ (i : Nat) (xs : List Int) (B : Option Addr) (cap2 : Nat) (oc : List Blk) (j : Nat → Value), (i ≤ l.length ∧ xs = (vlT e t).take i ∧ SlZ (.slice B xs.length cap2) xs oc) ∧ L = oc ++ [⟨b2, (pfV e).cells, 33⟩, ⟨b1, #[.slice A l.length cap], 25⟩] ∧ f = qT j [(2, .pointer (some ⟨b1, 0, none⟩)), (3, .pointer (some ⟨b2, 0, none⟩)), (5, .slice B xs.length cap2), (6, .int .i64 (i : Int))] ∧ m = l.length - i) (l.length - 0) ⟨0, [], none, 0, [], _, ⟨Nat.zero_le _, rfl, Sl.nil _ _⟩, rfl, ZU, rfl⟩ ?_)))))))
  rintro L f m ⟨i, xs, B, cap2, oc, j, hrel, rfl, rfl, rfl⟩
  obtain ⟨hi6, hxs, hsl⟩ := hrel
  refine zF (ZO (Zv (.int .i64 (i : Int)) (Zv (.pointer (some ⟨b1, 0, none⟩)) (zX ⟨b1, #[.slice A l.length cap], 25⟩ (off := 0) (.slice A l.length cap) (by kernel_rfl) rfl (by simp) (by kernel_rfl) (by kernel_rfl) (Zv (.int .i64 (l.length : Int)) ?_)))))
  by_cases h1 : (i : Int) < (l.length : Int)
  · have hil : i < l.length := by omega
    obtain ⟨bp, off, hA, hlt, hcell⟩ := hv (by omega)
    obtain ⟨n, hn⟩ : ∃ n, l[i] = n := ⟨_, rfl⟩
    have hni : (t.enc 0)[i]? = some n := by rw [← hl, List.getElem?_eq_getElem hil, hn]
    obtain ⟨hok1, hval⟩ := jB e t 0 [] hok rfl i n hni
    rw [Nat.zero_add] at hok1
    rw [List.nil_append, ← hxs] at hval
    have hxl : xs.length = i := by rw [hxs, List.length_take, zQ]; omega
    have hx2 : ∀ z ∈ xs, 0 ≤ z ∧ z ≤ 2 := fun z hz => dA e t z (List.mem_of_mem_take (hxs ▸ hz))
    refine Zd (p := (i : Int) < (l.length : Int)) true (decide_eq_true (h1)) (ZY (ZB (zF (zP (yB (L' := (oc ++ ([] : List Blk)) ++ ([⟨b2, (pfV e).cells, 33⟩, ⟨b1, #[.slice A l.length cap], 25⟩])) (by simp) (kQ ([⟨b2, (pfV e).cells, 33⟩, ⟨b1, #[.slice A l.length cap], 25⟩]) (by kernel_rfl) (fun w hO => Own.sub (oc ++ ([] : List Blk)) hO) (ZT 0 (oc ++ ([] : List Blk)) _ (.slice B xs.length cap2) (zE (zA (zR (zE (zA zB))))) rfl (ZT 1 (oc ++ ([] : List Blk)) _ (.pointer (some ⟨b1, 0, none⟩)) (zE (zA (zR (zE (zA zB))))) rfl ?_))))))))
    refine ZL 2 (oc ++ ([] : List Blk)) _ 1 ⟨b1, #[.slice A l.length cap], 25⟩ (off := 0) (.slice A l.length cap) (zE (zA (zR (zE (zA zB))))) rfl rfl (ZT 3 (oc ++ ([] : List Blk)) _ (.int .i64 (i : Int)) (zE (zA (zR (zE (zA zB))))) rfl (gU 4 (oc ++ ([] : List Blk)) _ (.pointer (some ⟨bp, off + i * 5, none⟩)) rfl (by kernel_rfl) (by kernel_rfl) (by kernel_rfl) (zE (zA (zR (zE (zA zB))))) (by kernel_rfl) (fun w _ => xY (b := bp) (off := off) (c := cap) (n := l.length) (k := .i64) (j := (i : Int)) (e := 48) (sz := 5) rfl (by kernel_rfl) hA (by kernel_rfl) (by kernel_rfl) (by kernel_rfl) (by omega) (by omega) (by omega) w) (jP 5 _ (a := ⟨bp, off + i * 5, none⟩) (ndV n) rfl (by kernel_rfl) (by kernel_rfl) (by kernel_rfl) (zE (zA (zR (zE (zA zB))))) (fun w hO => Own.sub (oc ++ ([] : List Blk)) hO) (by kernel_rfl) rfl (by kernel_rfl) (fun w hO => Reads.load yX (hv.on hO.below hO.size) hA i 0 hil (by omega) _ (by rw [hn]; kernel_rfl)) (ZT 6 (oc ++ ([] : List Blk)) _ (.slice B xs.length cap2) (zE (zA (zR (zE (zA zB))))) rfl (ZL 7 (oc ++ ([] : List Blk)) _ 0 ⟨b2, (pfV e).cells, 33⟩ (off := 0) (pfV e) (zE (zA (zR (zE (zA zB))))) rfl rfl (yK 8 (by kernel_rfl) (qZ (oc ++ ([] : List Blk)) _ (k := 60) (args := #[ndV n, .slice B xs.length cap2, pfV e]) (.int .i64 (g6 e n xs)) rfl (by kernel_rfl) (fun _ => by kernel_rfl) (fun w hO => pQ B cap2 e n xs w (Sl.reads hsl rfl hO (fun x hx => by simp [hx])) (by omega) hx2 he (by rw [hxl]; exact hok1)) (yK 9 (by kernel_rfl) (kY _ 3 #[.int .i64 (g6 e n xs)] rfl (by kernel_rfl) rfl (fun w hO => Own.sub (oc ++ ([] : List Blk)) hO) (fun _ => by kernel_rfl) (fun b3 => ?_))))))))))
    obtain ⟨i0, z0, e1, e2, e3, e4, e5⟩ := gJ
    refine yT (L' := [⟨b3, #[.int .i64 (g6 e n xs)], 3⟩] ++ oc ++ ([⟨b2, (pfV e).cells, 33⟩, ⟨b1, #[.slice A l.length cap], 25⟩])) (by simp) (yK 10 (by kernel_rfl) (x5 (E := [⟨b3, #[.int .i64 (g6 e n xs)], 3⟩]) (ob := oc) (sz := 1) _ rfl (by kernel_rfl) rfl Tryd.underlying39 e1 e2 e3 e4 (by kernel_rfl) hsl (a := ⟨b3, 0, none⟩) (m := 1) (c := 1) (news := zC (g6 e n xs)) (by kernel_rfl) rfl (fun w hO j u hj => ?_) (fun u hu => by rw [List.mem_singleton.1 hu]; rfl) (by unfold maxLen; omega) (by rw [e5]; omega) (fun ob' w h => Own.sub ([⟨b3, #[.int .i64 (g6 e n xs)], 3⟩] ++ ob') h) (fun u2 ob2 hu2 => ?_)))
    · rw [y5, cell_of_row w b3 (0 + j) (zC (g6 e n xs)).toArray 3 _ (hO.held ⟨b3, (zC (g6 e n xs)).toArray, 3⟩ (List.mem_append_left _ (List.mem_append_left _ (by first | exact List.mem_cons_self .. | (refine List.mem_cons_of_mem _ ?_; exact List.mem_cons_self ..)))))]; simpa using hj
    have hu2s : SlZ u2 (xs ++ [g6 e n xs]) ob2 := SlZ.add hu2
    obtain ⟨B2, cb2, rfl⟩ := Sl.form hu2s
    exact yT (L' := (⟨b3, #[.int .i64 (g6 e n xs)], 3⟩ :: (ob2 ++ ([] : List Blk))) ++ ([⟨b2, (pfV e).cells, 33⟩, ⟨b1, #[.slice A l.length cap], 25⟩])) (by simp) (ZT 11 (⟨b3, #[.int .i64 (g6 e n xs)], 3⟩ :: (ob2 ++ ([] : List Blk))) _ (.slice B2 ((xs ++ [g6 e n xs]).length) cb2) (zE (zA (zR (zE (zA zB))))) rfl (xR (by kernel_rfl) (zJ (z8 (z7 (Zv (.int .i64 (i : Int)) (Zu (k := .i64) (((i + 1 : Nat) : Int)) (IntWalk.i64_in _ (by omega)) (Zv (.int .i64 ((i + 1 : Nat) : Int)) (zK (xF (L' := ob2 ++ [⟨b2, (pfV e).cells, 33⟩, ⟨b1, #[.slice A l.length cap], 25⟩]) (fun w hO => hO.sublist (by simp)) (zS (m' := l.length - (i + 1)) (by omega) ⟨i + 1, (xs ++ [g6 e n xs]), B2, cb2, ob2, _, ⟨by omega, by rw [List.take_add_one, hval, ← hxs]; rfl, hu2s⟩, rfl, ZU, rfl⟩)))))))))))
  refine Zd (p := (i : Int) < (l.length : Int)) false (decide_eq_false (h1)) (ZX (xN (yG (zY (zZ (z8 (ZO (Zv (.slice B xs.length cap2) ?_))))))))
  exact Zv (.slice B xs.length cap2) (ZN (zG (ZF (.slice B xs.length cap2) Tryd.results35 (fun w hO => ⟨_, oc, rfl, by have q := List.take_of_length_le (i := i) (l := vlT e t) (by rw [zQ, ← hlen]; omega); rw [← hxs] at q; rw [q] at hsl ⊢; exact hsl, hO.sublist (by simp)⟩))))
end
section
set_option linter.unnecessarySimpa false
theorem tT (A : Option Addr) (cap : Nat) (l : List Nd) (e : Pf) (W : World) (hv : Reads nC W W.heap.size A l) (hn : l.length ≤ 1000) (ht : ∀ n ∈ l, n.text.length ≤ 1000000) (he : PfS e) : Calls Tryd.prog 33 #[.agg #[.slice A l.length cap], pfV e] W fun x w' => x = .returned (.int .i64 (zL l e)) ∧ Below W.heap.size W w' := by
  refine zU (n := 26) Tryd.func33 rfl (by kernel_rfl) (by kernel_rfl) (ZO (Zb (.agg #[.slice A l.length cap]) (fun b1 => Zb (pfV e) (fun b2 => Zv (.int .i64 0) (ZN (zF (ZO (Zl 1 ⟨b1, #[.slice A l.length cap], 25⟩ (off := 0) (.agg #[.slice A l.length cap]) ?_))))))))
  refine Zc (k := 30) (args := #[.agg #[.slice A l.length cap]]) (.bool (kB l)) (fun w hO => mT A cap l w (hv.on hO.below hO.size) hn ht) ?_
  cases h1 : kB l with
  | true =>
    refine Zv (.bool false) (Zv (.bool false) (Zl 0 ⟨b2, (pfV e).cells, 33⟩ (off := 0) (pfV e) (Zc (k := 59) (args := #[pfV e]) (.bool (vQ e)) (fun w hO => nN e w he) ?_)))
    cases h2 : vQ e with
    | true =>
      refine Zv (.bool false) (Zv (.bool false) (ZX (ZB (zF (ZO (Zv (.pointer (some ⟨b1, 0, none⟩)) (Zl 1 ⟨b1, #[.slice A l.length cap], 25⟩ (off := 0) (.slice A l.length cap) ?_)))))))
      refine Zv (.int .i64 (l.length : Int)) ?_
      by_cases h3 : (l.length : Int) = 0
      · have hl0 : l = [] := List.eq_nil_of_length_eq_zero (by omega)
        refine Zd (p := (l.length : Int) = 0) true (decide_eq_true (h3)) (ZY (ZO (Zv (.int .i64 2) (ZN (zG (z5 (ZF (.int .i64 2) Tryd.results33 ?_)))))))
        exact fun w hO => ⟨by rw [show zL l e = 2 from by rw [hl0]; exact bN h2], hO.below⟩
      obtain ⟨t, hok, hl, hsz, htx⟩ := (kG h1).resolve_left (fun q => h3 (by rw [q]; rfl))
      have hlen : l.length = t.sz := by rw [hl, Tr.enc_len]
      have hpos := t.sz_pos
      have hvl := zQ e t
      refine Zd (p := (l.length : Int) = 0) false (decide_eq_false (h3)) (ZX (ZB (zF (m7 (by kernel_rfl) (ZL 0 [] _ 1 ⟨b1, #[.slice A l.length cap], 25⟩ (off := 0) (.agg #[.slice A l.length cap]) (zA zB) rfl rfl (ZL 1 [] _ 0 ⟨b2, (pfV e).cells, 33⟩ (off := 0) (pfV e) (zA zB) rfl rfl (ZT 3 [] _ (.pointer (some ⟨b1, 0, none⟩)) (zA zB) rfl (ZL 4 [] _ 1 ⟨b1, #[.slice A l.length cap], 25⟩ (off := 0) (.slice A l.length cap) (zA zB) rfl rfl ?_))))))))
      refine ZT 5 [] _ (.int .i64 (l.length : Int)) (zA zB) rfl (vZ (k := .i64) 6 _ ((l.length : Int) - 1) rfl (by kernel_rfl) (by kernel_rfl) (by kernel_rfl) (zA zB) (fun w hO => Own.sub [] hO) (by kernel_rfl) (fun _ => by kernel_rfl) (IntWalk.i64_in _ (by omega)) (yK 2 (by kernel_rfl) (vW _ (k := 35) (args := #[.agg #[.slice A l.length cap], pfV e]) (fun v' L' => ∃ ob', L' = ob' ++ ([] ++ ([⟨b2, (pfV e).cells, 33⟩, ⟨b1, #[.slice A l.length cap], 25⟩])) ∧ SlZ v' (vlT e t) ob') rfl (by kernel_rfl) (fun _ => by kernel_rfl) (fun w hO => (bV A cap e t l w hl hok (hv.on hO.below hO.size) hn he).mono fun e w' ⟨v', ob', k1, k2, k3⟩ => ⟨v', _, k1, ⟨ob', rfl, k2⟩, Own.joinN hO k3⟩) (fun v' L' ⟨ob', e, _⟩ w hO => by subst e; exact Own.sub [] (Own.sub ob' hO)) (fun vs L2 hv2 => ?_))))
      obtain ⟨ov, rfl, hvs⟩ := hv2
      obtain ⟨V, cv, rfl⟩ := Sl.form hvs
      obtain ⟨g, hg, hcv⟩ := Sl.at0 hvs (by omega)
      refine yT (L' := (ov ++ ([] : List Blk)) ++ ([⟨b2, (pfV e).cells, 33⟩, ⟨b1, #[.slice A l.length cap], 25⟩])) (List.append_assoc _ _ _).symm (gU 7 (ov ++ ([] : List Blk)) _ (.pointer (some ⟨g, 0 + (t.sz - 1) * 1, none⟩)) rfl (by kernel_rfl) (by kernel_rfl) (by kernel_rfl) (zA zB) (by kernel_rfl) (fun w _ => xY (b := g) (off := 0) (c := cv) (n := (vlT e t).length) (k := .i64) (j := (l.length : Int) - 1) (e := 3) (sz := 1) rfl (by kernel_rfl) hg (by kernel_rfl) (by kernel_rfl) (by kernel_rfl) (by omega) (by omega) (by omega) w) (yK 8 (by kernel_rfl) (gO (ov ++ ([] : List Blk)) _ (.int .i64 (evT e t)) rfl (by kernel_rfl) (fun w hO => yF (a := ⟨g, 0 + (t.sz - 1) * 1, none⟩) rfl (by kernel_rfl) ((fun w hO => Reads.load x7 (Sl.reads hvs rfl hO (fun x hx => by simp [hx])) hg (t.sz - 1) 0 (by omega) (by omega) _ (by rw [show (vlT e t)[t.sz - 1]'(by omega) = evT e t from by have q := vN e t; rw [List.getElem?_eq_getElem (by omega)] at q; exact Option.some.inj q]; kernel_rfl)) w hO)) ?_)))
      exact ZT 9 (ov ++ ([] : List Blk)) _ (.int .i64 (evT e t)) (zA zB) rfl (xR (by kernel_rfl) (z8 (zG (ZF (.int .i64 (evT e t)) Tryd.results33 (fun w hO => ⟨by rw [show zL l e = evT e t from by rw [hl]; exact xM hok (by unfold Tr.fit; simp; omega) h2], hO.below⟩)))))
    | false =>
      refine Zv (.bool true) (Zv (.bool true) (ZY (ZO (Zv (.int .i64 0) (ZN (zG (z5 ?_)))))))
      exact ZF (.int .i64 0) Tryd.results33 (fun w hO => ⟨by rw [w7 (.inr h2)], hO.below⟩)
  | false =>
    refine Zv (.bool true) (Zv (.bool true) (Zk (Zk (Zk (Zv (.bool true) (ZY (ZO (Zv (.int .i64 0) ?_))))))))
    exact ZN (zG (z5 (ZF (.int .i64 0) Tryd.results33 (fun w hO => ⟨by rw [w7 (.inl h1)], hO.below⟩))))
def LeftTo (A : Option Addr) (cap : Nat) (l : List Nd) (V : Option Addr) (cv : Nat) (vs : List Int) (a : Nat) (Z : Nat → List Nd) : Prop :=
  ∀ (W : World) (B : Nat) (C : Option Addr) (cc : Nat) (out : List Nd) (ob : List Blk), Reads nC W B A l → Reads zC W B V vs → SlN (.slice C out.length cc) out ob → Own (ob.map Blk.b) W W ob → (∀ x ∈ ob, B ≤ x.b) → B ≤ W.heap.size → out.length + (Z out.length).length ≤ 100000 →
    Calls Tryd.prog 34 #[.slice A l.length cap, .slice V vs.length cv, .int .i64 (a : Int), .slice C out.length cc] W fun e w' => ∃ v' ob', e = .returned v' ∧ SlN v' (out ++ Z out.length) ob' ∧ Own (ob.map Blk.b) W w' ob'
theorem SlN.re {v : Value} {l l' : List Nd} {ob : List Blk} (h : SlN v l ob) (e : l = l') : SlN v l' ob := e ▸ h
theorem lf_is {A : Option Addr} {cap : Nat} {l : List Nd} (hn : l.length ≤ 1000) {V : Option Addr} {cv : Nat} {vs : List Int} (hvn : vs.length ≤ 1000) {r : Nat} {n : Nd} (hr : l[r]? = some n) (h1 : n.op = 1) : LeftTo A cap l V cv vs r (fun _ => [n]) := fun W B C cc out ob hv hu hsl hO hM hBW hzl => by
  have hM' := x4 hM
  obtain ⟨hr', er⟩ := yV hr
  obtain ⟨bp, off, hA, hlt, hcell⟩ := hv (by omega)
  refine y6 (n := 91) hO Tryd.func34 rfl (by kernel_rfl) (by kernel_rfl) (ZO (Zv (.slice none 0 0) (ZR (Zv (.slice A l.length cap) (Zv (.int .i64 (r : Int)) (zM (.pointer (some ⟨bp, off + r * 5, none⟩)) (by kernel_rfl) (ZA (b := bp) (off := off) (c := cap) (n := l.length) (k := .i64) (j := (r : Int)) (e := 48) (sz := 5) hA) (Zo (ndV n) (a := ⟨bp, off + r * 5, none⟩) (fun w hO => Reads.load yX (hv.on (hO.belowB hM' hBW) (Nat.le_refl _)) hA r 0 hr' (by omega) _ (by rw [er]; kernel_rfl)) ?_)))))))
  refine Za (.agg #[.int .i64 0, .int .i64 0, .int .i64 0, .int .i64 0, .string ⟨#[]⟩]) (fun b1 => Zs 0 ⟨b1, #[.int .i64 0, .int .i64 0, .int .i64 0, .int .i64 0, .string ⟨#[]⟩], 48⟩ (off := 0) (ndV n) (ZN (zF (zP (ZO (Zv (.pointer (some ⟨b1, 0, none⟩)) (Zl 0 ⟨b1, (ndV n).cells, 48⟩ (off := 0) (.int .i64 n.op) (Zd (p := (n.op : Int) = 1) true (decide_eq_true (h1)) (Zv (.bool true) ?_)))))))))
  refine ZY (ZO (Zv (.slice C out.length cc) (Zl 0 ⟨b1, (ndV n).cells, 48⟩ (off := 0) (ndV n) (g0 48 #[.int .i64 n.op, .int .i64 n.a, .int .i64 n.b, .int .i64 n.key, .string (mkS n.text)] (by kernel_rfl) rfl (fun _ => by kernel_rfl) (fun b2 => ?_)))))
  have hzz : out.length ≤ 100000 := by omega
  obtain ⟨i0, z0, e1, e2, e3, e4, e5⟩ := xD
  refine zH (L' := [⟨b2, #[.int .i64 n.op, .int .i64 n.a, .int .i64 n.b, .int .i64 n.key, .string (mkS n.text)], 48⟩, ⟨b1, (ndV n).cells, 48⟩] ++ ob ++ ([] : List Blk)) (by rw [List.append_nil]; rfl) (x0 (sz := 5) (by kernel_rfl) rfl Tryd.underlying23 e1 e2 e3 e4 (by kernel_rfl) hsl (a := ⟨b2, 0, none⟩) (m := 1) (c := 1) (news := nC n) (by kernel_rfl) rfl (fun w hO j u hj => ?_) (fun u hu => by simp only [nC, List.mem_cons, List.not_mem_nil, or_false] at hu; rcases hu with rfl | rfl | rfl | rfl | rfl <;> rfl) (by unfold maxLen; omega) (by rw [e5]; omega) (fun u9 ob9 hu9 => ?_))
  · rw [y5, cell_of_row w b2 (0 + j) (nC n).toArray 48 _ (hO.held ⟨b2, (nC n).toArray, 48⟩ (List.mem_append_left _ (List.mem_append_left _ (List.mem_cons_self ..))))]; simpa using hj
  have hu9s : SlN u9 (out ++ [n]) ob9 := SlN.add hu9
  obtain ⟨B9, cb9, rfl⟩ := Sl.form hu9s
  exact yI (L' := ⟨b1, (ndV n).cells, 48⟩ :: (ob9)) (fun w hO => Own.sub [⟨b2, #[.int .i64 n.op, .int .i64 n.a, .int .i64 n.b, .int .i64 n.key, .string (mkS n.text)], 48⟩] (show Own _ _ w (⟨b2, #[.int .i64 n.op, .int .i64 n.a, .int .i64 n.b, .int .i64 n.key, .string (mkS n.text)], 48⟩ :: (⟨b1, (ndV n).cells, 48⟩ :: (ob9))) from by rw [List.append_nil] at hO; exact hO)) (Zv (.slice B9 ((out ++ [n]).length) cb9) (ZN (zG (zD (z5 (ZF (.slice B9 ((out ++ [n]).length) cb9) Tryd.results34 (fun w hO => ⟨_, ob9, rfl, hu9s, hO.sublist (by simp)⟩)))))))
theorem lf_not {A : Option Addr} {cap : Nat} {l : List Nd} (hn : l.length ≤ 1000) {V : Option Addr} {cv : Nat} {vs : List Int} (hvn : vs.length ≤ 1000) {r : Nat} {n : Nd} (hr : l[r]? = some n) {a : Nat} (hna : n.a = (a : Int)) {TZa : Nat → List Nd} (h2 : n.op = 2) (ha' : LeftTo A cap l V cv vs a TZa) : LeftTo A cap l V cv vs r (fun o => TZa o ++ [⟨2, ((o + (TZa o).length : Nat) : Int) - 1, 0, 0, []⟩]) := fun W B C cc out ob hv hu hsl hO hM hBW hzl => by
  have hM' := x4 hM
  obtain ⟨hr', er⟩ := yV hr
  obtain ⟨bp, off, hA, hlt, hcell⟩ := hv (by omega)
  have h1 : ¬ n.op = 1 := by omega
  simp only [List.length_append, List.length_cons, List.length_nil] at hzl
  refine y6 (n := 91) hO Tryd.func34 rfl (by kernel_rfl) (by kernel_rfl) (ZO (Zv (.slice none 0 0) (ZR (Zv (.slice A l.length cap) (Zv (.int .i64 (r : Int)) (zM (.pointer (some ⟨bp, off + r * 5, none⟩)) (by kernel_rfl) (ZA (b := bp) (off := off) (c := cap) (n := l.length) (k := .i64) (j := (r : Int)) (e := 48) (sz := 5) hA) (Zo (.agg #[.int .i64 n.op, .int .i64 (a : Int), .int .i64 n.b, .int .i64 n.key, .string (mkS n.text)]) (a := ⟨bp, off + r * 5, none⟩) (fun w hO => Reads.load yX (hv.on (hO.belowB hM' hBW) (Nat.le_refl _)) hA r 0 hr' (by omega) _ (by rw [er]; show xQ _ _ (nC n).toArray 0 = _; unfold nC; rw [hna]; kernel_rfl)) ?_)))))))
  refine Za (.agg #[.int .i64 0, .int .i64 0, .int .i64 0, .int .i64 0, .string ⟨#[]⟩]) (fun b1 => Zs 0 ⟨b1, #[.int .i64 0, .int .i64 0, .int .i64 0, .int .i64 0, .string ⟨#[]⟩], 48⟩ (off := 0) (.agg #[.int .i64 n.op, .int .i64 (a : Int), .int .i64 n.b, .int .i64 n.key, .string (mkS n.text)]) (ZN (zF (zP (ZO (Zv (.pointer (some ⟨b1, 0, none⟩)) (Zl 0 ⟨b1, #[.int .i64 n.op, .int .i64 (a : Int), .int .i64 n.b, .int .i64 n.key, .string (mkS n.text)], 48⟩ (off := 0) (.int .i64 n.op) (Zd (p := (n.op : Int) = 1) false (decide_eq_false (h1)) (Zv (.bool false) ?_)))))))))
  refine ZX (ZO (Zv (.pointer (some ⟨b1, 0, none⟩)) (Zl 0 ⟨b1, #[.int .i64 n.op, .int .i64 (a : Int), .int .i64 n.b, .int .i64 n.key, .string (mkS n.text)], 48⟩ (off := 0) (.int .i64 n.op) (Zd (p := (n.op : Int) = 2) true (decide_eq_true (h2)) (Zv (.bool true) (ZN (Zt ?_)))))))
  refine ZO (Zv (.slice A l.length cap) (Zv (.slice V vs.length cv) (Zv (.pointer (some ⟨b1, 1, none⟩)) (Zl 0 ⟨b1, #[.int .i64 n.op, .int .i64 (a : Int), .int .i64 n.b, .int .i64 n.key, .string (mkS n.text)], 48⟩ (off := 1) (.int .i64 (a : Int)) (Zv (.slice C out.length cc) (yI (L' := ob ++ ([⟨b1, #[.int .i64 n.op, .int .i64 (a : Int), .int .i64 n.b, .int .i64 n.key, .string (mkS n.text)], 48⟩] : List Blk)) (fun w hO => hO.perm (List.perm_append_comm (l₁ := ([⟨b1, #[.int .i64 n.op, .int .i64 (a : Int), .int .i64 n.b, .int .i64 n.key, .string (mkS n.text)], 48⟩] : List Blk)) (l₂ := ob))) (zO (k := 34) (args := #[.slice A l.length cap, .slice V vs.length cv, .int .i64 (a : Int), .slice C out.length cc]) (fun v' L' => ∃ ob', L' = ob' ++ ([⟨b1, #[.int .i64 n.op, .int .i64 (a : Int), .int .i64 n.b, .int .i64 n.key, .string (mkS n.text)], 48⟩] : List Blk) ∧ SlN v' (out ++ TZa out.length) ob') (by kernel_rfl) (fun _ => by kernel_rfl) (fun w hO => (ha' w B C cc out ob (hv.on (hO.belowB hM' hBW) (Nat.le_refl _)) (hu.on (hO.belowB hM' hBW) (Nat.le_refl _)) hsl (Own.lent hO) (fun x hx => hO.allB hM' hBW x (List.mem_append_left _ hx)) (Nat.le_trans hBW hO.size) (by omega)).mono fun e w' ⟨v', ob', k1, k2, k3⟩ => ⟨v', _, k1, ⟨ob', rfl, k2⟩, Own.join hO k3⟩) (fun v1 L1 hv1 => ?_))))))))
  obtain ⟨ob1, rfl, hs1⟩ := hv1
  obtain ⟨C1, c1, rfl⟩ := Sl.form hs1
  refine yI (L' := ([⟨b1, #[.int .i64 n.op, .int .i64 (a : Int), .int .i64 n.b, .int .i64 n.key, .string (mkS n.text)], 48⟩] : List Blk) ++ ob1) (fun w hO => hO.perm (List.perm_append_comm (l₁ := ob1) (l₂ := ([⟨b1, #[.int .i64 n.op, .int .i64 (a : Int), .int .i64 n.b, .int .i64 n.key, .string (mkS n.text)], 48⟩] : List Blk)))) ?_
  have hll1 : (out ++ TZa out.length).length = out.length + (TZa out.length).length := List.length_append
  refine Zv (.slice C1 ((out ++ TZa out.length).length) c1) (ZR (Zv (.slice C1 ((out ++ TZa out.length).length) c1) (Zv (.slice C1 ((out ++ TZa out.length).length) c1) (Zv (.int .i64 ((out ++ TZa out.length).length : Int)) (Zu (k := .i64) (((out ++ TZa out.length).length : Int) - 1) (IntWalk.i64_in _ (by omega)) (Zv (.agg #[.int .i64 2, .int .i64 (((out ++ TZa out.length).length : Int) - 1), .int .i64 0, .int .i64 0, .string ⟨#[]⟩]) (g0 48 #[.int .i64 2, .int .i64 (((out ++ TZa out.length).length : Int) - 1), .int .i64 0, .int .i64 0, .string ⟨#[]⟩] (by kernel_rfl) rfl (fun _ => by kernel_rfl) (fun b2 => ?_))))))))
  have hzz : (out ++ TZa out.length).length ≤ 100000 := by rw [List.length_append]; omega
  obtain ⟨i0, z0, e1, e2, e3, e4, e5⟩ := xD
  refine zH (L' := [⟨b2, #[.int .i64 2, .int .i64 (((out ++ TZa out.length).length : Int) - 1), .int .i64 0, .int .i64 0, .string ⟨#[]⟩], 48⟩, ⟨b1, #[.int .i64 n.op, .int .i64 (a : Int), .int .i64 n.b, .int .i64 n.key, .string (mkS n.text)], 48⟩] ++ ob1 ++ ([] : List Blk)) (by rw [List.append_nil]; rfl) (x0 (sz := 5) (by kernel_rfl) rfl Tryd.underlying23 e1 e2 e3 e4 (by kernel_rfl) hs1 (a := ⟨b2, 0, none⟩) (m := 1) (c := 1) (news := nC (⟨2, ((out ++ TZa out.length).length : Int) - 1, 0, 0, []⟩ : Nd)) (by kernel_rfl) rfl (fun w hO j u hj => ?_) (fun u hu => by simp only [nC, List.mem_cons, List.not_mem_nil, or_false] at hu; rcases hu with rfl | rfl | rfl | rfl | rfl <;> rfl) (by unfold maxLen; omega) (by rw [e5]; omega) (fun u9 ob9 hu9 => ?_))
  · rw [y5, cell_of_row w b2 (0 + j) (nC (⟨2, ((out ++ TZa out.length).length : Int) - 1, 0, 0, []⟩ : Nd)).toArray 48 _ (hO.held ⟨b2, (nC (⟨2, ((out ++ TZa out.length).length : Int) - 1, 0, 0, []⟩ : Nd)).toArray, 48⟩ (List.mem_append_left _ (List.mem_append_left _ (List.mem_cons_self ..))))]; simpa using hj
  have hu9s : SlN u9 ((out ++ TZa out.length) ++ [(⟨2, ((out ++ TZa out.length).length : Int) - 1, 0, 0, []⟩ : Nd)]) ob9 := SlN.add hu9
  obtain ⟨B9, cb9, rfl⟩ := Sl.form hu9s
  exact yI (L' := ⟨b1, #[.int .i64 n.op, .int .i64 (a : Int), .int .i64 n.b, .int .i64 n.key, .string (mkS n.text)], 48⟩ :: (ob9)) (fun w hO => Own.sub [⟨b2, #[.int .i64 2, .int .i64 (((out ++ TZa out.length).length : Int) - 1), .int .i64 0, .int .i64 0, .string ⟨#[]⟩], 48⟩] (show Own _ _ w (⟨b2, #[.int .i64 2, .int .i64 (((out ++ TZa out.length).length : Int) - 1), .int .i64 0, .int .i64 0, .string ⟨#[]⟩], 48⟩ :: (⟨b1, #[.int .i64 n.op, .int .i64 (a : Int), .int .i64 n.b, .int .i64 n.key, .string (mkS n.text)], 48⟩ :: (ob9))) from by rw [List.append_nil] at hO; exact hO)) (Zv (.slice B9 (((out ++ TZa out.length) ++ [(⟨2, ((out ++ TZa out.length).length : Int) - 1, 0, 0, []⟩ : Nd)]).length) cb9) (ZN (zG (zD (z5 (ZF (.slice B9 (((out ++ TZa out.length) ++ [(⟨2, ((out ++ TZa out.length).length : Int) - 1, 0, 0, []⟩ : Nd)]).length) cb9) Tryd.results34 (fun w hO => ⟨_, ob9, rfl, SlN.re hu9s (by simp), hO.sublist (by simp)⟩)))))))
theorem lf_l {A : Option Addr} {cap : Nat} {l : List Nd} (hn : l.length ≤ 1000) {V : Option Addr} {cv : Nat} {vs : List Int} (hvn : vs.length ≤ 1000) {r : Nat} {n : Nd} (hr : l[r]? = some n) {a : Nat} (hna : n.a = (a : Int)) {b : Nat} (hnb : n.b = (b : Int)) {zb : Int} {TZa : Nat → List Nd} (h1 : ¬ n.op = 1) (h2 : ¬ n.op = 2) (hb : vs[b]? = some zb) (hz : ¬ zb = 1) (ha' : LeftTo A cap l V cv vs a TZa) : LeftTo A cap l V cv vs r TZa := fun W B C cc out ob hv hu hsl hO hM hBW hzl => by
  have hM' := x4 hM
  obtain ⟨hr', er⟩ := yV hr
  obtain ⟨bp, off, hA, hlt, hcell⟩ := hv (by omega)
  obtain ⟨hb'', eb⟩ := yV hb
  obtain ⟨bq, of2, hV, hlt2, hcell2⟩ := hu (by omega)
  refine y6 (n := 91) hO Tryd.func34 rfl (by kernel_rfl) (by kernel_rfl) (ZO (Zv (.slice none 0 0) (ZR (Zv (.slice A l.length cap) (Zv (.int .i64 (r : Int)) (zM (.pointer (some ⟨bp, off + r * 5, none⟩)) (by kernel_rfl) (ZA (b := bp) (off := off) (c := cap) (n := l.length) (k := .i64) (j := (r : Int)) (e := 48) (sz := 5) hA) (Zo (.agg #[.int .i64 n.op, .int .i64 (a : Int), .int .i64 (b : Int), .int .i64 n.key, .string (mkS n.text)]) (a := ⟨bp, off + r * 5, none⟩) (fun w hO => Reads.load yX (hv.on (hO.belowB hM' hBW) (Nat.le_refl _)) hA r 0 hr' (by omega) _ (by rw [er]; show xQ _ _ (nC n).toArray 0 = _; unfold nC; rw [hna, hnb]; kernel_rfl)) ?_)))))))
  refine Za (.agg #[.int .i64 0, .int .i64 0, .int .i64 0, .int .i64 0, .string ⟨#[]⟩]) (fun b1 => Zs 0 ⟨b1, #[.int .i64 0, .int .i64 0, .int .i64 0, .int .i64 0, .string ⟨#[]⟩], 48⟩ (off := 0) (.agg #[.int .i64 n.op, .int .i64 (a : Int), .int .i64 (b : Int), .int .i64 n.key, .string (mkS n.text)]) (ZN (zF (zP (ZO (Zv (.pointer (some ⟨b1, 0, none⟩)) (Zl 0 ⟨b1, #[.int .i64 n.op, .int .i64 (a : Int), .int .i64 (b : Int), .int .i64 n.key, .string (mkS n.text)], 48⟩ (off := 0) (.int .i64 n.op) (Zd (p := (n.op : Int) = 1) false (decide_eq_false (h1)) (Zv (.bool false) ?_)))))))))
  refine ZX (ZO (Zv (.pointer (some ⟨b1, 0, none⟩)) (Zl 0 ⟨b1, #[.int .i64 n.op, .int .i64 (a : Int), .int .i64 (b : Int), .int .i64 n.key, .string (mkS n.text)], 48⟩ (off := 0) (.int .i64 n.op) (Zd (p := (n.op : Int) = 2) false (decide_eq_false (h2)) (Zv (.bool false) (ZN (Zf ?_)))))))
  refine ZO (Zv (.slice V vs.length cv) (Zv (.pointer (some ⟨b1, 2, none⟩)) (Zl 0 ⟨b1, #[.int .i64 n.op, .int .i64 (a : Int), .int .i64 (b : Int), .int .i64 n.key, .string (mkS n.text)], 48⟩ (off := 2) (.int .i64 (b : Int)) (zM (.pointer (some ⟨bq, of2 + b * 1, none⟩)) (by kernel_rfl) (ZA (b := bq) (off := of2) (c := cv) (n := vs.length) (k := .i64) (j := (b : Int)) (e := 3) (sz := 1) hV) (Zo (.int .i64 zb) (a := ⟨bq, of2 + b * 1, none⟩) (fun w hO => Reads.load x7 (hu.on (hO.belowB hM' hBW) (Nat.le_refl _)) hV b 0 hb'' (by omega) _ (by rw [eb]; kernel_rfl)) (Zn (p := (zb : Int) = 1) false (decide_eq_false (hz)) (Zv (.bool true) (ZN (Zt ?_)))))))))
  refine ZO (Zv (.slice A l.length cap) (Zv (.slice V vs.length cv) (Zv (.pointer (some ⟨b1, 1, none⟩)) (Zl 0 ⟨b1, #[.int .i64 n.op, .int .i64 (a : Int), .int .i64 (b : Int), .int .i64 n.key, .string (mkS n.text)], 48⟩ (off := 1) (.int .i64 (a : Int)) (Zv (.slice C out.length cc) (yI (L' := ob ++ ([⟨b1, #[.int .i64 n.op, .int .i64 (a : Int), .int .i64 (b : Int), .int .i64 n.key, .string (mkS n.text)], 48⟩] : List Blk)) (fun w hO => hO.perm (List.perm_append_comm (l₁ := ([⟨b1, #[.int .i64 n.op, .int .i64 (a : Int), .int .i64 (b : Int), .int .i64 n.key, .string (mkS n.text)], 48⟩] : List Blk)) (l₂ := ob))) (zO (k := 34) (args := #[.slice A l.length cap, .slice V vs.length cv, .int .i64 (a : Int), .slice C out.length cc]) (fun v' L' => ∃ ob', L' = ob' ++ ([⟨b1, #[.int .i64 n.op, .int .i64 (a : Int), .int .i64 (b : Int), .int .i64 n.key, .string (mkS n.text)], 48⟩] : List Blk) ∧ SlN v' (out ++ TZa out.length) ob') (by kernel_rfl) (fun _ => by kernel_rfl) (fun w hO => (ha' w B C cc out ob (hv.on (hO.belowB hM' hBW) (Nat.le_refl _)) (hu.on (hO.belowB hM' hBW) (Nat.le_refl _)) hsl (Own.lent hO) (fun x hx => hO.allB hM' hBW x (List.mem_append_left _ hx)) (Nat.le_trans hBW hO.size) (by omega)).mono fun e w' ⟨v', ob', k1, k2, k3⟩ => ⟨v', _, k1, ⟨ob', rfl, k2⟩, Own.join hO k3⟩) (fun v1 L1 hv1 => ?_))))))))
  obtain ⟨ob1, rfl, hs1⟩ := hv1
  obtain ⟨C1, c1, rfl⟩ := Sl.form hs1
  refine yI (L' := ([⟨b1, #[.int .i64 n.op, .int .i64 (a : Int), .int .i64 (b : Int), .int .i64 n.key, .string (mkS n.text)], 48⟩] : List Blk) ++ ob1) (fun w hO => hO.perm (List.perm_append_comm (l₁ := ob1) (l₂ := ([⟨b1, #[.int .i64 n.op, .int .i64 (a : Int), .int .i64 (b : Int), .int .i64 n.key, .string (mkS n.text)], 48⟩] : List Blk)))) ?_
  have hll1 : (out ++ TZa out.length).length = out.length + (TZa out.length).length := List.length_append
  exact Zv (.slice C1 ((out ++ TZa out.length).length) c1) (ZN (zG (zD (z5 (ZF (.slice C1 ((out ++ TZa out.length).length) c1) Tryd.results34 (fun w hO => ⟨_, ob1, rfl, hs1, hO.sublist (by simp)⟩))))))
theorem lf_r {A : Option Addr} {cap : Nat} {l : List Nd} (hn : l.length ≤ 1000) {V : Option Addr} {cv : Nat} {vs : List Int} (hvn : vs.length ≤ 1000) {r : Nat} {n : Nd} (hr : l[r]? = some n) {a : Nat} (hna : n.a = (a : Int)) {b : Nat} (hnb : n.b = (b : Int)) {za zb : Int} {TZb : Nat → List Nd} (h1 : ¬ n.op = 1) (h2 : ¬ n.op = 2) (hb : vs[b]? = some zb) (hz : zb = 1) (ha : vs[a]? = some za) (hz2 : ¬ za = 1) (hb' : LeftTo A cap l V cv vs b TZb) : LeftTo A cap l V cv vs r TZb := fun W B C cc out ob hv hu hsl hO hM hBW hzl => by
  have hM' := x4 hM
  obtain ⟨hr', er⟩ := yV hr
  obtain ⟨bp, off, hA, hlt, hcell⟩ := hv (by omega)
  obtain ⟨hb'', eb⟩ := yV hb
  obtain ⟨ha'', ea⟩ := yV ha
  obtain ⟨bq, of2, hV, hlt2, hcell2⟩ := hu (by omega)
  refine y6 (n := 91) hO Tryd.func34 rfl (by kernel_rfl) (by kernel_rfl) (ZO (Zv (.slice none 0 0) (ZR (Zv (.slice A l.length cap) (Zv (.int .i64 (r : Int)) (zM (.pointer (some ⟨bp, off + r * 5, none⟩)) (by kernel_rfl) (ZA (b := bp) (off := off) (c := cap) (n := l.length) (k := .i64) (j := (r : Int)) (e := 48) (sz := 5) hA) (Zo (.agg #[.int .i64 n.op, .int .i64 (a : Int), .int .i64 (b : Int), .int .i64 n.key, .string (mkS n.text)]) (a := ⟨bp, off + r * 5, none⟩) (fun w hO => Reads.load yX (hv.on (hO.belowB hM' hBW) (Nat.le_refl _)) hA r 0 hr' (by omega) _ (by rw [er]; show xQ _ _ (nC n).toArray 0 = _; unfold nC; rw [hna, hnb]; kernel_rfl)) ?_)))))))
  refine Za (.agg #[.int .i64 0, .int .i64 0, .int .i64 0, .int .i64 0, .string ⟨#[]⟩]) (fun b1 => Zs 0 ⟨b1, #[.int .i64 0, .int .i64 0, .int .i64 0, .int .i64 0, .string ⟨#[]⟩], 48⟩ (off := 0) (.agg #[.int .i64 n.op, .int .i64 (a : Int), .int .i64 (b : Int), .int .i64 n.key, .string (mkS n.text)]) (ZN (zF (zP (ZO (Zv (.pointer (some ⟨b1, 0, none⟩)) (Zl 0 ⟨b1, #[.int .i64 n.op, .int .i64 (a : Int), .int .i64 (b : Int), .int .i64 n.key, .string (mkS n.text)], 48⟩ (off := 0) (.int .i64 n.op) (Zd (p := (n.op : Int) = 1) false (decide_eq_false (h1)) (Zv (.bool false) ?_)))))))))
  refine ZX (ZO (Zv (.pointer (some ⟨b1, 0, none⟩)) (Zl 0 ⟨b1, #[.int .i64 n.op, .int .i64 (a : Int), .int .i64 (b : Int), .int .i64 n.key, .string (mkS n.text)], 48⟩ (off := 0) (.int .i64 n.op) (Zd (p := (n.op : Int) = 2) false (decide_eq_false (h2)) (Zv (.bool false) (ZN (Zf ?_)))))))
  refine ZO (Zv (.slice V vs.length cv) (Zv (.pointer (some ⟨b1, 2, none⟩)) (Zl 0 ⟨b1, #[.int .i64 n.op, .int .i64 (a : Int), .int .i64 (b : Int), .int .i64 n.key, .string (mkS n.text)], 48⟩ (off := 2) (.int .i64 (b : Int)) (zM (.pointer (some ⟨bq, of2 + b * 1, none⟩)) (by kernel_rfl) (ZA (b := bq) (off := of2) (c := cv) (n := vs.length) (k := .i64) (j := (b : Int)) (e := 3) (sz := 1) hV) (Zo (.int .i64 zb) (a := ⟨bq, of2 + b * 1, none⟩) (fun w hO => Reads.load x7 (hu.on (hO.belowB hM' hBW) (Nat.le_refl _)) hV b 0 hb'' (by omega) _ (by rw [eb]; kernel_rfl)) (Zn (p := (zb : Int) = 1) true (decide_eq_true (hz)) (Zv (.bool false) (ZN (Zf ?_)))))))))
  refine ZO (Zv (.slice V vs.length cv) (Zv (.pointer (some ⟨b1, 1, none⟩)) (Zl 0 ⟨b1, #[.int .i64 n.op, .int .i64 (a : Int), .int .i64 (b : Int), .int .i64 n.key, .string (mkS n.text)], 48⟩ (off := 1) (.int .i64 (a : Int)) (zM (.pointer (some ⟨bq, of2 + a * 1, none⟩)) (by kernel_rfl) (ZA (b := bq) (off := of2) (c := cv) (n := vs.length) (k := .i64) (j := (a : Int)) (e := 3) (sz := 1) hV) (Zo (.int .i64 za) (a := ⟨bq, of2 + a * 1, none⟩) (fun w hO => Reads.load x7 (hu.on (hO.belowB hM' hBW) (Nat.le_refl _)) hV a 0 ha'' (by omega) _ (by rw [ea]; kernel_rfl)) (Zn (p := (za : Int) = 1) false (decide_eq_false (hz2)) (Zv (.bool true) (ZN (Zt ?_)))))))))
  refine ZO (Zv (.slice A l.length cap) (Zv (.slice V vs.length cv) (Zv (.pointer (some ⟨b1, 2, none⟩)) (Zl 0 ⟨b1, #[.int .i64 n.op, .int .i64 (a : Int), .int .i64 (b : Int), .int .i64 n.key, .string (mkS n.text)], 48⟩ (off := 2) (.int .i64 (b : Int)) (Zv (.slice C out.length cc) (yI (L' := ob ++ ([⟨b1, #[.int .i64 n.op, .int .i64 (a : Int), .int .i64 (b : Int), .int .i64 n.key, .string (mkS n.text)], 48⟩] : List Blk)) (fun w hO => hO.perm (List.perm_append_comm (l₁ := ([⟨b1, #[.int .i64 n.op, .int .i64 (a : Int), .int .i64 (b : Int), .int .i64 n.key, .string (mkS n.text)], 48⟩] : List Blk)) (l₂ := ob))) (zO (k := 34) (args := #[.slice A l.length cap, .slice V vs.length cv, .int .i64 (b : Int), .slice C out.length cc]) (fun v' L' => ∃ ob', L' = ob' ++ ([⟨b1, #[.int .i64 n.op, .int .i64 (a : Int), .int .i64 (b : Int), .int .i64 n.key, .string (mkS n.text)], 48⟩] : List Blk) ∧ SlN v' (out ++ TZb out.length) ob') (by kernel_rfl) (fun _ => by kernel_rfl) (fun w hO => (hb' w B C cc out ob (hv.on (hO.belowB hM' hBW) (Nat.le_refl _)) (hu.on (hO.belowB hM' hBW) (Nat.le_refl _)) hsl (Own.lent hO) (fun x hx => hO.allB hM' hBW x (List.mem_append_left _ hx)) (Nat.le_trans hBW hO.size) (by omega)).mono fun e w' ⟨v', ob', k1, k2, k3⟩ => ⟨v', _, k1, ⟨ob', rfl, k2⟩, Own.join hO k3⟩) (fun v1 L1 hv1 => ?_))))))))
  obtain ⟨ob1, rfl, hs1⟩ := hv1
  obtain ⟨C1, c1, rfl⟩ := Sl.form hs1
  refine yI (L' := ([⟨b1, #[.int .i64 n.op, .int .i64 (a : Int), .int .i64 (b : Int), .int .i64 n.key, .string (mkS n.text)], 48⟩] : List Blk) ++ ob1) (fun w hO => hO.perm (List.perm_append_comm (l₁ := ob1) (l₂ := ([⟨b1, #[.int .i64 n.op, .int .i64 (a : Int), .int .i64 (b : Int), .int .i64 n.key, .string (mkS n.text)], 48⟩] : List Blk)))) ?_
  have hll1 : (out ++ TZb out.length).length = out.length + (TZb out.length).length := List.length_append
  exact Zv (.slice C1 ((out ++ TZb out.length).length) c1) (ZN (zG (zD (z5 (ZF (.slice C1 ((out ++ TZb out.length).length) c1) Tryd.results34 (fun w hO => ⟨_, ob1, rfl, hs1, hO.sublist (by simp)⟩))))))
theorem lf_b {A : Option Addr} {cap : Nat} {l : List Nd} (hn : l.length ≤ 1000) {V : Option Addr} {cv : Nat} {vs : List Int} (hvn : vs.length ≤ 1000) {r : Nat} {n : Nd} (hr : l[r]? = some n) {a : Nat} (hna : n.a = (a : Int)) {b : Nat} (hnb : n.b = (b : Int)) {za zb : Int} {TZa TZb : Nat → List Nd} (h1 : ¬ n.op = 1) (h2 : ¬ n.op = 2) (hb : vs[b]? = some zb) (hz : zb = 1) (ha : vs[a]? = some za) (hz2 : za = 1) (ha' : LeftTo A cap l V cv vs a TZa) (hb' : LeftTo A cap l V cv vs b TZb) : LeftTo A cap l V cv vs r (fun o => TZa o ++ TZb (o + (TZa o).length) ++ [⟨n.op, ((o + (TZa o).length : Nat) : Int) - 1, ((o + (TZa o).length + (TZb (o + (TZa o).length)).length : Nat) : Int) - 1, 0, []⟩]) := fun W B C cc out ob hv hu hsl hO hM hBW hzl => by
  have hM' := x4 hM
  obtain ⟨hr', er⟩ := yV hr
  obtain ⟨bp, off, hA, hlt, hcell⟩ := hv (by omega)
  obtain ⟨hb'', eb⟩ := yV hb
  obtain ⟨ha'', ea⟩ := yV ha
  obtain ⟨bq, of2, hV, hlt2, hcell2⟩ := hu (by omega)
  simp only [List.length_append, List.length_cons, List.length_nil] at hzl
  refine y6 (n := 91) hO Tryd.func34 rfl (by kernel_rfl) (by kernel_rfl) (ZO (Zv (.slice none 0 0) (ZR (Zv (.slice A l.length cap) (Zv (.int .i64 (r : Int)) (zM (.pointer (some ⟨bp, off + r * 5, none⟩)) (by kernel_rfl) (ZA (b := bp) (off := off) (c := cap) (n := l.length) (k := .i64) (j := (r : Int)) (e := 48) (sz := 5) hA) (Zo (.agg #[.int .i64 n.op, .int .i64 (a : Int), .int .i64 (b : Int), .int .i64 n.key, .string (mkS n.text)]) (a := ⟨bp, off + r * 5, none⟩) (fun w hO => Reads.load yX (hv.on (hO.belowB hM' hBW) (Nat.le_refl _)) hA r 0 hr' (by omega) _ (by rw [er]; show xQ _ _ (nC n).toArray 0 = _; unfold nC; rw [hna, hnb]; kernel_rfl)) ?_)))))))
  refine Za (.agg #[.int .i64 0, .int .i64 0, .int .i64 0, .int .i64 0, .string ⟨#[]⟩]) (fun b1 => Zs 0 ⟨b1, #[.int .i64 0, .int .i64 0, .int .i64 0, .int .i64 0, .string ⟨#[]⟩], 48⟩ (off := 0) (.agg #[.int .i64 n.op, .int .i64 (a : Int), .int .i64 (b : Int), .int .i64 n.key, .string (mkS n.text)]) (ZN (zF (zP (ZO (Zv (.pointer (some ⟨b1, 0, none⟩)) (Zl 0 ⟨b1, #[.int .i64 n.op, .int .i64 (a : Int), .int .i64 (b : Int), .int .i64 n.key, .string (mkS n.text)], 48⟩ (off := 0) (.int .i64 n.op) (Zd (p := (n.op : Int) = 1) false (decide_eq_false (h1)) (Zv (.bool false) ?_)))))))))
  refine ZX (ZO (Zv (.pointer (some ⟨b1, 0, none⟩)) (Zl 0 ⟨b1, #[.int .i64 n.op, .int .i64 (a : Int), .int .i64 (b : Int), .int .i64 n.key, .string (mkS n.text)], 48⟩ (off := 0) (.int .i64 n.op) (Zd (p := (n.op : Int) = 2) false (decide_eq_false (h2)) (Zv (.bool false) (ZN (Zf ?_)))))))
  refine ZO (Zv (.slice V vs.length cv) (Zv (.pointer (some ⟨b1, 2, none⟩)) (Zl 0 ⟨b1, #[.int .i64 n.op, .int .i64 (a : Int), .int .i64 (b : Int), .int .i64 n.key, .string (mkS n.text)], 48⟩ (off := 2) (.int .i64 (b : Int)) (zM (.pointer (some ⟨bq, of2 + b * 1, none⟩)) (by kernel_rfl) (ZA (b := bq) (off := of2) (c := cv) (n := vs.length) (k := .i64) (j := (b : Int)) (e := 3) (sz := 1) hV) (Zo (.int .i64 zb) (a := ⟨bq, of2 + b * 1, none⟩) (fun w hO => Reads.load x7 (hu.on (hO.belowB hM' hBW) (Nat.le_refl _)) hV b 0 hb'' (by omega) _ (by rw [eb]; kernel_rfl)) (Zn (p := (zb : Int) = 1) true (decide_eq_true (hz)) (Zv (.bool false) (ZN (Zf ?_)))))))))
  refine ZO (Zv (.slice V vs.length cv) (Zv (.pointer (some ⟨b1, 1, none⟩)) (Zl 0 ⟨b1, #[.int .i64 n.op, .int .i64 (a : Int), .int .i64 (b : Int), .int .i64 n.key, .string (mkS n.text)], 48⟩ (off := 1) (.int .i64 (a : Int)) (zM (.pointer (some ⟨bq, of2 + a * 1, none⟩)) (by kernel_rfl) (ZA (b := bq) (off := of2) (c := cv) (n := vs.length) (k := .i64) (j := (a : Int)) (e := 3) (sz := 1) hV) (Zo (.int .i64 za) (a := ⟨bq, of2 + a * 1, none⟩) (fun w hO => Reads.load x7 (hu.on (hO.belowB hM' hBW) (Nat.le_refl _)) hV a 0 ha'' (by omega) _ (by rw [ea]; kernel_rfl)) (Zn (p := (za : Int) = 1) true (decide_eq_true (hz2)) (Zv (.bool false) (ZN (Zf ?_)))))))))
  refine x6 (zJ (z8 (ZO (Zv (.slice A l.length cap) (Zv (.slice V vs.length cv) (Zv (.pointer (some ⟨b1, 1, none⟩)) (Zl 0 ⟨b1, #[.int .i64 n.op, .int .i64 (a : Int), .int .i64 (b : Int), .int .i64 n.key, .string (mkS n.text)], 48⟩ (off := 1) (.int .i64 (a : Int)) (Zv (.slice C out.length cc) (yI (L' := ob ++ ([⟨b1, #[.int .i64 n.op, .int .i64 (a : Int), .int .i64 (b : Int), .int .i64 n.key, .string (mkS n.text)], 48⟩] : List Blk)) (fun w hO => hO.perm (List.perm_append_comm (l₁ := ([⟨b1, #[.int .i64 n.op, .int .i64 (a : Int), .int .i64 (b : Int), .int .i64 n.key, .string (mkS n.text)], 48⟩] : List Blk)) (l₂ := ob))) (zO (k := 34) (args := #[.slice A l.length cap, .slice V vs.length cv, .int .i64 (a : Int), .slice C out.length cc]) (fun v' L' => ∃ ob', L' = ob' ++ ([⟨b1, #[.int .i64 n.op, .int .i64 (a : Int), .int .i64 (b : Int), .int .i64 n.key, .string (mkS n.text)], 48⟩] : List Blk) ∧ SlN v' (out ++ TZa out.length) ob') (by kernel_rfl) (fun _ => by kernel_rfl) (fun w hO => (ha' w B C cc out ob (hv.on (hO.belowB hM' hBW) (Nat.le_refl _)) (hu.on (hO.belowB hM' hBW) (Nat.le_refl _)) hsl (Own.lent hO) (fun x hx => hO.allB hM' hBW x (List.mem_append_left _ hx)) (Nat.le_trans hBW hO.size) (by omega)).mono fun e w' ⟨v', ob', k1, k2, k3⟩ => ⟨v', _, k1, ⟨ob', rfl, k2⟩, Own.join hO k3⟩) (fun v1 L1 hv1 => ?_)))))))))))
  obtain ⟨ob1, rfl, hs1⟩ := hv1
  obtain ⟨C1, c1, rfl⟩ := Sl.form hs1
  refine yI (L' := ([⟨b1, #[.int .i64 n.op, .int .i64 (a : Int), .int .i64 (b : Int), .int .i64 n.key, .string (mkS n.text)], 48⟩] : List Blk) ++ ob1) (fun w hO => hO.perm (List.perm_append_comm (l₁ := ob1) (l₂ := ([⟨b1, #[.int .i64 n.op, .int .i64 (a : Int), .int .i64 (b : Int), .int .i64 n.key, .string (mkS n.text)], 48⟩] : List Blk)))) ?_
  have hll1 : (out ++ TZa out.length).length = out.length + (TZa out.length).length := List.length_append
  refine Zv (.slice C1 ((out ++ TZa out.length).length) c1) (ZR (Zv (.slice C1 ((out ++ TZa out.length).length) c1) (Zv (.int .i64 ((out ++ TZa out.length).length : Int)) (Zu (k := .i64) (((out ++ TZa out.length).length : Int) - 1) (IntWalk.i64_in _ (by omega)) (Zv (.int .i64 (((out ++ TZa out.length).length : Int) - 1)) (ZN (zF ?_)))))))
  refine z7 (Zv (.slice A l.length cap) (Zv (.slice V vs.length cv) (Zv (.pointer (some ⟨b1, 2, none⟩)) (Zl 0 ⟨b1, #[.int .i64 n.op, .int .i64 (a : Int), .int .i64 (b : Int), .int .i64 n.key, .string (mkS n.text)], 48⟩ (off := 2) (.int .i64 (b : Int)) (Zv (.slice C1 ((out ++ TZa out.length).length) c1) (yI (L' := ob1 ++ ([⟨b1, #[.int .i64 n.op, .int .i64 (a : Int), .int .i64 (b : Int), .int .i64 n.key, .string (mkS n.text)], 48⟩] : List Blk)) (fun w hO => hO.perm (List.perm_append_comm (l₁ := ([⟨b1, #[.int .i64 n.op, .int .i64 (a : Int), .int .i64 (b : Int), .int .i64 n.key, .string (mkS n.text)], 48⟩] : List Blk)) (l₂ := ob1))) (zO (k := 34) (args := #[.slice A l.length cap, .slice V vs.length cv, .int .i64 (b : Int), .slice C1 ((out ++ TZa out.length).length) c1]) (fun v' L' => ∃ ob', L' = ob' ++ ([⟨b1, #[.int .i64 n.op, .int .i64 (a : Int), .int .i64 (b : Int), .int .i64 n.key, .string (mkS n.text)], 48⟩] : List Blk) ∧ SlN v' ((out ++ TZa out.length) ++ TZb (out ++ TZa out.length).length) ob') (by kernel_rfl) (fun _ => by kernel_rfl) (fun w hO => (hb' w B C1 c1 (out ++ TZa out.length) ob1 (hv.on (hO.belowB hM' hBW) (Nat.le_refl _)) (hu.on (hO.belowB hM' hBW) (Nat.le_refl _)) hs1 (Own.lent hO) (fun x hx => hO.allB hM' hBW x (List.mem_append_left _ hx)) (Nat.le_trans hBW hO.size) (by rw [List.length_append]; omega)).mono fun e w' ⟨v', ob', k1, k2, k3⟩ => ⟨v', _, k1, ⟨ob', rfl, k2⟩, Own.join hO k3⟩) (fun v2 L2 hv2 => ?_))))))))
  obtain ⟨ob2, rfl, hs2⟩ := hv2
  obtain ⟨C2, c2, rfl⟩ := Sl.form hs2
  refine yI (L' := ([⟨b1, #[.int .i64 n.op, .int .i64 (a : Int), .int .i64 (b : Int), .int .i64 n.key, .string (mkS n.text)], 48⟩] : List Blk) ++ ob2) (fun w hO => hO.perm (List.perm_append_comm (l₁ := ob2) (l₂ := ([⟨b1, #[.int .i64 n.op, .int .i64 (a : Int), .int .i64 (b : Int), .int .i64 n.key, .string (mkS n.text)], 48⟩] : List Blk)))) ?_
  have hll2 : ((out ++ TZa out.length) ++ TZb (out ++ TZa out.length).length).length = (out ++ TZa out.length).length + (TZb (out ++ TZa out.length).length).length := List.length_append
  have hll3 : TZb (out ++ TZa out.length).length = TZb (out.length + (TZa out.length).length) := by rw [hll1]
  have hll4 := congrArg List.length hll3
  refine Zv (.slice C2 (((out ++ TZa out.length) ++ TZb (out ++ TZa out.length).length).length) c2) (ZR (Zv (.slice C2 (((out ++ TZa out.length) ++ TZb (out ++ TZa out.length).length).length) c2) (Zv (.pointer (some ⟨b1, 0, none⟩)) (Zl 0 ⟨b1, #[.int .i64 n.op, .int .i64 (a : Int), .int .i64 (b : Int), .int .i64 n.key, .string (mkS n.text)], 48⟩ (off := 0) (.int .i64 n.op) (Zv (.int .i64 (((out ++ TZa out.length).length : Int) - 1)) (Zv (.slice C2 (((out ++ TZa out.length) ++ TZb (out ++ TZa out.length).length).length) c2) (Zv (.int .i64 (((out ++ TZa out.length) ++ TZb (out ++ TZa out.length).length).length : Int)) (Zu (k := .i64) ((((out ++ TZa out.length) ++ TZb (out ++ TZa out.length).length).length : Int) - 1) (IntWalk.i64_in _ (by omega)) ?_))))))))
  refine Zv (.agg #[.int .i64 n.op, .int .i64 (((out ++ TZa out.length).length : Int) - 1), .int .i64 ((((out ++ TZa out.length) ++ TZb (out ++ TZa out.length).length).length : Int) - 1), .int .i64 0, .string ⟨#[]⟩]) (g0 48 #[.int .i64 n.op, .int .i64 (((out ++ TZa out.length).length : Int) - 1), .int .i64 ((((out ++ TZa out.length) ++ TZb (out ++ TZa out.length).length).length : Int) - 1), .int .i64 0, .string ⟨#[]⟩] (by kernel_rfl) rfl (fun _ => by kernel_rfl) (fun b2 => ?_))
  have hzz : ((out ++ TZa out.length) ++ TZb (out ++ TZa out.length).length).length ≤ 100000 := by simp only [List.length_append]; omega
  obtain ⟨i0, z0, e1, e2, e3, e4, e5⟩ := xD
  refine zH (L' := [⟨b2, #[.int .i64 n.op, .int .i64 (((out ++ TZa out.length).length : Int) - 1), .int .i64 ((((out ++ TZa out.length) ++ TZb (out ++ TZa out.length).length).length : Int) - 1), .int .i64 0, .string ⟨#[]⟩], 48⟩, ⟨b1, #[.int .i64 n.op, .int .i64 (a : Int), .int .i64 (b : Int), .int .i64 n.key, .string (mkS n.text)], 48⟩] ++ ob2 ++ ([] : List Blk)) (by rw [List.append_nil]; rfl) (x0 (sz := 5) (by kernel_rfl) rfl Tryd.underlying23 e1 e2 e3 e4 (by kernel_rfl) hs2 (a := ⟨b2, 0, none⟩) (m := 1) (c := 1) (news := nC (⟨n.op, ((out ++ TZa out.length).length : Int) - 1, ((out ++ TZa out.length ++ TZb (out ++ TZa out.length).length).length : Int) - 1, 0, []⟩ : Nd)) (by kernel_rfl) rfl (fun w hO j u hj => ?_) (fun u hu => by simp only [nC, List.mem_cons, List.not_mem_nil, or_false] at hu; rcases hu with rfl | rfl | rfl | rfl | rfl <;> rfl) (by unfold maxLen; omega) (by rw [e5]; omega) (fun u9 ob9 hu9 => ?_))
  · rw [y5, cell_of_row w b2 (0 + j) (nC (⟨n.op, ((out ++ TZa out.length).length : Int) - 1, ((out ++ TZa out.length ++ TZb (out ++ TZa out.length).length).length : Int) - 1, 0, []⟩ : Nd)).toArray 48 _ (hO.held ⟨b2, (nC (⟨n.op, ((out ++ TZa out.length).length : Int) - 1, ((out ++ TZa out.length ++ TZb (out ++ TZa out.length).length).length : Int) - 1, 0, []⟩ : Nd)).toArray, 48⟩ (List.mem_append_left _ (List.mem_append_left _ (List.mem_cons_self ..))))]; simpa using hj
  have hu9s : SlN u9 (((out ++ TZa out.length) ++ TZb (out ++ TZa out.length).length) ++ [(⟨n.op, ((out ++ TZa out.length).length : Int) - 1, ((out ++ TZa out.length ++ TZb (out ++ TZa out.length).length).length : Int) - 1, 0, []⟩ : Nd)]) ob9 := SlN.add hu9
  obtain ⟨B9, cb9, rfl⟩ := Sl.form hu9s
  exact yI (L' := ⟨b1, #[.int .i64 n.op, .int .i64 (a : Int), .int .i64 (b : Int), .int .i64 n.key, .string (mkS n.text)], 48⟩ :: (ob9)) (fun w hO => Own.sub [⟨b2, #[.int .i64 n.op, .int .i64 (((out ++ TZa out.length).length : Int) - 1), .int .i64 ((((out ++ TZa out.length) ++ TZb (out ++ TZa out.length).length).length : Int) - 1), .int .i64 0, .string ⟨#[]⟩], 48⟩] (show Own _ _ w (⟨b2, #[.int .i64 n.op, .int .i64 (((out ++ TZa out.length).length : Int) - 1), .int .i64 ((((out ++ TZa out.length) ++ TZb (out ++ TZa out.length).length).length : Int) - 1), .int .i64 0, .string ⟨#[]⟩], 48⟩ :: (⟨b1, #[.int .i64 n.op, .int .i64 (a : Int), .int .i64 (b : Int), .int .i64 n.key, .string (mkS n.text)], 48⟩ :: (ob9))) from by rw [List.append_nil] at hO; exact hO)) (Zv (.slice B9 ((((out ++ TZa out.length) ++ TZb (out ++ TZa out.length).length) ++ [(⟨n.op, ((out ++ TZa out.length).length : Int) - 1, ((out ++ TZa out.length ++ TZb (out ++ TZa out.length).length).length : Int) - 1, 0, []⟩ : Nd)]).length) cb9) (ZN (zG (ZF (.slice B9 ((((out ++ TZa out.length) ++ TZb (out ++ TZa out.length).length) ++ [(⟨n.op, ((out ++ TZa out.length).length : Int) - 1, ((out ++ TZa out.length ++ TZb (out ++ TZa out.length).length).length : Int) - 1, 0, []⟩ : Nd)]).length) cb9) Tryd.results34 (fun w hO => ⟨_, ob9, rfl, SlN.re hu9s (by rw [hll2, hll1]; simp), hO.sublist (by simp)⟩)))))
end
section
set_option linter.unnecessarySimpa false
theorem LeftTo.to {A : Option Addr} {cap : Nat} {l : List Nd} {V : Option Addr} {cv : Nat} {vs : List Int} {a : Nat} {Z Z' : Nat → List Nd} (h : LeftTo A cap l V cv vs a Z) (e : ∀ o, Z o = Z' o) : LeftTo A cap l V cv vs a Z' := by
  have : Z = Z' := funext e
  subst this; exact h
def gE (e : Pf) (vs : List Int) (o : Nat) (t : Tr) : Prop := ∀ i z, (vlT e t)[i]? = some z → vs[o + i]? = some z
theorem qC {vs : List Int} {o : Nat} {p q : List Int} (h : ∀ i z, (p ++ q)[i]? = some z → vs[o + i]? = some z) : ∀ i z, p[i]? = some z → vs[o + i]? = some z := fun i z hi => h i z (by rw [List.getElem?_append_left (List.getElem?_eq_some_iff.1 hi).1]; exact hi)
theorem bE {vs : List Int} {o k : Nat} {p q : List Int} (hk : p.length = k) (h : ∀ i z, (p ++ q)[i]? = some z → vs[o + i]? = some z) : ∀ i z, q[i]? = some z → vs[o + k + i]? = some z := fun i z hi => by
  have := h (k + i) z (by rw [List.getElem?_append_right (by omega), hk, Nat.add_sub_cancel_left]; exact hi)
  rw [← Nat.add_assoc] at this; exact this
theorem vM {e : Pf} {vs : List Int} {o : Nat} {t : Tr} (h : gE e vs o t) : vs[o + t.sz - 1]? = some (evT e t) := by
  have hz := t.sz_pos
  have := h _ _ (vN e t)
  rw [← Nat.add_sub_assoc (by omega)] at this
  exact this
theorem kE {A : Option Addr} {cap : Nat} {l : List Nd} (hn : l.length ≤ 1000) {V : Option Addr} {cv : Nat} {vs : List Int} (hvn : vs.length ≤ 1000) (e : Pf) : ∀ (t : Tr) (o : Nat), xA l o t → gE e vs o t → evT e t = 1 → LeftTo A cap l V cv vs (o + t.sz - 1) (fun q => (zI e t).enc q)
  | .is k v, o, hs, _, _ => (lf_is hn hvn (hs 0 _ rfl) rfl).to fun q => rfl
  | .no x, o, hs, hv, h1 => by
    have hxz := x.sz_pos
    have hx1 : evT e x = 1 := by unfold evT at h1; omega
    have hs1 : xA l o x := yL hs
    have hv1 : gE e vs o x := qC hv
    have hr := yD (k := x.sz) (Tr.enc_len x o) hs 0 _ rfl
    have ih := kE (A := A) (cap := cap) (V := V) (cv := cv) hn hvn e x o hs1 hv1 hx1
    have goal : LeftTo A cap l V cv vs (o + x.sz + 0) (fun q => (zI e (.no x)).enc q) := (lf_not hn hvn hr rfl rfl ih).to fun q => by
      have hz := (zI e x).sz_pos
      show _ = (zI e x).enc q ++ [⟨2, ((q + (zI e x).sz - 1 : Nat) : Int), 0, 0, []⟩]
      rw [Tr.enc_len, show (((q + (zI e x).sz : Nat) : Int) - 1) = ((q + (zI e x).sz - 1 : Nat) : Int) by omega]
    show LeftTo A cap l V cv vs (o + (x.sz + 1) - 1) _
    rw [show o + (x.sz + 1) - 1 = o + x.sz + 0 by omega]; exact goal
  | .both x y, o, hs, hv, h1 => by
    obtain ⟨p1, p2⟩ := wD h1
    have hxz := x.sz_pos
    have hyz := y.sz_pos
    have hs0 : ∀ i u, (x.enc o ++ y.enc (o + x.sz))[i]? = some u → l[o + i]? = some u := yL hs
    have hs1 : xA l o x := yL hs0
    have hs2 : xA l (o + x.sz) y := yD (Tr.enc_len x o) hs0
    have hv0 : ∀ i z, (vlT e x ++ vlT e y)[i]? = some z → vs[o + i]? = some z := qC hv
    have hv1 : gE e vs o x := qC hv0
    have hv2 : gE e vs (o + x.sz) y := bE (zQ e x) hv0
    have hr := yD (k := x.sz + y.sz) (by rw [List.length_append, Tr.enc_len, Tr.enc_len]) hs 0 _ rfl
    have ra := vM hv1
    have rb := vM hv2
    have goal : LeftTo A cap l V cv vs (o + (x.sz + y.sz) + 0) (fun q => (zI e (.both x y)).enc q) := by
      by_cases hy : evT e y = 1
      · by_cases hx : evT e x = 1
        · have ihx := kE (A := A) (cap := cap) (V := V) (cv := cv) hn hvn e x o hs1 hv1 hx
          have ihy := kE (A := A) (cap := cap) (V := V) (cv := cv) hn hvn e y (o + x.sz) hs2 hv2 hy
          refine (lf_b hn hvn hr rfl rfl (by simp) (by simp) rb hy ra hx ihx ihy).to fun q => ?_
          have e1 : zI e (.both x y) = .both (zI e x) (zI e y) := by simp [zI, hx, hy]
          rw [e1]
          have hz := (zI e x).sz_pos
          have hz2 := (zI e y).sz_pos
          show _ = (zI e x).enc q ++ (zI e y).enc (q + (zI e x).sz) ++ [⟨3, ((q + (zI e x).sz - 1 : Nat) : Int), ((q + (zI e x).sz + (zI e y).sz - 1 : Nat) : Int), 0, []⟩]
          simp only [Tr.enc_len]
          rw [show (((q + (zI e x).sz : Nat) : Int) - 1) = ((q + (zI e x).sz - 1 : Nat) : Int) by omega, show (((q + (zI e x).sz + (zI e y).sz : Nat) : Int) - 1) = ((q + (zI e x).sz + (zI e y).sz - 1 : Nat) : Int) by omega]
        · have ihy := kE (A := A) (cap := cap) (V := V) (cv := cv) hn hvn e y (o + x.sz) hs2 hv2 hy
          have e1 : zI e (.both x y) = zI e y := by simp [zI, hx, hy]
          refine (lf_r hn hvn hr rfl rfl (by simp) (by simp) rb hy ra hx ihy).to fun q => ?_
          rw [e1]
      · have ihx := kE (A := A) (cap := cap) (V := V) (cv := cv) hn hvn e x o hs1 hv1 (p1 hy).1
        have e1 : zI e (.both x y) = zI e x := by simp [zI, hy]
        refine (lf_l hn hvn hr rfl rfl (by simp) (by simp) rb hy ihx).to fun q => ?_
        rw [e1]
    show LeftTo A cap l V cv vs (o + (x.sz + y.sz + 1) - 1) _
    rw [show o + (x.sz + y.sz + 1) - 1 = o + (x.sz + y.sz) + 0 by omega]; exact goal
  | .one x y, o, hs, hv, h1 => by
    obtain ⟨p1, p2⟩ := bK h1
    have hxz := x.sz_pos
    have hyz := y.sz_pos
    have hs0 : ∀ i u, (x.enc o ++ y.enc (o + x.sz))[i]? = some u → l[o + i]? = some u := yL hs
    have hs1 : xA l o x := yL hs0
    have hs2 : xA l (o + x.sz) y := yD (Tr.enc_len x o) hs0
    have hv0 : ∀ i z, (vlT e x ++ vlT e y)[i]? = some z → vs[o + i]? = some z := qC hv
    have hv1 : gE e vs o x := qC hv0
    have hv2 : gE e vs (o + x.sz) y := bE (zQ e x) hv0
    have hr := yD (k := x.sz + y.sz) (by rw [List.length_append, Tr.enc_len, Tr.enc_len]) hs 0 _ rfl
    have ra := vM hv1
    have rb := vM hv2
    have goal : LeftTo A cap l V cv vs (o + (x.sz + y.sz) + 0) (fun q => (zI e (.one x y)).enc q) := by
      by_cases hy : evT e y = 1
      · by_cases hx : evT e x = 1
        · have ihx := kE (A := A) (cap := cap) (V := V) (cv := cv) hn hvn e x o hs1 hv1 hx
          have ihy := kE (A := A) (cap := cap) (V := V) (cv := cv) hn hvn e y (o + x.sz) hs2 hv2 hy
          refine (lf_b hn hvn hr rfl rfl (by simp) (by simp) rb hy ra hx ihx ihy).to fun q => ?_
          have e1 : zI e (.one x y) = .one (zI e x) (zI e y) := by simp [zI, hx, hy]
          rw [e1]
          have hz := (zI e x).sz_pos
          have hz2 := (zI e y).sz_pos
          show _ = (zI e x).enc q ++ (zI e y).enc (q + (zI e x).sz) ++ [⟨4, ((q + (zI e x).sz - 1 : Nat) : Int), ((q + (zI e x).sz + (zI e y).sz - 1 : Nat) : Int), 0, []⟩]
          simp only [Tr.enc_len]
          rw [show (((q + (zI e x).sz : Nat) : Int) - 1) = ((q + (zI e x).sz - 1 : Nat) : Int) by omega, show (((q + (zI e x).sz + (zI e y).sz : Nat) : Int) - 1) = ((q + (zI e x).sz + (zI e y).sz - 1 : Nat) : Int) by omega]
        · have ihy := kE (A := A) (cap := cap) (V := V) (cv := cv) hn hvn e y (o + x.sz) hs2 hv2 hy
          have e1 : zI e (.one x y) = zI e y := by simp [zI, hx, hy]
          refine (lf_r hn hvn hr rfl rfl (by simp) (by simp) rb hy ra hx ihy).to fun q => ?_
          rw [e1]
      · have ihx := kE (A := A) (cap := cap) (V := V) (cv := cv) hn hvn e x o hs1 hv1 (p1 hy).1
        have e1 : zI e (.one x y) = zI e x := by simp [zI, hy]
        refine (lf_l hn hvn hr rfl rfl (by simp) (by simp) rb hy ihx).to fun q => ?_
        rw [e1]
    show LeftTo A cap l V cv vs (o + (x.sz + y.sz + 1) - 1) _
    rw [show o + (x.sz + y.sz + 1) - 1 = o + (x.sz + y.sz) + 0 by omega]; exact goal
theorem w6 {l : List Nd} {e : Pf} (h : zL l e = 1) : ∃ t : Tr, t.ok = true ∧ l = t.enc 0 ∧ t.sz ≤ 15 ∧ evT e t = 1 ∧ zN l e = (zI e t).enc 0 := by
  have h0 := h
  unfold zL at h
  split at h
  · rename_i hc
    rw [Bool.and_eq_true] at hc
    rcases kG hc.1 with rfl | ⟨t, hok, rfl, hsz, htx⟩
    · rw [dC] at h; cases h
    · rw [g8 hok] at h
      exact ⟨t, hok, rfl, hsz, h, by unfold zN; rw [if_pos h0, g8 hok]⟩
  · cases h
theorem left_call {A : Option Addr} {cap : Nat} {l : List Nd} {V : Option Addr} {cv : Nat} {e : Pf} {t : Tr} (hn : l.length ≤ 1000) (hok : t.ok = true) (hl : l = t.enc 0) (hsz : t.sz ≤ 15) (hev : evT e t = 1) (w : World) (hv : Reads nC w w.heap.size A l) (hu : Reads zC w w.heap.size V (vlT e t)) :
    Calls Tryd.prog 34 #[.slice A l.length cap, .slice V (vlT e t).length cv, .int .i64 ((l.length : Int) - 1), .slice none 0 0] w fun x w' => ∃ v' ob', x = .returned v' ∧ SlN v' ((zI e t).enc 0) ob' ∧ Own [] w w' ob' := by
  have hlen : l.length = t.sz := by rw [hl, Tr.enc_len]
  have hpos := t.sz_pos
  have hvl := zQ e t
  have hs2 := vJ e t
  have q := kE (A := A) (cap := cap) (V := V) (cv := cv) hn (by omega : (vlT e t).length ≤ 1000) e t 0 (hl ▸ gS t) (fun i z h => by rw [Nat.zero_add]; exact h) hev w w.heap.size none 0 [] [] hv hu (Sl.nil _ _) (Own.start [] w) (fun x hx => absurd hx (by simp)) (Nat.le_refl _) (by rw [Tr.enc_len]; simp only [List.length_nil]; omega)
  rw [show ((0 + t.sz - 1 : Nat) : Int) = (l.length : Int) - 1 by omega] at q
  exact q
theorem gR {l : List Nd} {e : Pf} (h : ¬ zL l e = 1) : zN l e = [] := if_neg h
theorem pR (A : Option Addr) (cap : Nat) (l : List Nd) (e : Pf) (W : World) (hv : Reads nC W W.heap.size A l) (hn : l.length ≤ 1000) (ht : ∀ n ∈ l, n.text.length ≤ 1000000) (he : PfS e) : Calls Tryd.prog 17 #[.agg #[.slice A l.length cap], pfV e] W fun x w' => ∃ v' ob', x = .returned (.tuple #[.agg #[v'], .int .i64 (zL l e)]) ∧ SlN v' (zN l e) ob' ∧ Own [] W w' ob' := by
  refine zU (n := 26) Tryd.func17 rfl (by kernel_rfl) (by kernel_rfl) (ZO (Zb (.agg #[.slice A l.length cap]) (fun b1 => Zb (pfV e) (fun b2 => Za (.agg #[.slice none 0 0]) (fun b3 => Zv (.int .i64 0) (ZR (Zl 2 ⟨b1, #[.slice A l.length cap], 25⟩ (off := 0) (.agg #[.slice A l.length cap]) ?_)))))))
  refine Zl 1 ⟨b2, (pfV e).cells, 33⟩ (off := 0) (pfV e) (Zc (k := 33) (args := #[.agg #[.slice A l.length cap], pfV e]) (.int .i64 (zL l e)) (fun w hO => tT A cap l e w (hv.on hO.below hO.size) hn ht he) (Zv (.int .i64 (zL l e)) (ZN (zF (ZO (Zv (.int .i64 (zL l e)) ?_))))))
  by_cases h1 : (zL l e : Int) = 1
  · obtain ⟨t, hok, hl, hsz, hev, hun⟩ := w6 h1
    have hlen : l.length = t.sz := by rw [hl, Tr.enc_len]
    have hpos := t.sz_pos
    have hvl := zQ e t
    have hst : xA l 0 t := hl ▸ gS t
    have hvst : gE e (vlT e t) 0 t := fun i z h => by rw [Nat.zero_add]; exact h
    refine Zn (p := (zL l e : Int) = 1) true (decide_eq_true (h1)) (ZX (ZB (zF (kQ ([⟨b2, (pfV e).cells, 33⟩, ⟨b1, #[.slice A l.length cap], 25⟩]) (by kernel_rfl) (fun w hO => Own.sub [⟨b3, #[.slice none 0 0], 25⟩] hO) (ZT 0 [⟨b3, #[.slice none 0 0], 25⟩] _ (.pointer (some ⟨b1, 0, none⟩)) (zA zB) rfl (ZL 1 [⟨b3, #[.slice none 0 0], 25⟩] _ 1 ⟨b1, #[.slice A l.length cap], 25⟩ (off := 0) (.slice A l.length cap) (zA zB) rfl rfl (ZL 2 [⟨b3, #[.slice none 0 0], 25⟩] _ 1 ⟨b1, #[.slice A l.length cap], 25⟩ (off := 0) (.agg #[.slice A l.length cap]) (zA zB) rfl rfl (ZL 3 [⟨b3, #[.slice none 0 0], 25⟩] _ 0 ⟨b2, (pfV e).cells, 33⟩ (off := 0) (pfV e) (zA zB) rfl rfl ?_))))))))
    refine ZT 5 [⟨b3, #[.slice none 0 0], 25⟩] _ (.pointer (some ⟨b1, 0, none⟩)) (zA zB) rfl (ZL 6 [⟨b3, #[.slice none 0 0], 25⟩] _ 1 ⟨b1, #[.slice A l.length cap], 25⟩ (off := 0) (.slice A l.length cap) (zA zB) rfl rfl (ZT 7 [⟨b3, #[.slice none 0 0], 25⟩] _ (.int .i64 (l.length : Int)) (zA zB) rfl (vZ (k := .i64) 8 _ ((l.length : Int) - 1) rfl (by kernel_rfl) (by kernel_rfl) (by kernel_rfl) (zA zB) (fun w hO => Own.sub [⟨b3, #[.slice none 0 0], 25⟩] hO) (by kernel_rfl) (fun _ => by kernel_rfl) (IntWalk.i64_in _ (by omega)) (ZT 11 [⟨b3, #[.slice none 0 0], 25⟩] _ (.int .i64 (zL l e)) (zA zB) rfl (yK 4 (by kernel_rfl) (vW _ (k := 35) (args := #[.agg #[.slice A l.length cap], pfV e]) (fun v' L' => ∃ ob', L' = ob' ++ ([⟨b3, #[.slice none 0 0], 25⟩] ++ ([⟨b2, (pfV e).cells, 33⟩, ⟨b1, #[.slice A l.length cap], 25⟩])) ∧ SlZ v' (vlT e t) ob') rfl (by kernel_rfl) (fun _ => by kernel_rfl) (fun w hO => (bV A cap e t l w hl hok (hv.on hO.below hO.size) hn he).mono fun e w' ⟨v', ob', k1, k2, k3⟩ => ⟨v', _, k1, ⟨ob', rfl, k2⟩, Own.joinN hO k3⟩) (fun v' L' ⟨ob', e, _⟩ w hO => by subst e; exact Own.sub [⟨b3, #[.slice none 0 0], 25⟩] (Own.sub ob' hO)) (fun vs L2 hv2 => ?_)))))))
    obtain ⟨ov, rfl, hvs⟩ := hv2
    obtain ⟨V, cv, rfl⟩ := Sl.form hvs
    refine yT (L' := (ov ++ ([⟨b3, #[.slice none 0 0], 25⟩] : List Blk)) ++ ([⟨b2, (pfV e).cells, 33⟩, ⟨b1, #[.slice A l.length cap], 25⟩])) (List.append_assoc _ _ _).symm (yK 9 (by kernel_rfl) (vW _ (k := 34) (args := #[.slice A l.length cap, .slice V ((vlT e t).length) cv, .int .i64 ((l.length : Int) - 1), .slice none 0 0]) (fun v' L' => ∃ ob', L' = ob' ++ ((ov ++ ([⟨b3, #[.slice none 0 0], 25⟩] : List Blk)) ++ ([⟨b2, (pfV e).cells, 33⟩, ⟨b1, #[.slice A l.length cap], 25⟩])) ∧ SlN v' ((zI e t).enc 0) ob') rfl (by kernel_rfl) (fun _ => by kernel_rfl) (fun w hO => (left_call hn hok hl hsz hev w (hv.on hO.below hO.size) (Sl.reads hvs rfl hO (fun x hx => by simp [hx]))).mono fun e w' ⟨v', ob', k1, k2, k3⟩ => ⟨v', _, k1, ⟨ob', rfl, k2⟩, Own.joinN hO k3⟩) (fun v' L' ⟨ob', e, _⟩ w hO => by subst e; exact Own.sub (ov ++ ([⟨b3, #[.slice none 0 0], 25⟩] : List Blk)) (Own.sub ob' hO)) (fun us L2 hv2 => ?_)))
    obtain ⟨ou, rfl, hus⟩ := hv2
    obtain ⟨U, cu, rfl⟩ := Sl.form hus
    exact yT (L' := (ou ++ (ov ++ ([⟨b3, #[.slice none 0 0], 25⟩] : List Blk))) ++ ([⟨b2, (pfV e).cells, 33⟩, ⟨b1, #[.slice A l.length cap], 25⟩])) (List.append_assoc _ _ _).symm (ZT 10 (ou ++ (ov ++ ([⟨b3, #[.slice none 0 0], 25⟩] : List Blk))) _ (.agg #[.slice U (((zI e t).enc 0).length) cu]) (zA zB) rfl (yK 12 (by kernel_rfl) (hs_front (E' := (⟨b3, #[.slice none 0 0], 25⟩ :: (ou ++ (ov ++ ([] : List Blk))))) (by simpa [List.append_assoc] using (List.perm_middle (a := ⟨b3, #[.slice none 0 0], 25⟩) (l₁ := (ou ++ (ov ++ ([] : List Blk)))) (l₂ := []))) (ZS (⟨b3, #[.slice none 0 0], 25⟩ :: (ou ++ (ov ++ ([] : List Blk)))) _ 0 ⟨b3, #[.slice none 0 0], 25⟩ (off := 0) (.agg #[.slice U (((zI e t).enc 0).length) cu]) rfl rfl (ZT 13 (⟨b3, #[.slice U (((zI e t).enc 0).length) cu], 25⟩ :: (ou ++ (ov ++ ([] : List Blk)))) _ (.int .i64 (zL l e)) (zA zB) rfl (xR (by kernel_rfl) (z8 (zG (ZD 0 ⟨b3, #[.slice U (((zI e t).enc 0).length) cu], 25⟩ (off := 0) (.agg #[.slice U (((zI e t).enc 0).length) cu]) (.int .i64 (zL l e)) Tryd.results17 (fun w hO => ⟨_, ou, rfl, by rw [hun]; exact hus, hO.sublist (by simp)⟩))))))))))
  refine Zn (p := (zL l e : Int) = 1) false (decide_eq_false (h1)) (ZY (ZO (Zv (.agg #[.slice none 0 0]) (Zv (.int .i64 (zL l e)) (Zs 0 ⟨b3, #[.slice none 0 0], 25⟩ (off := 0) (.agg #[.slice none 0 0]) (Zv (.int .i64 (zL l e)) (zK (z8 ?_))))))))
  exact zG (z5 (ZD 0 ⟨b3, #[.slice none 0 0], 25⟩ (off := 0) (.agg #[.slice none 0 0]) (.int .i64 (zL l e)) Tryd.results17 (fun w hO => ⟨_, [], rfl, by rw [gR h1]; exact Sl.nil _ _, hO.sublist (by simp)⟩)))
theorem nd_dec (u v : Nd) : decide (u = v) = (decide (u.op = v.op) && (decide (u.a = v.a) && (decide (u.b = v.b) && (decide (u.key = v.key) && decide (u.text = v.text))))) := by
  obtain ⟨a, b, c, d, e⟩ := u
  obtain ⟨a', b', c', d', e'⟩ := v
  simp only [Nd.mk.injEq, Bool.decide_and]
theorem eq_nd (u v : Nd) (d : Nat) (w : World) : (Op.equalIn (d + 1 + 1) 48 (ndV u) (ndV v)).run Tryd.prog w = .ok (decide (u = v)) w := by
  have h := eq_agg (P := Tryd.prog) (d := d + 1) (t := 48) (xs := (ndV u).cells) (ys := (ndV v).cells) (bs := [u.op == v.op, u.a == v.a, u.b == v.b, u.key == v.key, (mkS u.text).toList == (mkS v.text).toList]) Tryd.underlying48 (by kernel_rfl)
    ⟨by decide, ⟨.int .i64 u.op, .int .i64 v.op, fun w => ⟨by kernel_rfl, by kernel_rfl, run_equalIn_int w d _ _ _ _ _ Tryd.underlying3⟩⟩,
     by decide, ⟨.int .i64 u.a, .int .i64 v.a, fun w => ⟨by kernel_rfl, by kernel_rfl, run_equalIn_int w d _ _ _ _ _ Tryd.underlying3⟩⟩,
     by decide, ⟨.int .i64 u.b, .int .i64 v.b, fun w => ⟨by kernel_rfl, by kernel_rfl, run_equalIn_int w d _ _ _ _ _ Tryd.underlying3⟩⟩,
     by decide, ⟨.int .i64 u.key, .int .i64 v.key, fun w => ⟨by kernel_rfl, by kernel_rfl, run_equalIn_int w d _ _ _ _ _ Tryd.underlying3⟩⟩,
     by decide, ⟨.string (mkS u.text), .string (mkS v.text), fun w => ⟨by kernel_rfl, by kernel_rfl, run_equalIn_string w d _ _ _ Tryd.underlying9⟩⟩, trivial⟩ w
  rw [all5, pO, mA, mA, mA, mA, ← nd_dec] at h
  exact h
theorem guard_nd : Tryd.prog.eqGuardType Tryd.prog.depth 48 = false := by kernel_rfl
theorem vU {ρ : Operand → Value} {o : Oper} {t' : TypeId} {x y : Operand} {u v : Nd} {b : Bool} (ho : o.op = .binOp .neq 48 x y t') (hx : ρ x = ndV u) (hy : ρ y = ndV v) (hb : decide (u = v) = b) (w : World) : (execOp ρ o).run Tryd.prog w = .ok (.value (.bool (!b))) w :=
  run_ne_op ho hx hy guard_nd (fun w => hb ▸ eq_nd u v 9998 w) w
theorem nd_step {a b : List Nd} {k : Nat} (ha : k < a.length) (hb : k < b.length) (h : a.take k = b.take k) (e : a[k] = b[k]) : a.take (k + 1) = b.take (k + 1) := by
  rw [List.take_succ_eq_append_getElem ha, List.take_succ_eq_append_getElem hb, h, e]
theorem qQ (A B : Option Addr) (capa capb : Nat) (a b : List Nd) (W : World) (hv : Reads nC W W.heap.size A a) (hu : Reads nC W W.heap.size B b) (hn : a.length ≤ 1000000) (hm : b.length ≤ 1000000) : Calls Tryd.prog 13 #[.agg #[.slice A a.length capa], .agg #[.slice B b.length capb]] W fun e w' => e = .returned (.bool (decide (a = b))) ∧ Below W.heap.size W w' := by
  refine zU (n := 31) Tryd.func13 rfl (by kernel_rfl) (by kernel_rfl) (ZO (Zb (.agg #[.slice A a.length capa]) (fun b1 => Zb (.agg #[.slice B b.length capb]) (fun b2 => Zv (.bool false) (ZN (zF (ZO (Zv (.pointer (some ⟨b1, 0, none⟩)) ?_))))))))
  refine Zl 1 ⟨b1, #[.slice A a.length capa], 25⟩ (off := 0) (.slice A a.length capa) (Zv (.int .i64 (a.length : Int)) (Zv (.pointer (some ⟨b2, 0, none⟩)) (Zl 0 ⟨b2, #[.slice B b.length capb], 25⟩ (off := 0) (.slice B b.length capb) (Zv (.int .i64 (b.length : Int)) ?_))))
  by_cases h1 : (a.length : Int) = (b.length : Int)
  · refine dE (p := (a.length : Int) = (b.length : Int)) true (by kernel_rfl) (fun _ => by kernel_rfl) (decide_eq_true (h1)) ?_
    refine ZX (ZB (zF (ZO (Zv (.int .i64 0) (ZN (zP ?_))))))
    refine xT (fun L f m => ∃ (k : Nat) (j : Nat → Value), (k ≤ a.length ∧ a.take k = b.take k) ∧ L = [⟨b2, #[.slice B b.length capb], 25⟩, ⟨b1, #[.slice A a.length capa], 25⟩] ∧ f = qT j [(2, .pointer (some ⟨b1, 0, none⟩)), (3, .pointer (some ⟨b2, 0, none⟩)), (5, .int .i64 (k : Int))] ∧ m = a.length - k) (a.length - 0) ⟨0, _, ⟨Nat.zero_le _, rfl⟩, rfl, ZU, rfl⟩ ?_
    rintro L f m ⟨k, j, hrel, rfl, rfl, rfl⟩
    have hk6 := hrel.1
    refine zF (ZO (Zv (.int .i64 (k : Int)) (Zv (.pointer (some ⟨b1, 0, none⟩)) (Zl 1 ⟨b1, #[.slice A a.length capa], 25⟩ (off := 0) (.slice A a.length capa) (Zv (.int .i64 (a.length : Int)) ?_)))))
    by_cases h2 : (k : Int) < (a.length : Int)
    · have hka : k < a.length := by omega
      have hkb : k < b.length := by omega
      obtain ⟨ba, oa, hA, hlta, hcella⟩ := hv (by omega)
      obtain ⟨bb, ob, hB, hltb, hcellb⟩ := hu (by omega)
      obtain ⟨x, hx⟩ : ∃ x, a[k] = x := ⟨_, rfl⟩
      obtain ⟨y, hy⟩ : ∃ y, b[k] = y := ⟨_, rfl⟩
      refine Zd (p := (k : Int) < (a.length : Int)) true (decide_eq_true (h2)) (ZY (ZB (zF (zP (zF (xU (by kernel_rfl) (by kernel_rfl) (Zw (.pointer (some ⟨b1, 0, none⟩)) (Zm 1 ⟨b1, #[.slice A a.length capa], 25⟩ (off := 0) (.slice A a.length capa) ?_))))))))
      refine Zw (.int .i64 (k : Int)) (yQ (.pointer (some ⟨ba, oa + k * 5, none⟩)) (by kernel_rfl) (ZA (b := ba) (off := oa) (c := capa) (n := a.length) (k := .i64) (j := (k : Int)) (e := 48) (sz := 5) hA) (qW (ndV x) (a := ⟨ba, oa + k * 5, none⟩) (by kernel_rfl) rfl (by kernel_rfl) (fun w hO => Reads.load yX (hv.on hO.below hO.size) hA k 0 hka (by omega) _ (by rw [hx]; kernel_rfl)) (Zw (.pointer (some ⟨b2, 0, none⟩)) (Zm 0 ⟨b2, #[.slice B b.length capb], 25⟩ (off := 0) (.slice B b.length capb) (Zw (.int .i64 (k : Int)) (yQ (.pointer (some ⟨bb, ob + k * 5, none⟩)) (by kernel_rfl) (ZA (b := bb) (off := ob) (c := capb) (n := b.length) (k := .i64) (j := (k : Int)) (e := 48) (sz := 5) hB) (qW (ndV y) (a := ⟨bb, ob + k * 5, none⟩) (by kernel_rfl) rfl (by kernel_rfl) (fun w hO => Reads.load yX (hu.on hO.below hO.size) hB k 0 hkb (by omega) _ (by rw [hy]; kernel_rfl)) ?_)))))))
      by_cases h3 : x = y
      · refine yQ (.bool false) (by kernel_rfl) (vU (u := x) (v := y) rfl (by kernel_rfl) (by kernel_rfl) (decide_eq_true (h3))) ?_
        exact yU (z8 (Zf (x6 (zJ (z8 (z7 (Zv (.int .i64 (k : Int)) (Zu (k := .i64) (((k + 1 : Nat) : Int)) (IntWalk.i64_in _ (by omega)) (Zv (.int .i64 ((k + 1 : Nat) : Int)) (zK (zS (m' := a.length - (k + 1)) (by omega) ⟨k + 1, _, ⟨by omega, nd_step hka hkb hrel.2 (by rw [hx, hy, h3])⟩, rfl, ZU, rfl⟩)))))))))))
      refine yQ (.bool true) (by kernel_rfl) (vU (u := x) (v := y) rfl (by kernel_rfl) (by kernel_rfl) (decide_eq_false (h3))) (yU (z8 (Zt (ZO (Zv (.bool false) (ZN (zG (zD (z5 ?_)))))))))
      exact yE (zD (z5 (ZF (.bool false) Tryd.results13 (fun w hO => ⟨by rw [show decide (a = b) = false from decide_eq_false fun q => h3 (by rw [← hx, ← hy]; simp only [q])], hO.below⟩))))
    refine Zd (p := (k : Int) < (a.length : Int)) false (decide_eq_false (h2)) (ZX (xN (yG (zY (zZ (z8 (ZO (Zv (.bool true) ?_))))))))
    exact ZN (zG (ZF (.bool true) Tryd.results13 (fun w hO => ⟨by rw [show a = b from by have q := hrel.2; rw [List.take_of_length_le (by omega), List.take_of_length_le (by omega)] at q; exact q]; simp, hO.below⟩)))
  refine Zn (p := (a.length : Int) = (b.length : Int)) false (decide_eq_false (h1)) (ZY (ZO (Zv (.bool false) (ZN (zG (z5 (ZF (.bool false) Tryd.results13 ?_)))))))
  exact fun w hO => ⟨by rw [show decide (a = b) = false from decide_eq_false fun q => h1 (by rw [q])], hO.below⟩
end
end Go.Proofs.YthanpjfmlipdnaaDoor
