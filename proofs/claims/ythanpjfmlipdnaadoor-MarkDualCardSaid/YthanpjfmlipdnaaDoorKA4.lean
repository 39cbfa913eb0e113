/-
  What the statement's proof leans on: the ways of walking, qX mathematics, and what the program's functions return; each theorem says on what conditions.
-/
import Derived.Lib.OthersKept
import Derived.Shelf.Strings.Builder1
import Derived.Shelf.Small.Utf8
import Derived.Shelf.Strings.BuilderF
import Derived.Shelf.Strings.BuilderK
import Derived.Shelf.LaysM
import Derived.Shelf.Strconv.Clone
import Derived.Shelf.Strings.Prefix
import Derived.Shelf.Strings.BuilderCap
import Derived.Test.YthanpjfmlipdnaaDoorProg
import Derived.Lib.Strings
import Derived.Lib.Slices
import Derived.Lib.Walk
import Derived.Lib.Builder
import Derived.Lib.AppendStr
import Derived.Lib.UnsafeStr
import Derived.WalkKit
import Derived.Laws.Externs
import Derived.Shelf.RegionOpenPlain
import Derived.Lib.ItoaNum
import Derived.Lib.ItoaMem
import Derived.Lib.AppendIntMem
import Derived.Lib.ItoaLen
import Derived.Test.YthanpjfmlipdnaaDoorKA3
set_option maxRecDepth 1000000
set_option maxHeartbeats 8000000
set_option linter.unusedVariables false
set_option linter.unusedSimpArgs false
namespace Go.Proofs.YthanpjfmlipdnaaDoor
open Go.RowKit

section
set_option linter.unnecessarySimpa false
def Nb (b : Nat) (nd : List Nd) (ob : List Blk) : Prop := ∃ C cc g, ob = ⟨b, #[.slice C nd.length cc], 53⟩ :: g ∧ SlN (.slice C nd.length cc) nd g
def Rb (b : Nat) (A : Option Addr) (m cap : Nat) (bad : Bool) (nd : List Nd) (ob : List Blk) : Prop := ∃ C cc g, ob = ⟨b, #[.slice C nd.length cc, .slice A m cap, .bool bad], 55⟩ :: g ∧ SlN (.slice C nd.length cc) nd g
theorem kT {b n cc : Nat} {C : Option Addr} {cs : Array Value} {T : TypeId} (W : World) (hb : W.heap[b]? = some (.cells cs T)) (hc : xQ Tryd.prog 23 cs 0 = some (.slice C n cc)) (hn : n ≤ 1000000) : Calls Tryd.prog 56 #[.pointer (some ⟨b, 0, none⟩)] W fun e w' => e = .returned (.int .i64 ((n : Int) - 1)) ∧ Below W.heap.size W w' := by
  refine zU (n := 9) Tryd.func56 rfl (by kernel_rfl) (by kernel_rfl) (ZO (Zv (.int .i64 0) (ZR (Zv (.pointer (some ⟨b, 0, none⟩)) (Zv (.pointer (some ⟨b, 0, none⟩)) (Zv (.pointer (some ⟨b, 0, none⟩)) (Zo (.slice C n cc) (a := ⟨b, 0, none⟩) (fun w hO => yO hc ((hO.below.block b (Array.getElem?_eq_some_iff.1 hb).1).trans hb)) ?_)))))))
  exact Zv (.int .i64 (n : Int)) (Zu (k := .i64) (((n : Int) : Int) - 1) (IntWalk.i64_in _ (by omega)) (Zv (.int .i64 (((n : Int) : Int) - 1)) (ZN (zG (ZF (.int .i64 (((n : Int) : Int) - 1)) Tryd.results56 (fun w hO => ⟨rfl, hO.below⟩))))))
theorem nis10_any {b : Nat} {nd : List Nd} {ob : List Blk} {W : World} (hb : Nb b nd ob) (hO : Own (ob.map Blk.b) W W ob) (hn9 : nd.length ≤ 1000000) (k : Int) (v : List UInt8) : Calls Tryd.prog 53 #[.pointer (some ⟨b, 0, none⟩), .int .i64 k, .string (mkS v)] W fun e w' => ∃ ob', e = .returned (.tuple #[]) ∧ Nb b (nd ++ [(⟨1, 0, 0, k, v⟩ : Nd)]) ob' ∧ Own (ob.map Blk.b) W w' ob' := by
  obtain ⟨C, cc, g, rfl, hsl⟩ := hb
  have hnl : (nd ++ [(⟨1, 0, 0, k, v⟩ : Nd)]).length = nd.length + 1 := by simp
  refine y6 (n := 18) hO Tryd.func53 rfl (by kernel_rfl) (by kernel_rfl) (z7 (Zv (.pointer (some ⟨b, 0, none⟩)) (Zv (.pointer (some ⟨b, 0, none⟩)) (Zv (.pointer (some ⟨b, 0, none⟩)) (Zv (.pointer (some ⟨b, 0, none⟩)) (Zl 0 ⟨b, #[.slice C nd.length cc], 53⟩ (off := 0) (.slice C nd.length cc) (Zv (.int .i64 k) (Zv (.string (mkS v)) (Zv (ndV (⟨1, 0, 0, k, v⟩ : Nd)) (g0 48 #[.int .i64 1, .int .i64 0, .int .i64 0, .int .i64 k, .string (mkS v)] (by kernel_rfl) rfl (fun _ => by kernel_rfl) (fun b1 => ?_)))))))))))
  obtain ⟨i0, z0, e1, e2, e3, e4, e5⟩ := xD
  refine zH (L' := [⟨b1, #[.int .i64 1, .int .i64 0, .int .i64 0, .int .i64 k, .string (mkS v)], 48⟩, ⟨b, #[.slice C nd.length cc], 53⟩] ++ g ++ ([] : List Blk)) (by simp <;> rfl) (x0 (sz := 5) (by kernel_rfl) rfl Tryd.underlying23 e1 e2 e3 e4 (by kernel_rfl) hsl (a := ⟨b1, 0, none⟩) (m := 1) (c := 1) (news := nC (⟨1, 0, 0, k, v⟩ : Nd)) (by kernel_rfl) rfl (fun w hO j u hj => ?_) (fun u hu => by simp only [nC, List.mem_cons, List.not_mem_nil, or_false] at hu; rcases hu with rfl | rfl | rfl | rfl | rfl <;> rfl) (by unfold maxLen; omega) (by rw [e5]; omega) (fun u2 ob2 hu2 => ?_))
  · rw [y5, cell_of_row w b1 (0 + j) (nC (⟨1, 0, 0, k, v⟩ : Nd)).toArray 48 _ (hO.held ⟨b1, (nC (⟨1, 0, 0, k, v⟩ : Nd)).toArray, 48⟩ (List.mem_append_left _ (List.mem_append_left _ (List.mem_cons_self ..))))]; simpa using hj
  have hu2s : SlN u2 (nd ++ [(⟨1, 0, 0, k, v⟩ : Nd)]) ob2 := SlN.add hu2
  obtain ⟨B2, cb2, rfl⟩ := Sl.form hu2s
  exact yI (L' := ⟨b, #[.slice C nd.length cc], 53⟩ :: (ob2)) (fun w hO => Own.sub [⟨b1, #[.int .i64 1, .int .i64 0, .int .i64 0, .int .i64 k, .string (mkS v)], 48⟩] (show Own _ _ w (⟨b1, #[.int .i64 1, .int .i64 0, .int .i64 0, .int .i64 k, .string (mkS v)], 48⟩ :: (⟨b, #[.slice C nd.length cc], 53⟩ :: (ob2))) from by simpa using hO)) (Zv (.pointer (some ⟨b, 0, none⟩)) (Zv (.pointer (some ⟨b, 0, none⟩)) (Zs 0 ⟨b, #[.slice C nd.length cc], 53⟩ (off := 0) (.slice B2 ((nd ++ [(⟨1, 0, 0, k, v⟩ : Nd)]).length) cb2) (zK (yM Tryd.results53 (fun w hO => ⟨_, rfl, ⟨B2, cb2, ob2, rfl, hu2s⟩, hO.sublist (List.Sublist.cons_cons _ (by simp))⟩))))))
theorem nnot10_any {b : Nat} {nd : List Nd} {ob : List Blk} {W : World} (hb : Nb b nd ob) (hO : Own (ob.map Blk.b) W W ob) (hn9 : nd.length ≤ 1000000) : Calls Tryd.prog 55 #[.pointer (some ⟨b, 0, none⟩)] W fun e w' => ∃ ob', e = .returned (.tuple #[]) ∧ Nb b (nd ++ [(⟨2, (nd.length : Int) - 1, 0, 0, []⟩ : Nd)]) ob' ∧ Own (ob.map Blk.b) W w' ob' := by
  obtain ⟨C, cc, g, rfl, hsl⟩ := hb
  have hnl : (nd ++ [(⟨2, (nd.length : Int) - 1, 0, 0, []⟩ : Nd)]).length = nd.length + 1 := by simp
  refine y6 (n := 14) hO Tryd.func55 rfl (by kernel_rfl) (by kernel_rfl) (yB (L' := (⟨b, #[.slice C nd.length cc], 53⟩ :: (g ++ ([] : List Blk))) ++ ([] : List Blk)) (by simp) (kQ ([]) (by kernel_rfl) (fun w hO => Own.sub (⟨b, #[.slice C nd.length cc], 53⟩ :: (g ++ ([] : List Blk))) hO) (ZT 0 (⟨b, #[.slice C nd.length cc], 53⟩ :: (g ++ ([] : List Blk))) _ (.pointer (some ⟨b, 0, none⟩)) zB rfl (ZT 1 (⟨b, #[.slice C nd.length cc], 53⟩ :: (g ++ ([] : List Blk))) _ (.pointer (some ⟨b, 0, none⟩)) zB rfl (ZT 2 (⟨b, #[.slice C nd.length cc], 53⟩ :: (g ++ ([] : List Blk))) _ (.pointer (some ⟨b, 0, none⟩)) zB rfl (ZT 3 (⟨b, #[.slice C nd.length cc], 53⟩ :: (g ++ ([] : List Blk))) _ (.pointer (some ⟨b, 0, none⟩)) zB rfl (ZT 5 (⟨b, #[.slice C nd.length cc], 53⟩ :: (g ++ ([] : List Blk))) _ (.pointer (some ⟨b, 0, none⟩)) zB rfl (d5 4 6 (by kernel_rfl) ?_ ?_))))))))
  · refine gO (⟨b, #[.slice C nd.length cc], 53⟩ :: (g ++ ([] : List Blk))) _ (.slice C nd.length cc) rfl (by kernel_rfl) (fun w hO => yF (a := ⟨b, 0, none⟩) rfl (by kernel_rfl) (yO (off := 0) (cs := (⟨b, #[.slice C nd.length cc], 53⟩ : Blk).cs) (by kernel_rfl) (hO.held ⟨b, #[.slice C nd.length cc], 53⟩ (by simp)))) ?_
    refine yK 6 (by kernel_rfl) (qZ (⟨b, #[.slice C nd.length cc], 53⟩ :: (g ++ ([] : List Blk))) _ (k := 56) (args := #[.pointer (some ⟨b, 0, none⟩)]) (.int .i64 ((nd.length : Int) - 1)) rfl (by kernel_rfl) (fun _ => by kernel_rfl) (fun w hO => kT (C := C) (cc := cc) w (hO.held ⟨b, #[.slice C nd.length cc], 53⟩ (by simp)) (by kernel_rfl) hn9) (ZT 7 (⟨b, #[.slice C nd.length cc], 53⟩ :: (g ++ ([] : List Blk))) _ (ndV (⟨2, (nd.length : Int) - 1, 0, 0, []⟩ : Nd)) zB rfl (yK 8 (by kernel_rfl) (kY _ 48 #[.int .i64 2, .int .i64 ((nd.length : Int) - 1), .int .i64 0, .int .i64 0, .string (mkS [])] rfl (by kernel_rfl) rfl (fun w hO => Own.sub (⟨b, #[.slice C nd.length cc], 53⟩ :: (g ++ ([] : List Blk))) hO) (fun _ => by kernel_rfl) (fun b1 => ?_)))))
    obtain ⟨i0, z0, e1, e2, e3, e4, e5⟩ := xD
    refine yT (L' := [⟨b1, #[.int .i64 2, .int .i64 ((nd.length : Int) - 1), .int .i64 0, .int .i64 0, .string (mkS [])], 48⟩, ⟨b, #[.slice C nd.length cc], 53⟩] ++ g ++ ([] : List Blk)) (by simp) (yK 9 (by kernel_rfl) (x5 (E := [⟨b1, #[.int .i64 2, .int .i64 ((nd.length : Int) - 1), .int .i64 0, .int .i64 0, .string (mkS [])], 48⟩, ⟨b, #[.slice C nd.length cc], 53⟩]) (ob := g) (sz := 5) _ rfl (by kernel_rfl) rfl Tryd.underlying23 e1 e2 e3 e4 (by kernel_rfl) hsl (a := ⟨b1, 0, none⟩) (m := 1) (c := 1) (news := nC (⟨2, (nd.length : Int) - 1, 0, 0, []⟩ : Nd)) (by kernel_rfl) rfl (fun w hO j u hj => ?_) (fun u hu => by simp only [nC, List.mem_cons, List.not_mem_nil, or_false] at hu; rcases hu with rfl | rfl | rfl | rfl | rfl <;> rfl) (by unfold maxLen; omega) (by rw [e5]; omega) (fun ob' w h => Own.sub ([⟨b1, #[.int .i64 2, .int .i64 ((nd.length : Int) - 1), .int .i64 0, .int .i64 0, .string (mkS [])], 48⟩, ⟨b, #[.slice C nd.length cc], 53⟩] ++ ob') h) (fun u2 ob2 hu2 => ?_)))
    · rw [y5, cell_of_row w b1 (0 + j) (nC (⟨2, (nd.length : Int) - 1, 0, 0, []⟩ : Nd)).toArray 48 _ (hO.held ⟨b1, (nC (⟨2, (nd.length : Int) - 1, 0, 0, []⟩ : Nd)).toArray, 48⟩ (List.mem_append_left _ (List.mem_append_left _ (by first | exact List.mem_cons_self .. | (refine List.mem_cons_of_mem _ ?_; exact List.mem_cons_self ..)))))]; simpa using hj
    have hu2s : SlN u2 (nd ++ [(⟨2, (nd.length : Int) - 1, 0, 0, []⟩ : Nd)]) ob2 := SlN.add hu2
    obtain ⟨B2, cb2, rfl⟩ := Sl.form hu2s
    exact yT (L' := (⟨b1, #[.int .i64 2, .int .i64 ((nd.length : Int) - 1), .int .i64 0, .int .i64 0, .string (mkS [])], 48⟩ :: (⟨b, #[.slice C nd.length cc], 53⟩ :: (ob2 ++ ([] : List Blk)))) ++ ([])) (by simp) (ZT 10 (⟨b1, #[.int .i64 2, .int .i64 ((nd.length : Int) - 1), .int .i64 0, .int .i64 0, .string (mkS [])], 48⟩ :: (⟨b, #[.slice C nd.length cc], 53⟩ :: (ob2 ++ ([] : List Blk)))) _ (.pointer (some ⟨b, 0, none⟩)) zB rfl (ZT 11 (⟨b1, #[.int .i64 2, .int .i64 ((nd.length : Int) - 1), .int .i64 0, .int .i64 0, .string (mkS [])], 48⟩ :: (⟨b, #[.slice C nd.length cc], 53⟩ :: (ob2 ++ ([] : List Blk)))) _ (.pointer (some ⟨b, 0, none⟩)) zB rfl (yK 12 (by kernel_rfl) (ZS (⟨b1, #[.int .i64 2, .int .i64 ((nd.length : Int) - 1), .int .i64 0, .int .i64 0, .string (mkS [])], 48⟩ :: (⟨b, #[.slice C nd.length cc], 53⟩ :: (ob2 ++ ([] : List Blk)))) _ 1 ⟨b, #[.slice C nd.length cc], 53⟩ (off := 0) (.slice B2 ((nd ++ [(⟨2, (nd.length : Int) - 1, 0, 0, []⟩ : Nd)]).length) cb2) rfl rfl (xR (by kernel_rfl) (yM Tryd.results55 (fun w hO => ⟨_, rfl, ⟨B2, cb2, ob2, rfl, hu2s⟩, hO.sublist (List.Sublist.cons _ (List.Sublist.cons_cons _ (by simp)))⟩)))))))
  refine qZ (⟨b, #[.slice C nd.length cc], 53⟩ :: (g ++ ([] : List Blk))) _ (k := 56) (args := #[.pointer (some ⟨b, 0, none⟩)]) (.int .i64 ((nd.length : Int) - 1)) rfl (by kernel_rfl) (fun _ => by kernel_rfl) (fun w hO => kT (C := C) (cc := cc) w (hO.held ⟨b, #[.slice C nd.length cc], 53⟩ (by simp)) (by kernel_rfl) hn9) (ZT 7 (⟨b, #[.slice C nd.length cc], 53⟩ :: (g ++ ([] : List Blk))) _ (ndV (⟨2, (nd.length : Int) - 1, 0, 0, []⟩ : Nd)) zB rfl (d5 4 8 (by kernel_rfl) ?_ ?_))
  · refine gO (⟨b, #[.slice C nd.length cc], 53⟩ :: (g ++ ([] : List Blk))) _ (.slice C nd.length cc) rfl (by kernel_rfl) (fun w hO => yF (a := ⟨b, 0, none⟩) rfl (by kernel_rfl) (yO (off := 0) (cs := (⟨b, #[.slice C nd.length cc], 53⟩ : Blk).cs) (by kernel_rfl) (hO.held ⟨b, #[.slice C nd.length cc], 53⟩ (by simp)))) ?_
    refine yK 8 (by kernel_rfl) (kY _ 48 #[.int .i64 2, .int .i64 ((nd.length : Int) - 1), .int .i64 0, .int .i64 0, .string (mkS [])] rfl (by kernel_rfl) rfl (fun w hO => Own.sub (⟨b, #[.slice C nd.length cc], 53⟩ :: (g ++ ([] : List Blk))) hO) (fun _ => by kernel_rfl) (fun b1 => ?_))
    obtain ⟨i0, z0, e1, e2, e3, e4, e5⟩ := xD
    refine yT (L' := [⟨b1, #[.int .i64 2, .int .i64 ((nd.length : Int) - 1), .int .i64 0, .int .i64 0, .string (mkS [])], 48⟩, ⟨b, #[.slice C nd.length cc], 53⟩] ++ g ++ ([] : List Blk)) (by simp) (yK 9 (by kernel_rfl) (x5 (E := [⟨b1, #[.int .i64 2, .int .i64 ((nd.length : Int) - 1), .int .i64 0, .int .i64 0, .string (mkS [])], 48⟩, ⟨b, #[.slice C nd.length cc], 53⟩]) (ob := g) (sz := 5) _ rfl (by kernel_rfl) rfl Tryd.underlying23 e1 e2 e3 e4 (by kernel_rfl) hsl (a := ⟨b1, 0, none⟩) (m := 1) (c := 1) (news := nC (⟨2, (nd.length : Int) - 1, 0, 0, []⟩ : Nd)) (by kernel_rfl) rfl (fun w hO j u hj => ?_) (fun u hu => by simp only [nC, List.mem_cons, List.not_mem_nil, or_false] at hu; rcases hu with rfl | rfl | rfl | rfl | rfl <;> rfl) (by unfold maxLen; omega) (by rw [e5]; omega) (fun ob' w h => Own.sub ([⟨b1, #[.int .i64 2, .int .i64 ((nd.length : Int) - 1), .int .i64 0, .int .i64 0, .string (mkS [])], 48⟩, ⟨b, #[.slice C nd.length cc], 53⟩] ++ ob') h) (fun u2 ob2 hu2 => ?_)))
    · rw [y5, cell_of_row w b1 (0 + j) (nC (⟨2, (nd.length : Int) - 1, 0, 0, []⟩ : Nd)).toArray 48 _ (hO.held ⟨b1, (nC (⟨2, (nd.length : Int) - 1, 0, 0, []⟩ : Nd)).toArray, 48⟩ (List.mem_append_left _ (List.mem_append_left _ (by first | exact List.mem_cons_self .. | (refine List.mem_cons_of_mem _ ?_; exact List.mem_cons_self ..)))))]; simpa using hj
    have hu2s : SlN u2 (nd ++ [(⟨2, (nd.length : Int) - 1, 0, 0, []⟩ : Nd)]) ob2 := SlN.add hu2
    obtain ⟨B2, cb2, rfl⟩ := Sl.form hu2s
    exact yT (L' := (⟨b1, #[.int .i64 2, .int .i64 ((nd.length : Int) - 1), .int .i64 0, .int .i64 0, .string (mkS [])], 48⟩ :: (⟨b, #[.slice C nd.length cc], 53⟩ :: (ob2 ++ ([] : List Blk)))) ++ ([])) (by simp) (ZT 10 (⟨b1, #[.int .i64 2, .int .i64 ((nd.length : Int) - 1), .int .i64 0, .int .i64 0, .string (mkS [])], 48⟩ :: (⟨b, #[.slice C nd.length cc], 53⟩ :: (ob2 ++ ([] : List Blk)))) _ (.pointer (some ⟨b, 0, none⟩)) zB rfl (ZT 11 (⟨b1, #[.int .i64 2, .int .i64 ((nd.length : Int) - 1), .int .i64 0, .int .i64 0, .string (mkS [])], 48⟩ :: (⟨b, #[.slice C nd.length cc], 53⟩ :: (ob2 ++ ([] : List Blk)))) _ (.pointer (some ⟨b, 0, none⟩)) zB rfl (yK 12 (by kernel_rfl) (ZS (⟨b1, #[.int .i64 2, .int .i64 ((nd.length : Int) - 1), .int .i64 0, .int .i64 0, .string (mkS [])], 48⟩ :: (⟨b, #[.slice C nd.length cc], 53⟩ :: (ob2 ++ ([] : List Blk)))) _ 1 ⟨b, #[.slice C nd.length cc], 53⟩ (off := 0) (.slice B2 ((nd ++ [(⟨2, (nd.length : Int) - 1, 0, 0, []⟩ : Nd)]).length) cb2) rfl rfl (xR (by kernel_rfl) (yM Tryd.results55 (fun w hO => ⟨_, rfl, ⟨B2, cb2, ob2, rfl, hu2s⟩, hO.sublist (List.Sublist.cons _ (List.Sublist.cons_cons _ (by simp)))⟩)))))))
  refine kY _ 48 #[.int .i64 2, .int .i64 ((nd.length : Int) - 1), .int .i64 0, .int .i64 0, .string (mkS [])] rfl (by kernel_rfl) rfl (fun w hO => Own.sub (⟨b, #[.slice C nd.length cc], 53⟩ :: (g ++ ([] : List Blk))) hO) (fun _ => by kernel_rfl) (fun b1 => yK 4 (by kernel_rfl) (gO (⟨b1, #[.int .i64 2, .int .i64 ((nd.length : Int) - 1), .int .i64 0, .int .i64 0, .string (mkS [])], 48⟩ :: (⟨b, #[.slice C nd.length cc], 53⟩ :: (g ++ ([] : List Blk)))) _ (.slice C nd.length cc) rfl (by kernel_rfl) (fun w hO => yF (a := ⟨b, 0, none⟩) rfl (by kernel_rfl) (yO (off := 0) (cs := (⟨b, #[.slice C nd.length cc], 53⟩ : Blk).cs) (by kernel_rfl) (hO.held ⟨b, #[.slice C nd.length cc], 53⟩ (by simp)))) ?_))
  obtain ⟨i0, z0, e1, e2, e3, e4, e5⟩ := xD
  refine yT (L' := [⟨b1, #[.int .i64 2, .int .i64 ((nd.length : Int) - 1), .int .i64 0, .int .i64 0, .string (mkS [])], 48⟩, ⟨b, #[.slice C nd.length cc], 53⟩] ++ g ++ ([] : List Blk)) (by simp) (yK 9 (by kernel_rfl) (x5 (E := [⟨b1, #[.int .i64 2, .int .i64 ((nd.length : Int) - 1), .int .i64 0, .int .i64 0, .string (mkS [])], 48⟩, ⟨b, #[.slice C nd.length cc], 53⟩]) (ob := g) (sz := 5) _ rfl (by kernel_rfl) rfl Tryd.underlying23 e1 e2 e3 e4 (by kernel_rfl) hsl (a := ⟨b1, 0, none⟩) (m := 1) (c := 1) (news := nC (⟨2, (nd.length : Int) - 1, 0, 0, []⟩ : Nd)) (by kernel_rfl) rfl (fun w hO j u hj => ?_) (fun u hu => by simp only [nC, List.mem_cons, List.not_mem_nil, or_false] at hu; rcases hu with rfl | rfl | rfl | rfl | rfl <;> rfl) (by unfold maxLen; omega) (by rw [e5]; omega) (fun ob' w h => Own.sub ([⟨b1, #[.int .i64 2, .int .i64 ((nd.length : Int) - 1), .int .i64 0, .int .i64 0, .string (mkS [])], 48⟩, ⟨b, #[.slice C nd.length cc], 53⟩] ++ ob') h) (fun u2 ob2 hu2 => ?_)))
  · rw [y5, cell_of_row w b1 (0 + j) (nC (⟨2, (nd.length : Int) - 1, 0, 0, []⟩ : Nd)).toArray 48 _ (hO.held ⟨b1, (nC (⟨2, (nd.length : Int) - 1, 0, 0, []⟩ : Nd)).toArray, 48⟩ (List.mem_append_left _ (List.mem_append_left _ (by first | exact List.mem_cons_self .. | (refine List.mem_cons_of_mem _ ?_; exact List.mem_cons_self ..)))))]; simpa using hj
  have hu2s : SlN u2 (nd ++ [(⟨2, (nd.length : Int) - 1, 0, 0, []⟩ : Nd)]) ob2 := SlN.add hu2
  obtain ⟨B2, cb2, rfl⟩ := Sl.form hu2s
  exact yT (L' := (⟨b1, #[.int .i64 2, .int .i64 ((nd.length : Int) - 1), .int .i64 0, .int .i64 0, .string (mkS [])], 48⟩ :: (⟨b, #[.slice C nd.length cc], 53⟩ :: (ob2 ++ ([] : List Blk)))) ++ ([])) (by simp) (ZT 10 (⟨b1, #[.int .i64 2, .int .i64 ((nd.length : Int) - 1), .int .i64 0, .int .i64 0, .string (mkS [])], 48⟩ :: (⟨b, #[.slice C nd.length cc], 53⟩ :: (ob2 ++ ([] : List Blk)))) _ (.pointer (some ⟨b, 0, none⟩)) zB rfl (ZT 11 (⟨b1, #[.int .i64 2, .int .i64 ((nd.length : Int) - 1), .int .i64 0, .int .i64 0, .string (mkS [])], 48⟩ :: (⟨b, #[.slice C nd.length cc], 53⟩ :: (ob2 ++ ([] : List Blk)))) _ (.pointer (some ⟨b, 0, none⟩)) zB rfl (yK 12 (by kernel_rfl) (ZS (⟨b1, #[.int .i64 2, .int .i64 ((nd.length : Int) - 1), .int .i64 0, .int .i64 0, .string (mkS [])], 48⟩ :: (⟨b, #[.slice C nd.length cc], 53⟩ :: (ob2 ++ ([] : List Blk)))) _ 1 ⟨b, #[.slice C nd.length cc], 53⟩ (off := 0) (.slice B2 ((nd ++ [(⟨2, (nd.length : Int) - 1, 0, 0, []⟩ : Nd)]).length) cb2) rfl rfl (xR (by kernel_rfl) (yM Tryd.results55 (fun w hO => ⟨_, rfl, ⟨B2, cb2, ob2, rfl, hu2s⟩, hO.sublist (List.Sublist.cons _ (List.Sublist.cons_cons _ (by simp)))⟩)))))))
theorem tW {b : Nat} {nd : List Nd} {ob : List Blk} {W : World} (hb : Nb b nd ob) (hO : Own (ob.map Blk.b) W W ob) (hn9 : nd.length ≤ 1000000) (op a : Int) : Calls Tryd.prog 57 #[.pointer (some ⟨b, 0, none⟩), .int .i64 op, .int .i64 a] W fun e w' => ∃ ob', e = .returned (.tuple #[]) ∧ Nb b (nd ++ [(⟨op, a, (nd.length : Int) - 1, 0, []⟩ : Nd)]) ob' ∧ Own (ob.map Blk.b) W w' ob' := by
  obtain ⟨C, cc, g, rfl, hsl⟩ := hb
  have hnl : (nd ++ [(⟨op, a, (nd.length : Int) - 1, 0, []⟩ : Nd)]).length = nd.length + 1 := by simp
  refine y6 (n := 20) hO Tryd.func57 rfl (by kernel_rfl) (by kernel_rfl) (yB (L' := (⟨b, #[.slice C nd.length cc], 53⟩ :: (g ++ ([] : List Blk))) ++ ([] : List Blk)) (by simp) (kQ ([]) (by kernel_rfl) (fun w hO => Own.sub (⟨b, #[.slice C nd.length cc], 53⟩ :: (g ++ ([] : List Blk))) hO) (ZT 0 (⟨b, #[.slice C nd.length cc], 53⟩ :: (g ++ ([] : List Blk))) _ (.pointer (some ⟨b, 0, none⟩)) zB rfl (ZT 1 (⟨b, #[.slice C nd.length cc], 53⟩ :: (g ++ ([] : List Blk))) _ (.pointer (some ⟨b, 0, none⟩)) zB rfl (ZT 2 (⟨b, #[.slice C nd.length cc], 53⟩ :: (g ++ ([] : List Blk))) _ (.pointer (some ⟨b, 0, none⟩)) zB rfl (ZT 3 (⟨b, #[.slice C nd.length cc], 53⟩ :: (g ++ ([] : List Blk))) _ (.pointer (some ⟨b, 0, none⟩)) zB rfl (ZT 5 (⟨b, #[.slice C nd.length cc], 53⟩ :: (g ++ ([] : List Blk))) _ (.int .i64 op) zB rfl (ZT 6 (⟨b, #[.slice C nd.length cc], 53⟩ :: (g ++ ([] : List Blk))) _ (.int .i64 a) zB rfl (ZT 7 (⟨b, #[.slice C nd.length cc], 53⟩ :: (g ++ ([] : List Blk))) _ (.pointer (some ⟨b, 0, none⟩)) zB rfl (d5 4 8 (by kernel_rfl) ?_ ?_))))))))))
  · refine gO (⟨b, #[.slice C nd.length cc], 53⟩ :: (g ++ ([] : List Blk))) _ (.slice C nd.length cc) rfl (by kernel_rfl) (fun w hO => yF (a := ⟨b, 0, none⟩) rfl (by kernel_rfl) (yO (off := 0) (cs := (⟨b, #[.slice C nd.length cc], 53⟩ : Blk).cs) (by kernel_rfl) (hO.held ⟨b, #[.slice C nd.length cc], 53⟩ (by simp)))) ?_
    refine yK 8 (by kernel_rfl) (qZ (⟨b, #[.slice C nd.length cc], 53⟩ :: (g ++ ([] : List Blk))) _ (k := 56) (args := #[.pointer (some ⟨b, 0, none⟩)]) (.int .i64 ((nd.length : Int) - 1)) rfl (by kernel_rfl) (fun _ => by kernel_rfl) (fun w hO => kT (C := C) (cc := cc) w (hO.held ⟨b, #[.slice C nd.length cc], 53⟩ (by simp)) (by kernel_rfl) hn9) (ZT 9 (⟨b, #[.slice C nd.length cc], 53⟩ :: (g ++ ([] : List Blk))) _ (ndV (⟨op, a, (nd.length : Int) - 1, 0, []⟩ : Nd)) zB rfl (yK 10 (by kernel_rfl) (kY _ 48 #[.int .i64 op, .int .i64 a, .int .i64 ((nd.length : Int) - 1), .int .i64 0, .string (mkS [])] rfl (by kernel_rfl) rfl (fun w hO => Own.sub (⟨b, #[.slice C nd.length cc], 53⟩ :: (g ++ ([] : List Blk))) hO) (fun _ => by kernel_rfl) (fun b1 => ?_)))))
    obtain ⟨i0, z0, e1, e2, e3, e4, e5⟩ := xD
    refine yT (L' := [⟨b1, #[.int .i64 op, .int .i64 a, .int .i64 ((nd.length : Int) - 1), .int .i64 0, .string (mkS [])], 48⟩, ⟨b, #[.slice C nd.length cc], 53⟩] ++ g ++ ([] : List Blk)) (by simp) (yK 11 (by kernel_rfl) (x5 (E := [⟨b1, #[.int .i64 op, .int .i64 a, .int .i64 ((nd.length : Int) - 1), .int .i64 0, .string (mkS [])], 48⟩, ⟨b, #[.slice C nd.length cc], 53⟩]) (ob := g) (sz := 5) _ rfl (by kernel_rfl) rfl Tryd.underlying23 e1 e2 e3 e4 (by kernel_rfl) hsl (a := ⟨b1, 0, none⟩) (m := 1) (c := 1) (news := nC (⟨op, a, (nd.length : Int) - 1, 0, []⟩ : Nd)) (by kernel_rfl) rfl (fun w hO j u hj => ?_) (fun u hu => by simp only [nC, List.mem_cons, List.not_mem_nil, or_false] at hu; rcases hu with rfl | rfl | rfl | rfl | rfl <;> rfl) (by unfold maxLen; omega) (by rw [e5]; omega) (fun ob' w h => Own.sub ([⟨b1, #[.int .i64 op, .int .i64 a, .int .i64 ((nd.length : Int) - 1), .int .i64 0, .string (mkS [])], 48⟩, ⟨b, #[.slice C nd.length cc], 53⟩] ++ ob') h) (fun u2 ob2 hu2 => ?_)))
    · rw [y5, cell_of_row w b1 (0 + j) (nC (⟨op, a, (nd.length : Int) - 1, 0, []⟩ : Nd)).toArray 48 _ (hO.held ⟨b1, (nC (⟨op, a, (nd.length : Int) - 1, 0, []⟩ : Nd)).toArray, 48⟩ (List.mem_append_left _ (List.mem_append_left _ (by first | exact List.mem_cons_self .. | (refine List.mem_cons_of_mem _ ?_; exact List.mem_cons_self ..)))))]; simpa using hj
    have hu2s : SlN u2 (nd ++ [(⟨op, a, (nd.length : Int) - 1, 0, []⟩ : Nd)]) ob2 := SlN.add hu2
    obtain ⟨B2, cb2, rfl⟩ := Sl.form hu2s
    exact yT (L' := (⟨b1, #[.int .i64 op, .int .i64 a, .int .i64 ((nd.length : Int) - 1), .int .i64 0, .string (mkS [])], 48⟩ :: (⟨b, #[.slice C nd.length cc], 53⟩ :: (ob2 ++ ([] : List Blk)))) ++ ([])) (by simp) (ZT 12 (⟨b1, #[.int .i64 op, .int .i64 a, .int .i64 ((nd.length : Int) - 1), .int .i64 0, .string (mkS [])], 48⟩ :: (⟨b, #[.slice C nd.length cc], 53⟩ :: (ob2 ++ ([] : List Blk)))) _ (.pointer (some ⟨b, 0, none⟩)) zB rfl (ZT 13 (⟨b1, #[.int .i64 op, .int .i64 a, .int .i64 ((nd.length : Int) - 1), .int .i64 0, .string (mkS [])], 48⟩ :: (⟨b, #[.slice C nd.length cc], 53⟩ :: (ob2 ++ ([] : List Blk)))) _ (.pointer (some ⟨b, 0, none⟩)) zB rfl (yK 14 (by kernel_rfl) (ZS (⟨b1, #[.int .i64 op, .int .i64 a, .int .i64 ((nd.length : Int) - 1), .int .i64 0, .string (mkS [])], 48⟩ :: (⟨b, #[.slice C nd.length cc], 53⟩ :: (ob2 ++ ([] : List Blk)))) _ 1 ⟨b, #[.slice C nd.length cc], 53⟩ (off := 0) (.slice B2 ((nd ++ [(⟨op, a, (nd.length : Int) - 1, 0, []⟩ : Nd)]).length) cb2) rfl rfl (xR (by kernel_rfl) (yM Tryd.results57 (fun w hO => ⟨_, rfl, ⟨B2, cb2, ob2, rfl, hu2s⟩, hO.sublist (List.Sublist.cons _ (List.Sublist.cons_cons _ (by simp)))⟩)))))))
  refine qZ (⟨b, #[.slice C nd.length cc], 53⟩ :: (g ++ ([] : List Blk))) _ (k := 56) (args := #[.pointer (some ⟨b, 0, none⟩)]) (.int .i64 ((nd.length : Int) - 1)) rfl (by kernel_rfl) (fun _ => by kernel_rfl) (fun w hO => kT (C := C) (cc := cc) w (hO.held ⟨b, #[.slice C nd.length cc], 53⟩ (by simp)) (by kernel_rfl) hn9) (ZT 9 (⟨b, #[.slice C nd.length cc], 53⟩ :: (g ++ ([] : List Blk))) _ (ndV (⟨op, a, (nd.length : Int) - 1, 0, []⟩ : Nd)) zB rfl (d5 4 10 (by kernel_rfl) ?_ ?_))
  · refine gO (⟨b, #[.slice C nd.length cc], 53⟩ :: (g ++ ([] : List Blk))) _ (.slice C nd.length cc) rfl (by kernel_rfl) (fun w hO => yF (a := ⟨b, 0, none⟩) rfl (by kernel_rfl) (yO (off := 0) (cs := (⟨b, #[.slice C nd.length cc], 53⟩ : Blk).cs) (by kernel_rfl) (hO.held ⟨b, #[.slice C nd.length cc], 53⟩ (by simp)))) ?_
    refine yK 10 (by kernel_rfl) (kY _ 48 #[.int .i64 op, .int .i64 a, .int .i64 ((nd.length : Int) - 1), .int .i64 0, .string (mkS [])] rfl (by kernel_rfl) rfl (fun w hO => Own.sub (⟨b, #[.slice C nd.length cc], 53⟩ :: (g ++ ([] : List Blk))) hO) (fun _ => by kernel_rfl) (fun b1 => ?_))
    obtain ⟨i0, z0, e1, e2, e3, e4, e5⟩ := xD
    refine yT (L' := [⟨b1, #[.int .i64 op, .int .i64 a, .int .i64 ((nd.length : Int) - 1), .int .i64 0, .string (mkS [])], 48⟩, ⟨b, #[.slice C nd.length cc], 53⟩] ++ g ++ ([] : List Blk)) (by simp) (yK 11 (by kernel_rfl) (x5 (E := [⟨b1, #[.int .i64 op, .int .i64 a, .int .i64 ((nd.length : Int) - 1), .int .i64 0, .string (mkS [])], 48⟩, ⟨b, #[.slice C nd.length cc], 53⟩]) (ob := g) (sz := 5) _ rfl (by kernel_rfl) rfl Tryd.underlying23 e1 e2 e3 e4 (by kernel_rfl) hsl (a := ⟨b1, 0, none⟩) (m := 1) (c := 1) (news := nC (⟨op, a, (nd.length : Int) - 1, 0, []⟩ : Nd)) (by kernel_rfl) rfl (fun w hO j u hj => ?_) (fun u hu => by simp only [nC, List.mem_cons, List.not_mem_nil, or_false] at hu; rcases hu with rfl | rfl | rfl | rfl | rfl <;> rfl) (by unfold maxLen; omega) (by rw [e5]; omega) (fun ob' w h => Own.sub ([⟨b1, #[.int .i64 op, .int .i64 a, .int .i64 ((nd.length : Int) - 1), .int .i64 0, .string (mkS [])], 48⟩, ⟨b, #[.slice C nd.length cc], 53⟩] ++ ob') h) (fun u2 ob2 hu2 => ?_)))
    · rw [y5, cell_of_row w b1 (0 + j) (nC (⟨op, a, (nd.length : Int) - 1, 0, []⟩ : Nd)).toArray 48 _ (hO.held ⟨b1, (nC (⟨op, a, (nd.length : Int) - 1, 0, []⟩ : Nd)).toArray, 48⟩ (List.mem_append_left _ (List.mem_append_left _ (by first | exact List.mem_cons_self .. | (refine List.mem_cons_of_mem _ ?_; exact List.mem_cons_self ..)))))]; simpa using hj
    have hu2s : SlN u2 (nd ++ [(⟨op, a, (nd.length : Int) - 1, 0, []⟩ : Nd)]) ob2 := SlN.add hu2
    obtain ⟨B2, cb2, rfl⟩ := Sl.form hu2s
    exact yT (L' := (⟨b1, #[.int .i64 op, .int .i64 a, .int .i64 ((nd.length : Int) - 1), .int .i64 0, .string (mkS [])], 48⟩ :: (⟨b, #[.slice C nd.length cc], 53⟩ :: (ob2 ++ ([] : List Blk)))) ++ ([])) (by simp) (ZT 12 (⟨b1, #[.int .i64 op, .int .i64 a, .int .i64 ((nd.length : Int) - 1), .int .i64 0, .string (mkS [])], 48⟩ :: (⟨b, #[.slice C nd.length cc], 53⟩ :: (ob2 ++ ([] : List Blk)))) _ (.pointer (some ⟨b, 0, none⟩)) zB rfl (ZT 13 (⟨b1, #[.int .i64 op, .int .i64 a, .int .i64 ((nd.length : Int) - 1), .int .i64 0, .string (mkS [])], 48⟩ :: (⟨b, #[.slice C nd.length cc], 53⟩ :: (ob2 ++ ([] : List Blk)))) _ (.pointer (some ⟨b, 0, none⟩)) zB rfl (yK 14 (by kernel_rfl) (ZS (⟨b1, #[.int .i64 op, .int .i64 a, .int .i64 ((nd.length : Int) - 1), .int .i64 0, .string (mkS [])], 48⟩ :: (⟨b, #[.slice C nd.length cc], 53⟩ :: (ob2 ++ ([] : List Blk)))) _ 1 ⟨b, #[.slice C nd.length cc], 53⟩ (off := 0) (.slice B2 ((nd ++ [(⟨op, a, (nd.length : Int) - 1, 0, []⟩ : Nd)]).length) cb2) rfl rfl (xR (by kernel_rfl) (yM Tryd.results57 (fun w hO => ⟨_, rfl, ⟨B2, cb2, ob2, rfl, hu2s⟩, hO.sublist (List.Sublist.cons _ (List.Sublist.cons_cons _ (by simp)))⟩)))))))
  refine kY _ 48 #[.int .i64 op, .int .i64 a, .int .i64 ((nd.length : Int) - 1), .int .i64 0, .string (mkS [])] rfl (by kernel_rfl) rfl (fun w hO => Own.sub (⟨b, #[.slice C nd.length cc], 53⟩ :: (g ++ ([] : List Blk))) hO) (fun _ => by kernel_rfl) (fun b1 => yK 4 (by kernel_rfl) (gO (⟨b1, #[.int .i64 op, .int .i64 a, .int .i64 ((nd.length : Int) - 1), .int .i64 0, .string (mkS [])], 48⟩ :: (⟨b, #[.slice C nd.length cc], 53⟩ :: (g ++ ([] : List Blk)))) _ (.slice C nd.length cc) rfl (by kernel_rfl) (fun w hO => yF (a := ⟨b, 0, none⟩) rfl (by kernel_rfl) (yO (off := 0) (cs := (⟨b, #[.slice C nd.length cc], 53⟩ : Blk).cs) (by kernel_rfl) (hO.held ⟨b, #[.slice C nd.length cc], 53⟩ (by simp)))) ?_))
  obtain ⟨i0, z0, e1, e2, e3, e4, e5⟩ := xD
  refine yT (L' := [⟨b1, #[.int .i64 op, .int .i64 a, .int .i64 ((nd.length : Int) - 1), .int .i64 0, .string (mkS [])], 48⟩, ⟨b, #[.slice C nd.length cc], 53⟩] ++ g ++ ([] : List Blk)) (by simp) (yK 11 (by kernel_rfl) (x5 (E := [⟨b1, #[.int .i64 op, .int .i64 a, .int .i64 ((nd.length : Int) - 1), .int .i64 0, .string (mkS [])], 48⟩, ⟨b, #[.slice C nd.length cc], 53⟩]) (ob := g) (sz := 5) _ rfl (by kernel_rfl) rfl Tryd.underlying23 e1 e2 e3 e4 (by kernel_rfl) hsl (a := ⟨b1, 0, none⟩) (m := 1) (c := 1) (news := nC (⟨op, a, (nd.length : Int) - 1, 0, []⟩ : Nd)) (by kernel_rfl) rfl (fun w hO j u hj => ?_) (fun u hu => by simp only [nC, List.mem_cons, List.not_mem_nil, or_false] at hu; rcases hu with rfl | rfl | rfl | rfl | rfl <;> rfl) (by unfold maxLen; omega) (by rw [e5]; omega) (fun ob' w h => Own.sub ([⟨b1, #[.int .i64 op, .int .i64 a, .int .i64 ((nd.length : Int) - 1), .int .i64 0, .string (mkS [])], 48⟩, ⟨b, #[.slice C nd.length cc], 53⟩] ++ ob') h) (fun u2 ob2 hu2 => ?_)))
  · rw [y5, cell_of_row w b1 (0 + j) (nC (⟨op, a, (nd.length : Int) - 1, 0, []⟩ : Nd)).toArray 48 _ (hO.held ⟨b1, (nC (⟨op, a, (nd.length : Int) - 1, 0, []⟩ : Nd)).toArray, 48⟩ (List.mem_append_left _ (List.mem_append_left _ (by first | exact List.mem_cons_self .. | (refine List.mem_cons_of_mem _ ?_; exact List.mem_cons_self ..)))))]; simpa using hj
  have hu2s : SlN u2 (nd ++ [(⟨op, a, (nd.length : Int) - 1, 0, []⟩ : Nd)]) ob2 := SlN.add hu2
  obtain ⟨B2, cb2, rfl⟩ := Sl.form hu2s
  exact yT (L' := (⟨b1, #[.int .i64 op, .int .i64 a, .int .i64 ((nd.length : Int) - 1), .int .i64 0, .string (mkS [])], 48⟩ :: (⟨b, #[.slice C nd.length cc], 53⟩ :: (ob2 ++ ([] : List Blk)))) ++ ([])) (by simp) (ZT 12 (⟨b1, #[.int .i64 op, .int .i64 a, .int .i64 ((nd.length : Int) - 1), .int .i64 0, .string (mkS [])], 48⟩ :: (⟨b, #[.slice C nd.length cc], 53⟩ :: (ob2 ++ ([] : List Blk)))) _ (.pointer (some ⟨b, 0, none⟩)) zB rfl (ZT 13 (⟨b1, #[.int .i64 op, .int .i64 a, .int .i64 ((nd.length : Int) - 1), .int .i64 0, .string (mkS [])], 48⟩ :: (⟨b, #[.slice C nd.length cc], 53⟩ :: (ob2 ++ ([] : List Blk)))) _ (.pointer (some ⟨b, 0, none⟩)) zB rfl (yK 14 (by kernel_rfl) (ZS (⟨b1, #[.int .i64 op, .int .i64 a, .int .i64 ((nd.length : Int) - 1), .int .i64 0, .string (mkS [])], 48⟩ :: (⟨b, #[.slice C nd.length cc], 53⟩ :: (ob2 ++ ([] : List Blk)))) _ 1 ⟨b, #[.slice C nd.length cc], 53⟩ (off := 0) (.slice B2 ((nd ++ [(⟨op, a, (nd.length : Int) - 1, 0, []⟩ : Nd)]).length) cb2) rfl rfl (xR (by kernel_rfl) (yM Tryd.results57 (fun w hO => ⟨_, rfl, ⟨B2, cb2, ob2, rfl, hu2s⟩, hO.sublist (List.Sublist.cons _ (List.Sublist.cons_cons _ (by simp)))⟩)))))))
theorem ris10_any {b m cap : Nat} {A : Option Addr} {bad : Bool} {nd : List Nd} {ob : List Blk} {W : World} (hb : Rb b A m cap bad nd ob) (hO : Own (ob.map Blk.b) W W ob) (hn9 : nd.length ≤ 1000000) (k : Int) (v : List UInt8) : Calls Tryd.prog 53 #[.pointer (some ⟨b, 0, none⟩), .int .i64 k, .string (mkS v)] W fun e w' => ∃ ob', e = .returned (.tuple #[]) ∧ Rb b A m cap bad (nd ++ [(⟨1, 0, 0, k, v⟩ : Nd)]) ob' ∧ Own (ob.map Blk.b) W w' ob' := by
  obtain ⟨C, cc, g, rfl, hsl⟩ := hb
  have hnl : (nd ++ [(⟨1, 0, 0, k, v⟩ : Nd)]).length = nd.length + 1 := by simp
  refine y6 (n := 18) hO Tryd.func53 rfl (by kernel_rfl) (by kernel_rfl) (z7 (Zv (.pointer (some ⟨b, 0, none⟩)) (Zv (.pointer (some ⟨b, 0, none⟩)) (Zv (.pointer (some ⟨b, 0, none⟩)) (Zv (.pointer (some ⟨b, 0, none⟩)) (Zl 0 ⟨b, #[.slice C nd.length cc, .slice A m cap, .bool bad], 55⟩ (off := 0) (.slice C nd.length cc) (Zv (.int .i64 k) (Zv (.string (mkS v)) (Zv (ndV (⟨1, 0, 0, k, v⟩ : Nd)) (g0 48 #[.int .i64 1, .int .i64 0, .int .i64 0, .int .i64 k, .string (mkS v)] (by kernel_rfl) rfl (fun _ => by kernel_rfl) (fun b1 => ?_)))))))))))
  obtain ⟨i0, z0, e1, e2, e3, e4, e5⟩ := xD
  refine zH (L' := [⟨b1, #[.int .i64 1, .int .i64 0, .int .i64 0, .int .i64 k, .string (mkS v)], 48⟩, ⟨b, #[.slice C nd.length cc, .slice A m cap, .bool bad], 55⟩] ++ g ++ ([] : List Blk)) (by simp <;> rfl) (x0 (sz := 5) (by kernel_rfl) rfl Tryd.underlying23 e1 e2 e3 e4 (by kernel_rfl) hsl (a := ⟨b1, 0, none⟩) (m := 1) (c := 1) (news := nC (⟨1, 0, 0, k, v⟩ : Nd)) (by kernel_rfl) rfl (fun w hO j u hj => ?_) (fun u hu => by simp only [nC, List.mem_cons, List.not_mem_nil, or_false] at hu; rcases hu with rfl | rfl | rfl | rfl | rfl <;> rfl) (by unfold maxLen; omega) (by rw [e5]; omega) (fun u2 ob2 hu2 => ?_))
  · rw [y5, cell_of_row w b1 (0 + j) (nC (⟨1, 0, 0, k, v⟩ : Nd)).toArray 48 _ (hO.held ⟨b1, (nC (⟨1, 0, 0, k, v⟩ : Nd)).toArray, 48⟩ (List.mem_append_left _ (List.mem_append_left _ (List.mem_cons_self ..))))]; simpa using hj
  have hu2s : SlN u2 (nd ++ [(⟨1, 0, 0, k, v⟩ : Nd)]) ob2 := SlN.add hu2
  obtain ⟨B2, cb2, rfl⟩ := Sl.form hu2s
  exact yI (L' := ⟨b, #[.slice C nd.length cc, .slice A m cap, .bool bad], 55⟩ :: (ob2)) (fun w hO => Own.sub [⟨b1, #[.int .i64 1, .int .i64 0, .int .i64 0, .int .i64 k, .string (mkS v)], 48⟩] (show Own _ _ w (⟨b1, #[.int .i64 1, .int .i64 0, .int .i64 0, .int .i64 k, .string (mkS v)], 48⟩ :: (⟨b, #[.slice C nd.length cc, .slice A m cap, .bool bad], 55⟩ :: (ob2))) from by simpa using hO)) (Zv (.pointer (some ⟨b, 0, none⟩)) (Zv (.pointer (some ⟨b, 0, none⟩)) (Zs 0 ⟨b, #[.slice C nd.length cc, .slice A m cap, .bool bad], 55⟩ (off := 0) (.slice B2 ((nd ++ [(⟨1, 0, 0, k, v⟩ : Nd)]).length) cb2) (zK (yM Tryd.results53 (fun w hO => ⟨_, rfl, ⟨B2, cb2, ob2, rfl, hu2s⟩, hO.sublist (List.Sublist.cons_cons _ (by simp))⟩))))))
theorem mR {b m cap : Nat} {A : Option Addr} {bad : Bool} {nd : List Nd} {ob : List Blk} {W : World} (hb : Rb b A m cap bad nd ob) (hO : Own (ob.map Blk.b) W W ob) (hn9 : nd.length ≤ 1000000) : Calls Tryd.prog 55 #[.pointer (some ⟨b, 0, none⟩)] W fun e w' => ∃ ob', e = .returned (.tuple #[]) ∧ Rb b A m cap bad (nd ++ [(⟨2, (nd.length : Int) - 1, 0, 0, []⟩ : Nd)]) ob' ∧ Own (ob.map Blk.b) W w' ob' := by
  obtain ⟨C, cc, g, rfl, hsl⟩ := hb
  have hnl : (nd ++ [(⟨2, (nd.length : Int) - 1, 0, 0, []⟩ : Nd)]).length = nd.length + 1 := by simp
  refine y6 (n := 14) hO Tryd.func55 rfl (by kernel_rfl) (by kernel_rfl) (yB (L' := (⟨b, #[.slice C nd.length cc, .slice A m cap, .bool bad], 55⟩ :: (g ++ ([] : List Blk))) ++ ([] : List Blk)) (by simp) (kQ ([]) (by kernel_rfl) (fun w hO => Own.sub (⟨b, #[.slice C nd.length cc, .slice A m cap, .bool bad], 55⟩ :: (g ++ ([] : List Blk))) hO) (ZT 0 (⟨b, #[.slice C nd.length cc, .slice A m cap, .bool bad], 55⟩ :: (g ++ ([] : List Blk))) _ (.pointer (some ⟨b, 0, none⟩)) zB rfl (ZT 1 (⟨b, #[.slice C nd.length cc, .slice A m cap, .bool bad], 55⟩ :: (g ++ ([] : List Blk))) _ (.pointer (some ⟨b, 0, none⟩)) zB rfl (ZT 2 (⟨b, #[.slice C nd.length cc, .slice A m cap, .bool bad], 55⟩ :: (g ++ ([] : List Blk))) _ (.pointer (some ⟨b, 0, none⟩)) zB rfl (ZT 3 (⟨b, #[.slice C nd.length cc, .slice A m cap, .bool bad], 55⟩ :: (g ++ ([] : List Blk))) _ (.pointer (some ⟨b, 0, none⟩)) zB rfl (ZT 5 (⟨b, #[.slice C nd.length cc, .slice A m cap, .bool bad], 55⟩ :: (g ++ ([] : List Blk))) _ (.pointer (some ⟨b, 0, none⟩)) zB rfl (d5 4 6 (by kernel_rfl) ?_ ?_))))))))
  · refine gO (⟨b, #[.slice C nd.length cc, .slice A m cap, .bool bad], 55⟩ :: (g ++ ([] : List Blk))) _ (.slice C nd.length cc) rfl (by kernel_rfl) (fun w hO => yF (a := ⟨b, 0, none⟩) rfl (by kernel_rfl) (yO (off := 0) (cs := (⟨b, #[.slice C nd.length cc, .slice A m cap, .bool bad], 55⟩ : Blk).cs) (by kernel_rfl) (hO.held ⟨b, #[.slice C nd.length cc, .slice A m cap, .bool bad], 55⟩ (by simp)))) ?_
    refine yK 6 (by kernel_rfl) (qZ (⟨b, #[.slice C nd.length cc, .slice A m cap, .bool bad], 55⟩ :: (g ++ ([] : List Blk))) _ (k := 56) (args := #[.pointer (some ⟨b, 0, none⟩)]) (.int .i64 ((nd.length : Int) - 1)) rfl (by kernel_rfl) (fun _ => by kernel_rfl) (fun w hO => kT (C := C) (cc := cc) w (hO.held ⟨b, #[.slice C nd.length cc, .slice A m cap, .bool bad], 55⟩ (by simp)) (by kernel_rfl) hn9) (ZT 7 (⟨b, #[.slice C nd.length cc, .slice A m cap, .bool bad], 55⟩ :: (g ++ ([] : List Blk))) _ (ndV (⟨2, (nd.length : Int) - 1, 0, 0, []⟩ : Nd)) zB rfl (yK 8 (by kernel_rfl) (kY _ 48 #[.int .i64 2, .int .i64 ((nd.length : Int) - 1), .int .i64 0, .int .i64 0, .string (mkS [])] rfl (by kernel_rfl) rfl (fun w hO => Own.sub (⟨b, #[.slice C nd.length cc, .slice A m cap, .bool bad], 55⟩ :: (g ++ ([] : List Blk))) hO) (fun _ => by kernel_rfl) (fun b1 => ?_)))))
    obtain ⟨i0, z0, e1, e2, e3, e4, e5⟩ := xD
    refine yT (L' := [⟨b1, #[.int .i64 2, .int .i64 ((nd.length : Int) - 1), .int .i64 0, .int .i64 0, .string (mkS [])], 48⟩, ⟨b, #[.slice C nd.length cc, .slice A m cap, .bool bad], 55⟩] ++ g ++ ([] : List Blk)) (by simp) (yK 9 (by kernel_rfl) (x5 (E := [⟨b1, #[.int .i64 2, .int .i64 ((nd.length : Int) - 1), .int .i64 0, .int .i64 0, .string (mkS [])], 48⟩, ⟨b, #[.slice C nd.length cc, .slice A m cap, .bool bad], 55⟩]) (ob := g) (sz := 5) _ rfl (by kernel_rfl) rfl Tryd.underlying23 e1 e2 e3 e4 (by kernel_rfl) hsl (a := ⟨b1, 0, none⟩) (m := 1) (c := 1) (news := nC (⟨2, (nd.length : Int) - 1, 0, 0, []⟩ : Nd)) (by kernel_rfl) rfl (fun w hO j u hj => ?_) (fun u hu => by simp only [nC, List.mem_cons, List.not_mem_nil, or_false] at hu; rcases hu with rfl | rfl | rfl | rfl | rfl <;> rfl) (by unfold maxLen; omega) (by rw [e5]; omega) (fun ob' w h => Own.sub ([⟨b1, #[.int .i64 2, .int .i64 ((nd.length : Int) - 1), .int .i64 0, .int .i64 0, .string (mkS [])], 48⟩, ⟨b, #[.slice C nd.length cc, .slice A m cap, .bool bad], 55⟩] ++ ob') h) (fun u2 ob2 hu2 => ?_)))
    · rw [y5, cell_of_row w b1 (0 + j) (nC (⟨2, (nd.length : Int) - 1, 0, 0, []⟩ : Nd)).toArray 48 _ (hO.held ⟨b1, (nC (⟨2, (nd.length : Int) - 1, 0, 0, []⟩ : Nd)).toArray, 48⟩ (List.mem_append_left _ (List.mem_append_left _ (by first | exact List.mem_cons_self .. | (refine List.mem_cons_of_mem _ ?_; exact List.mem_cons_self ..)))))]; simpa using hj
    have hu2s : SlN u2 (nd ++ [(⟨2, (nd.length : Int) - 1, 0, 0, []⟩ : Nd)]) ob2 := SlN.add hu2
    obtain ⟨B2, cb2, rfl⟩ := Sl.form hu2s
    exact yT (L' := (⟨b1, #[.int .i64 2, .int .i64 ((nd.length : Int) - 1), .int .i64 0, .int .i64 0, .string (mkS [])], 48⟩ :: (⟨b, #[.slice C nd.length cc, .slice A m cap, .bool bad], 55⟩ :: (ob2 ++ ([] : List Blk)))) ++ ([])) (by simp) (ZT 10 (⟨b1, #[.int .i64 2, .int .i64 ((nd.length : Int) - 1), .int .i64 0, .int .i64 0, .string (mkS [])], 48⟩ :: (⟨b, #[.slice C nd.length cc, .slice A m cap, .bool bad], 55⟩ :: (ob2 ++ ([] : List Blk)))) _ (.pointer (some ⟨b, 0, none⟩)) zB rfl (ZT 11 (⟨b1, #[.int .i64 2, .int .i64 ((nd.length : Int) - 1), .int .i64 0, .int .i64 0, .string (mkS [])], 48⟩ :: (⟨b, #[.slice C nd.length cc, .slice A m cap, .bool bad], 55⟩ :: (ob2 ++ ([] : List Blk)))) _ (.pointer (some ⟨b, 0, none⟩)) zB rfl (yK 12 (by kernel_rfl) (ZS (⟨b1, #[.int .i64 2, .int .i64 ((nd.length : Int) - 1), .int .i64 0, .int .i64 0, .string (mkS [])], 48⟩ :: (⟨b, #[.slice C nd.length cc, .slice A m cap, .bool bad], 55⟩ :: (ob2 ++ ([] : List Blk)))) _ 1 ⟨b, #[.slice C nd.length cc, .slice A m cap, .bool bad], 55⟩ (off := 0) (.slice B2 ((nd ++ [(⟨2, (nd.length : Int) - 1, 0, 0, []⟩ : Nd)]).length) cb2) rfl rfl (xR (by kernel_rfl) (yM Tryd.results55 (fun w hO => ⟨_, rfl, ⟨B2, cb2, ob2, rfl, hu2s⟩, hO.sublist (List.Sublist.cons _ (List.Sublist.cons_cons _ (by simp)))⟩)))))))
  refine qZ (⟨b, #[.slice C nd.length cc, .slice A m cap, .bool bad], 55⟩ :: (g ++ ([] : List Blk))) _ (k := 56) (args := #[.pointer (some ⟨b, 0, none⟩)]) (.int .i64 ((nd.length : Int) - 1)) rfl (by kernel_rfl) (fun _ => by kernel_rfl) (fun w hO => kT (C := C) (cc := cc) w (hO.held ⟨b, #[.slice C nd.length cc, .slice A m cap, .bool bad], 55⟩ (by simp)) (by kernel_rfl) hn9) (ZT 7 (⟨b, #[.slice C nd.length cc, .slice A m cap, .bool bad], 55⟩ :: (g ++ ([] : List Blk))) _ (ndV (⟨2, (nd.length : Int) - 1, 0, 0, []⟩ : Nd)) zB rfl (d5 4 8 (by kernel_rfl) ?_ ?_))
  · refine gO (⟨b, #[.slice C nd.length cc, .slice A m cap, .bool bad], 55⟩ :: (g ++ ([] : List Blk))) _ (.slice C nd.length cc) rfl (by kernel_rfl) (fun w hO => yF (a := ⟨b, 0, none⟩) rfl (by kernel_rfl) (yO (off := 0) (cs := (⟨b, #[.slice C nd.length cc, .slice A m cap, .bool bad], 55⟩ : Blk).cs) (by kernel_rfl) (hO.held ⟨b, #[.slice C nd.length cc, .slice A m cap, .bool bad], 55⟩ (by simp)))) ?_
    refine yK 8 (by kernel_rfl) (kY _ 48 #[.int .i64 2, .int .i64 ((nd.length : Int) - 1), .int .i64 0, .int .i64 0, .string (mkS [])] rfl (by kernel_rfl) rfl (fun w hO => Own.sub (⟨b, #[.slice C nd.length cc, .slice A m cap, .bool bad], 55⟩ :: (g ++ ([] : List Blk))) hO) (fun _ => by kernel_rfl) (fun b1 => ?_))
    obtain ⟨i0, z0, e1, e2, e3, e4, e5⟩ := xD
    refine yT (L' := [⟨b1, #[.int .i64 2, .int .i64 ((nd.length : Int) - 1), .int .i64 0, .int .i64 0, .string (mkS [])], 48⟩, ⟨b, #[.slice C nd.length cc, .slice A m cap, .bool bad], 55⟩] ++ g ++ ([] : List Blk)) (by simp) (yK 9 (by kernel_rfl) (x5 (E := [⟨b1, #[.int .i64 2, .int .i64 ((nd.length : Int) - 1), .int .i64 0, .int .i64 0, .string (mkS [])], 48⟩, ⟨b, #[.slice C nd.length cc, .slice A m cap, .bool bad], 55⟩]) (ob := g) (sz := 5) _ rfl (by kernel_rfl) rfl Tryd.underlying23 e1 e2 e3 e4 (by kernel_rfl) hsl (a := ⟨b1, 0, none⟩) (m := 1) (c := 1) (news := nC (⟨2, (nd.length : Int) - 1, 0, 0, []⟩ : Nd)) (by kernel_rfl) rfl (fun w hO j u hj => ?_) (fun u hu => by simp only [nC, List.mem_cons, List.not_mem_nil, or_false] at hu; rcases hu with rfl | rfl | rfl | rfl | rfl <;> rfl) (by unfold maxLen; omega) (by rw [e5]; omega) (fun ob' w h => Own.sub ([⟨b1, #[.int .i64 2, .int .i64 ((nd.length : Int) - 1), .int .i64 0, .int .i64 0, .string (mkS [])], 48⟩, ⟨b, #[.slice C nd.length cc, .slice A m cap, .bool bad], 55⟩] ++ ob') h) (fun u2 ob2 hu2 => ?_)))
    · rw [y5, cell_of_row w b1 (0 + j) (nC (⟨2, (nd.length : Int) - 1, 0, 0, []⟩ : Nd)).toArray 48 _ (hO.held ⟨b1, (nC (⟨2, (nd.length : Int) - 1, 0, 0, []⟩ : Nd)).toArray, 48⟩ (List.mem_append_left _ (List.mem_append_left _ (by first | exact List.mem_cons_self .. | (refine List.mem_cons_of_mem _ ?_; exact List.mem_cons_self ..)))))]; simpa using hj
    have hu2s : SlN u2 (nd ++ [(⟨2, (nd.length : Int) - 1, 0, 0, []⟩ : Nd)]) ob2 := SlN.add hu2
    obtain ⟨B2, cb2, rfl⟩ := Sl.form hu2s
    exact yT (L' := (⟨b1, #[.int .i64 2, .int .i64 ((nd.length : Int) - 1), .int .i64 0, .int .i64 0, .string (mkS [])], 48⟩ :: (⟨b, #[.slice C nd.length cc, .slice A m cap, .bool bad], 55⟩ :: (ob2 ++ ([] : List Blk)))) ++ ([])) (by simp) (ZT 10 (⟨b1, #[.int .i64 2, .int .i64 ((nd.length : Int) - 1), .int .i64 0, .int .i64 0, .string (mkS [])], 48⟩ :: (⟨b, #[.slice C nd.length cc, .slice A m cap, .bool bad], 55⟩ :: (ob2 ++ ([] : List Blk)))) _ (.pointer (some ⟨b, 0, none⟩)) zB rfl (ZT 11 (⟨b1, #[.int .i64 2, .int .i64 ((nd.length : Int) - 1), .int .i64 0, .int .i64 0, .string (mkS [])], 48⟩ :: (⟨b, #[.slice C nd.length cc, .slice A m cap, .bool bad], 55⟩ :: (ob2 ++ ([] : List Blk)))) _ (.pointer (some ⟨b, 0, none⟩)) zB rfl (yK 12 (by kernel_rfl) (ZS (⟨b1, #[.int .i64 2, .int .i64 ((nd.length : Int) - 1), .int .i64 0, .int .i64 0, .string (mkS [])], 48⟩ :: (⟨b, #[.slice C nd.length cc, .slice A m cap, .bool bad], 55⟩ :: (ob2 ++ ([] : List Blk)))) _ 1 ⟨b, #[.slice C nd.length cc, .slice A m cap, .bool bad], 55⟩ (off := 0) (.slice B2 ((nd ++ [(⟨2, (nd.length : Int) - 1, 0, 0, []⟩ : Nd)]).length) cb2) rfl rfl (xR (by kernel_rfl) (yM Tryd.results55 (fun w hO => ⟨_, rfl, ⟨B2, cb2, ob2, rfl, hu2s⟩, hO.sublist (List.Sublist.cons _ (List.Sublist.cons_cons _ (by simp)))⟩)))))))
  refine kY _ 48 #[.int .i64 2, .int .i64 ((nd.length : Int) - 1), .int .i64 0, .int .i64 0, .string (mkS [])] rfl (by kernel_rfl) rfl (fun w hO => Own.sub (⟨b, #[.slice C nd.length cc, .slice A m cap, .bool bad], 55⟩ :: (g ++ ([] : List Blk))) hO) (fun _ => by kernel_rfl) (fun b1 => yK 4 (by kernel_rfl) (gO (⟨b1, #[.int .i64 2, .int .i64 ((nd.length : Int) - 1), .int .i64 0, .int .i64 0, .string (mkS [])], 48⟩ :: (⟨b, #[.slice C nd.length cc, .slice A m cap, .bool bad], 55⟩ :: (g ++ ([] : List Blk)))) _ (.slice C nd.length cc) rfl (by kernel_rfl) (fun w hO => yF (a := ⟨b, 0, none⟩) rfl (by kernel_rfl) (yO (off := 0) (cs := (⟨b, #[.slice C nd.length cc, .slice A m cap, .bool bad], 55⟩ : Blk).cs) (by kernel_rfl) (hO.held ⟨b, #[.slice C nd.length cc, .slice A m cap, .bool bad], 55⟩ (by simp)))) ?_))
  obtain ⟨i0, z0, e1, e2, e3, e4, e5⟩ := xD
  refine yT (L' := [⟨b1, #[.int .i64 2, .int .i64 ((nd.length : Int) - 1), .int .i64 0, .int .i64 0, .string (mkS [])], 48⟩, ⟨b, #[.slice C nd.length cc, .slice A m cap, .bool bad], 55⟩] ++ g ++ ([] : List Blk)) (by simp) (yK 9 (by kernel_rfl) (x5 (E := [⟨b1, #[.int .i64 2, .int .i64 ((nd.length : Int) - 1), .int .i64 0, .int .i64 0, .string (mkS [])], 48⟩, ⟨b, #[.slice C nd.length cc, .slice A m cap, .bool bad], 55⟩]) (ob := g) (sz := 5) _ rfl (by kernel_rfl) rfl Tryd.underlying23 e1 e2 e3 e4 (by kernel_rfl) hsl (a := ⟨b1, 0, none⟩) (m := 1) (c := 1) (news := nC (⟨2, (nd.length : Int) - 1, 0, 0, []⟩ : Nd)) (by kernel_rfl) rfl (fun w hO j u hj => ?_) (fun u hu => by simp only [nC, List.mem_cons, List.not_mem_nil, or_false] at hu; rcases hu with rfl | rfl | rfl | rfl | rfl <;> rfl) (by unfold maxLen; omega) (by rw [e5]; omega) (fun ob' w h => Own.sub ([⟨b1, #[.int .i64 2, .int .i64 ((nd.length : Int) - 1), .int .i64 0, .int .i64 0, .string (mkS [])], 48⟩, ⟨b, #[.slice C nd.length cc, .slice A m cap, .bool bad], 55⟩] ++ ob') h) (fun u2 ob2 hu2 => ?_)))
  · rw [y5, cell_of_row w b1 (0 + j) (nC (⟨2, (nd.length : Int) - 1, 0, 0, []⟩ : Nd)).toArray 48 _ (hO.held ⟨b1, (nC (⟨2, (nd.length : Int) - 1, 0, 0, []⟩ : Nd)).toArray, 48⟩ (List.mem_append_left _ (List.mem_append_left _ (by first | exact List.mem_cons_self .. | (refine List.mem_cons_of_mem _ ?_; exact List.mem_cons_self ..)))))]; simpa using hj
  have hu2s : SlN u2 (nd ++ [(⟨2, (nd.length : Int) - 1, 0, 0, []⟩ : Nd)]) ob2 := SlN.add hu2
  obtain ⟨B2, cb2, rfl⟩ := Sl.form hu2s
  exact yT (L' := (⟨b1, #[.int .i64 2, .int .i64 ((nd.length : Int) - 1), .int .i64 0, .int .i64 0, .string (mkS [])], 48⟩ :: (⟨b, #[.slice C nd.length cc, .slice A m cap, .bool bad], 55⟩ :: (ob2 ++ ([] : List Blk)))) ++ ([])) (by simp) (ZT 10 (⟨b1, #[.int .i64 2, .int .i64 ((nd.length : Int) - 1), .int .i64 0, .int .i64 0, .string (mkS [])], 48⟩ :: (⟨b, #[.slice C nd.length cc, .slice A m cap, .bool bad], 55⟩ :: (ob2 ++ ([] : List Blk)))) _ (.pointer (some ⟨b, 0, none⟩)) zB rfl (ZT 11 (⟨b1, #[.int .i64 2, .int .i64 ((nd.length : Int) - 1), .int .i64 0, .int .i64 0, .string (mkS [])], 48⟩ :: (⟨b, #[.slice C nd.length cc, .slice A m cap, .bool bad], 55⟩ :: (ob2 ++ ([] : List Blk)))) _ (.pointer (some ⟨b, 0, none⟩)) zB rfl (yK 12 (by kernel_rfl) (ZS (⟨b1, #[.int .i64 2, .int .i64 ((nd.length : Int) - 1), .int .i64 0, .int .i64 0, .string (mkS [])], 48⟩ :: (⟨b, #[.slice C nd.length cc, .slice A m cap, .bool bad], 55⟩ :: (ob2 ++ ([] : List Blk)))) _ 1 ⟨b, #[.slice C nd.length cc, .slice A m cap, .bool bad], 55⟩ (off := 0) (.slice B2 ((nd ++ [(⟨2, (nd.length : Int) - 1, 0, 0, []⟩ : Nd)]).length) cb2) rfl rfl (xR (by kernel_rfl) (yM Tryd.results55 (fun w hO => ⟨_, rfl, ⟨B2, cb2, ob2, rfl, hu2s⟩, hO.sublist (List.Sublist.cons _ (List.Sublist.cons_cons _ (by simp)))⟩)))))))
theorem tO {b m cap : Nat} {A : Option Addr} {bad : Bool} {nd : List Nd} {ob : List Blk} {W : World} (hb : Rb b A m cap bad nd ob) (hO : Own (ob.map Blk.b) W W ob) (hn9 : nd.length ≤ 1000000) (op a : Int) : Calls Tryd.prog 57 #[.pointer (some ⟨b, 0, none⟩), .int .i64 op, .int .i64 a] W fun e w' => ∃ ob', e = .returned (.tuple #[]) ∧ Rb b A m cap bad (nd ++ [(⟨op, a, (nd.length : Int) - 1, 0, []⟩ : Nd)]) ob' ∧ Own (ob.map Blk.b) W w' ob' := by
  obtain ⟨C, cc, g, rfl, hsl⟩ := hb
  have hnl : (nd ++ [(⟨op, a, (nd.length : Int) - 1, 0, []⟩ : Nd)]).length = nd.length + 1 := by simp
  refine y6 (n := 20) hO Tryd.func57 rfl (by kernel_rfl) (by kernel_rfl) (yB (L' := (⟨b, #[.slice C nd.length cc, .slice A m cap, .bool bad], 55⟩ :: (g ++ ([] : List Blk))) ++ ([] : List Blk)) (by simp) (kQ ([]) (by kernel_rfl) (fun w hO => Own.sub (⟨b, #[.slice C nd.length cc, .slice A m cap, .bool bad], 55⟩ :: (g ++ ([] : List Blk))) hO) (ZT 0 (⟨b, #[.slice C nd.length cc, .slice A m cap, .bool bad], 55⟩ :: (g ++ ([] : List Blk))) _ (.pointer (some ⟨b, 0, none⟩)) zB rfl (ZT 1 (⟨b, #[.slice C nd.length cc, .slice A m cap, .bool bad], 55⟩ :: (g ++ ([] : List Blk))) _ (.pointer (some ⟨b, 0, none⟩)) zB rfl (ZT 2 (⟨b, #[.slice C nd.length cc, .slice A m cap, .bool bad], 55⟩ :: (g ++ ([] : List Blk))) _ (.pointer (some ⟨b, 0, none⟩)) zB rfl (ZT 3 (⟨b, #[.slice C nd.length cc, .slice A m cap, .bool bad], 55⟩ :: (g ++ ([] : List Blk))) _ (.pointer (some ⟨b, 0, none⟩)) zB rfl (ZT 5 (⟨b, #[.slice C nd.length cc, .slice A m cap, .bool bad], 55⟩ :: (g ++ ([] : List Blk))) _ (.int .i64 op) zB rfl (ZT 6 (⟨b, #[.slice C nd.length cc, .slice A m cap, .bool bad], 55⟩ :: (g ++ ([] : List Blk))) _ (.int .i64 a) zB rfl (ZT 7 (⟨b, #[.slice C nd.length cc, .slice A m cap, .bool bad], 55⟩ :: (g ++ ([] : List Blk))) _ (.pointer (some ⟨b, 0, none⟩)) zB rfl (d5 4 8 (by kernel_rfl) ?_ ?_))))))))))
  · refine gO (⟨b, #[.slice C nd.length cc, .slice A m cap, .bool bad], 55⟩ :: (g ++ ([] : List Blk))) _ (.slice C nd.length cc) rfl (by kernel_rfl) (fun w hO => yF (a := ⟨b, 0, none⟩) rfl (by kernel_rfl) (yO (off := 0) (cs := (⟨b, #[.slice C nd.length cc, .slice A m cap, .bool bad], 55⟩ : Blk).cs) (by kernel_rfl) (hO.held ⟨b, #[.slice C nd.length cc, .slice A m cap, .bool bad], 55⟩ (by simp)))) ?_
    refine yK 8 (by kernel_rfl) (qZ (⟨b, #[.slice C nd.length cc, .slice A m cap, .bool bad], 55⟩ :: (g ++ ([] : List Blk))) _ (k := 56) (args := #[.pointer (some ⟨b, 0, none⟩)]) (.int .i64 ((nd.length : Int) - 1)) rfl (by kernel_rfl) (fun _ => by kernel_rfl) (fun w hO => kT (C := C) (cc := cc) w (hO.held ⟨b, #[.slice C nd.length cc, .slice A m cap, .bool bad], 55⟩ (by simp)) (by kernel_rfl) hn9) (ZT 9 (⟨b, #[.slice C nd.length cc, .slice A m cap, .bool bad], 55⟩ :: (g ++ ([] : List Blk))) _ (ndV (⟨op, a, (nd.length : Int) - 1, 0, []⟩ : Nd)) zB rfl (yK 10 (by kernel_rfl) (kY _ 48 #[.int .i64 op, .int .i64 a, .int .i64 ((nd.length : Int) - 1), .int .i64 0, .string (mkS [])] rfl (by kernel_rfl) rfl (fun w hO => Own.sub (⟨b, #[.slice C nd.length cc, .slice A m cap, .bool bad], 55⟩ :: (g ++ ([] : List Blk))) hO) (fun _ => by kernel_rfl) (fun b1 => ?_)))))
    obtain ⟨i0, z0, e1, e2, e3, e4, e5⟩ := xD
    refine yT (L' := [⟨b1, #[.int .i64 op, .int .i64 a, .int .i64 ((nd.length : Int) - 1), .int .i64 0, .string (mkS [])], 48⟩, ⟨b, #[.slice C nd.length cc, .slice A m cap, .bool bad], 55⟩] ++ g ++ ([] : List Blk)) (by simp) (yK 11 (by kernel_rfl) (x5 (E := [⟨b1, #[.int .i64 op, .int .i64 a, .int .i64 ((nd.length : Int) - 1), .int .i64 0, .string (mkS [])], 48⟩, ⟨b, #[.slice C nd.length cc, .slice A m cap, .bool bad], 55⟩]) (ob := g) (sz := 5) _ rfl (by kernel_rfl) rfl Tryd.underlying23 e1 e2 e3 e4 (by kernel_rfl) hsl (a := ⟨b1, 0, none⟩) (m := 1) (c := 1) (news := nC (⟨op, a, (nd.length : Int) - 1, 0, []⟩ : Nd)) (by kernel_rfl) rfl (fun w hO j u hj => ?_) (fun u hu => by simp only [nC, List.mem_cons, List.not_mem_nil, or_false] at hu; rcases hu with rfl | rfl | rfl | rfl | rfl <;> rfl) (by unfold maxLen; omega) (by rw [e5]; omega) (fun ob' w h => Own.sub ([⟨b1, #[.int .i64 op, .int .i64 a, .int .i64 ((nd.length : Int) - 1), .int .i64 0, .string (mkS [])], 48⟩, ⟨b, #[.slice C nd.length cc, .slice A m cap, .bool bad], 55⟩] ++ ob') h) (fun u2 ob2 hu2 => ?_)))
    · rw [y5, cell_of_row w b1 (0 + j) (nC (⟨op, a, (nd.length : Int) - 1, 0, []⟩ : Nd)).toArray 48 _ (hO.held ⟨b1, (nC (⟨op, a, (nd.length : Int) - 1, 0, []⟩ : Nd)).toArray, 48⟩ (List.mem_append_left _ (List.mem_append_left _ (by first | exact List.mem_cons_self .. | (refine List.mem_cons_of_mem _ ?_; exact List.mem_cons_self ..)))))]; simpa using hj
    have hu2s : SlN u2 (nd ++ [(⟨op, a, (nd.length : Int) - 1, 0, []⟩ : Nd)]) ob2 := SlN.add hu2
    obtain ⟨B2, cb2, rfl⟩ := Sl.form hu2s
    exact yT (L' := (⟨b1, #[.int .i64 op, .int .i64 a, .int .i64 ((nd.length : Int) - 1), .int .i64 0, .string (mkS [])], 48⟩ :: (⟨b, #[.slice C nd.length cc, .slice A m cap, .bool bad], 55⟩ :: (ob2 ++ ([] : List Blk)))) ++ ([])) (by simp) (ZT 12 (⟨b1, #[.int .i64 op, .int .i64 a, .int .i64 ((nd.length : Int) - 1), .int .i64 0, .string (mkS [])], 48⟩ :: (⟨b, #[.slice C nd.length cc, .slice A m cap, .bool bad], 55⟩ :: (ob2 ++ ([] : List Blk)))) _ (.pointer (some ⟨b, 0, none⟩)) zB rfl (ZT 13 (⟨b1, #[.int .i64 op, .int .i64 a, .int .i64 ((nd.length : Int) - 1), .int .i64 0, .string (mkS [])], 48⟩ :: (⟨b, #[.slice C nd.length cc, .slice A m cap, .bool bad], 55⟩ :: (ob2 ++ ([] : List Blk)))) _ (.pointer (some ⟨b, 0, none⟩)) zB rfl (yK 14 (by kernel_rfl) (ZS (⟨b1, #[.int .i64 op, .int .i64 a, .int .i64 ((nd.length : Int) - 1), .int .i64 0, .string (mkS [])], 48⟩ :: (⟨b, #[.slice C nd.length cc, .slice A m cap, .bool bad], 55⟩ :: (ob2 ++ ([] : List Blk)))) _ 1 ⟨b, #[.slice C nd.length cc, .slice A m cap, .bool bad], 55⟩ (off := 0) (.slice B2 ((nd ++ [(⟨op, a, (nd.length : Int) - 1, 0, []⟩ : Nd)]).length) cb2) rfl rfl (xR (by kernel_rfl) (yM Tryd.results57 (fun w hO => ⟨_, rfl, ⟨B2, cb2, ob2, rfl, hu2s⟩, hO.sublist (List.Sublist.cons _ (List.Sublist.cons_cons _ (by simp)))⟩)))))))
  refine qZ (⟨b, #[.slice C nd.length cc, .slice A m cap, .bool bad], 55⟩ :: (g ++ ([] : List Blk))) _ (k := 56) (args := #[.pointer (some ⟨b, 0, none⟩)]) (.int .i64 ((nd.length : Int) - 1)) rfl (by kernel_rfl) (fun _ => by kernel_rfl) (fun w hO => kT (C := C) (cc := cc) w (hO.held ⟨b, #[.slice C nd.length cc, .slice A m cap, .bool bad], 55⟩ (by simp)) (by kernel_rfl) hn9) (ZT 9 (⟨b, #[.slice C nd.length cc, .slice A m cap, .bool bad], 55⟩ :: (g ++ ([] : List Blk))) _ (ndV (⟨op, a, (nd.length : Int) - 1, 0, []⟩ : Nd)) zB rfl (d5 4 10 (by kernel_rfl) ?_ ?_))
  · refine gO (⟨b, #[.slice C nd.length cc, .slice A m cap, .bool bad], 55⟩ :: (g ++ ([] : List Blk))) _ (.slice C nd.length cc) rfl (by kernel_rfl) (fun w hO => yF (a := ⟨b, 0, none⟩) rfl (by kernel_rfl) (yO (off := 0) (cs := (⟨b, #[.slice C nd.length cc, .slice A m cap, .bool bad], 55⟩ : Blk).cs) (by kernel_rfl) (hO.held ⟨b, #[.slice C nd.length cc, .slice A m cap, .bool bad], 55⟩ (by simp)))) ?_
    refine yK 10 (by kernel_rfl) (kY _ 48 #[.int .i64 op, .int .i64 a, .int .i64 ((nd.length : Int) - 1), .int .i64 0, .string (mkS [])] rfl (by kernel_rfl) rfl (fun w hO => Own.sub (⟨b, #[.slice C nd.length cc, .slice A m cap, .bool bad], 55⟩ :: (g ++ ([] : List Blk))) hO) (fun _ => by kernel_rfl) (fun b1 => ?_))
    obtain ⟨i0, z0, e1, e2, e3, e4, e5⟩ := xD
    refine yT (L' := [⟨b1, #[.int .i64 op, .int .i64 a, .int .i64 ((nd.length : Int) - 1), .int .i64 0, .string (mkS [])], 48⟩, ⟨b, #[.slice C nd.length cc, .slice A m cap, .bool bad], 55⟩] ++ g ++ ([] : List Blk)) (by simp) (yK 11 (by kernel_rfl) (x5 (E := [⟨b1, #[.int .i64 op, .int .i64 a, .int .i64 ((nd.length : Int) - 1), .int .i64 0, .string (mkS [])], 48⟩, ⟨b, #[.slice C nd.length cc, .slice A m cap, .bool bad], 55⟩]) (ob := g) (sz := 5) _ rfl (by kernel_rfl) rfl Tryd.underlying23 e1 e2 e3 e4 (by kernel_rfl) hsl (a := ⟨b1, 0, none⟩) (m := 1) (c := 1) (news := nC (⟨op, a, (nd.length : Int) - 1, 0, []⟩ : Nd)) (by kernel_rfl) rfl (fun w hO j u hj => ?_) (fun u hu => by simp only [nC, List.mem_cons, List.not_mem_nil, or_false] at hu; rcases hu with rfl | rfl | rfl | rfl | rfl <;> rfl) (by unfold maxLen; omega) (by rw [e5]; omega) (fun ob' w h => Own.sub ([⟨b1, #[.int .i64 op, .int .i64 a, .int .i64 ((nd.length : Int) - 1), .int .i64 0, .string (mkS [])], 48⟩, ⟨b, #[.slice C nd.length cc, .slice A m cap, .bool bad], 55⟩] ++ ob') h) (fun u2 ob2 hu2 => ?_)))
    · rw [y5, cell_of_row w b1 (0 + j) (nC (⟨op, a, (nd.length : Int) - 1, 0, []⟩ : Nd)).toArray 48 _ (hO.held ⟨b1, (nC (⟨op, a, (nd.length : Int) - 1, 0, []⟩ : Nd)).toArray, 48⟩ (List.mem_append_left _ (List.mem_append_left _ (by first | exact List.mem_cons_self .. | (refine List.mem_cons_of_mem _ ?_; exact List.mem_cons_self ..)))))]; simpa using hj
    have hu2s : SlN u2 (nd ++ [(⟨op, a, (nd.length : Int) - 1, 0, []⟩ : Nd)]) ob2 := SlN.add hu2
    obtain ⟨B2, cb2, rfl⟩ := Sl.form hu2s
    exact yT (L' := (⟨b1, #[.int .i64 op, .int .i64 a, .int .i64 ((nd.length : Int) - 1), .int .i64 0, .string (mkS [])], 48⟩ :: (⟨b, #[.slice C nd.length cc, .slice A m cap, .bool bad], 55⟩ :: (ob2 ++ ([] : List Blk)))) ++ ([])) (by simp) (ZT 12 (⟨b1, #[.int .i64 op, .int .i64 a, .int .i64 ((nd.length : Int) - 1), .int .i64 0, .string (mkS [])], 48⟩ :: (⟨b, #[.slice C nd.length cc, .slice A m cap, .bool bad], 55⟩ :: (ob2 ++ ([] : List Blk)))) _ (.pointer (some ⟨b, 0, none⟩)) zB rfl (ZT 13 (⟨b1, #[.int .i64 op, .int .i64 a, .int .i64 ((nd.length : Int) - 1), .int .i64 0, .string (mkS [])], 48⟩ :: (⟨b, #[.slice C nd.length cc, .slice A m cap, .bool bad], 55⟩ :: (ob2 ++ ([] : List Blk)))) _ (.pointer (some ⟨b, 0, none⟩)) zB rfl (yK 14 (by kernel_rfl) (ZS (⟨b1, #[.int .i64 op, .int .i64 a, .int .i64 ((nd.length : Int) - 1), .int .i64 0, .string (mkS [])], 48⟩ :: (⟨b, #[.slice C nd.length cc, .slice A m cap, .bool bad], 55⟩ :: (ob2 ++ ([] : List Blk)))) _ 1 ⟨b, #[.slice C nd.length cc, .slice A m cap, .bool bad], 55⟩ (off := 0) (.slice B2 ((nd ++ [(⟨op, a, (nd.length : Int) - 1, 0, []⟩ : Nd)]).length) cb2) rfl rfl (xR (by kernel_rfl) (yM Tryd.results57 (fun w hO => ⟨_, rfl, ⟨B2, cb2, ob2, rfl, hu2s⟩, hO.sublist (List.Sublist.cons _ (List.Sublist.cons_cons _ (by simp)))⟩)))))))
  refine kY _ 48 #[.int .i64 op, .int .i64 a, .int .i64 ((nd.length : Int) - 1), .int .i64 0, .string (mkS [])] rfl (by kernel_rfl) rfl (fun w hO => Own.sub (⟨b, #[.slice C nd.length cc, .slice A m cap, .bool bad], 55⟩ :: (g ++ ([] : List Blk))) hO) (fun _ => by kernel_rfl) (fun b1 => yK 4 (by kernel_rfl) (gO (⟨b1, #[.int .i64 op, .int .i64 a, .int .i64 ((nd.length : Int) - 1), .int .i64 0, .string (mkS [])], 48⟩ :: (⟨b, #[.slice C nd.length cc, .slice A m cap, .bool bad], 55⟩ :: (g ++ ([] : List Blk)))) _ (.slice C nd.length cc) rfl (by kernel_rfl) (fun w hO => yF (a := ⟨b, 0, none⟩) rfl (by kernel_rfl) (yO (off := 0) (cs := (⟨b, #[.slice C nd.length cc, .slice A m cap, .bool bad], 55⟩ : Blk).cs) (by kernel_rfl) (hO.held ⟨b, #[.slice C nd.length cc, .slice A m cap, .bool bad], 55⟩ (by simp)))) ?_))
  obtain ⟨i0, z0, e1, e2, e3, e4, e5⟩ := xD
  refine yT (L' := [⟨b1, #[.int .i64 op, .int .i64 a, .int .i64 ((nd.length : Int) - 1), .int .i64 0, .string (mkS [])], 48⟩, ⟨b, #[.slice C nd.length cc, .slice A m cap, .bool bad], 55⟩] ++ g ++ ([] : List Blk)) (by simp) (yK 11 (by kernel_rfl) (x5 (E := [⟨b1, #[.int .i64 op, .int .i64 a, .int .i64 ((nd.length : Int) - 1), .int .i64 0, .string (mkS [])], 48⟩, ⟨b, #[.slice C nd.length cc, .slice A m cap, .bool bad], 55⟩]) (ob := g) (sz := 5) _ rfl (by kernel_rfl) rfl Tryd.underlying23 e1 e2 e3 e4 (by kernel_rfl) hsl (a := ⟨b1, 0, none⟩) (m := 1) (c := 1) (news := nC (⟨op, a, (nd.length : Int) - 1, 0, []⟩ : Nd)) (by kernel_rfl) rfl (fun w hO j u hj => ?_) (fun u hu => by simp only [nC, List.mem_cons, List.not_mem_nil, or_false] at hu; rcases hu with rfl | rfl | rfl | rfl | rfl <;> rfl) (by unfold maxLen; omega) (by rw [e5]; omega) (fun ob' w h => Own.sub ([⟨b1, #[.int .i64 op, .int .i64 a, .int .i64 ((nd.length : Int) - 1), .int .i64 0, .string (mkS [])], 48⟩, ⟨b, #[.slice C nd.length cc, .slice A m cap, .bool bad], 55⟩] ++ ob') h) (fun u2 ob2 hu2 => ?_)))
  · rw [y5, cell_of_row w b1 (0 + j) (nC (⟨op, a, (nd.length : Int) - 1, 0, []⟩ : Nd)).toArray 48 _ (hO.held ⟨b1, (nC (⟨op, a, (nd.length : Int) - 1, 0, []⟩ : Nd)).toArray, 48⟩ (List.mem_append_left _ (List.mem_append_left _ (by first | exact List.mem_cons_self .. | (refine List.mem_cons_of_mem _ ?_; exact List.mem_cons_self ..)))))]; simpa using hj
  have hu2s : SlN u2 (nd ++ [(⟨op, a, (nd.length : Int) - 1, 0, []⟩ : Nd)]) ob2 := SlN.add hu2
  obtain ⟨B2, cb2, rfl⟩ := Sl.form hu2s
  exact yT (L' := (⟨b1, #[.int .i64 op, .int .i64 a, .int .i64 ((nd.length : Int) - 1), .int .i64 0, .string (mkS [])], 48⟩ :: (⟨b, #[.slice C nd.length cc, .slice A m cap, .bool bad], 55⟩ :: (ob2 ++ ([] : List Blk)))) ++ ([])) (by simp) (ZT 12 (⟨b1, #[.int .i64 op, .int .i64 a, .int .i64 ((nd.length : Int) - 1), .int .i64 0, .string (mkS [])], 48⟩ :: (⟨b, #[.slice C nd.length cc, .slice A m cap, .bool bad], 55⟩ :: (ob2 ++ ([] : List Blk)))) _ (.pointer (some ⟨b, 0, none⟩)) zB rfl (ZT 13 (⟨b1, #[.int .i64 op, .int .i64 a, .int .i64 ((nd.length : Int) - 1), .int .i64 0, .string (mkS [])], 48⟩ :: (⟨b, #[.slice C nd.length cc, .slice A m cap, .bool bad], 55⟩ :: (ob2 ++ ([] : List Blk)))) _ (.pointer (some ⟨b, 0, none⟩)) zB rfl (yK 14 (by kernel_rfl) (ZS (⟨b1, #[.int .i64 op, .int .i64 a, .int .i64 ((nd.length : Int) - 1), .int .i64 0, .string (mkS [])], 48⟩ :: (⟨b, #[.slice C nd.length cc, .slice A m cap, .bool bad], 55⟩ :: (ob2 ++ ([] : List Blk)))) _ 1 ⟨b, #[.slice C nd.length cc, .slice A m cap, .bool bad], 55⟩ (off := 0) (.slice B2 ((nd ++ [(⟨op, a, (nd.length : Int) - 1, 0, []⟩ : Nd)]).length) cb2) rfl rfl (xR (by kernel_rfl) (yM Tryd.results57 (fun w hO => ⟨_, rfl, ⟨B2, cb2, ob2, rfl, hu2s⟩, hO.sublist (List.Sublist.cons _ (List.Sublist.cons_cons _ (by simp)))⟩)))))))
end
section
set_option linter.unnecessarySimpa false
theorem nA {α : Type} {g : α → List Value} {sz : Nat} (hg : ∀ x, (g x).length = sz) : ∀ l : List α, (l.flatMap g).length = l.length * sz
  | [] => by simp
  | a :: l => by rw [List.flatMap_cons, List.length_append, nA hg l, hg, List.length_cons, Nat.succ_mul]; omega
theorem Reads.from_ {α : Type} {g : α → List Value} {sz : Nat} (hg : ∀ x, (g x).length = sz) {w : World} {B b off c : Nat} {l : List α} (h : Reads g w B (some ⟨b, off, none⟩) l) (hc : l.length ≤ c) (k : Nat) : Reads g w B (some ⟨b, off + (if c = k then 0 else k * sz), none⟩) (l.drop k) := fun h0 => by
  rw [List.length_drop] at h0
  obtain ⟨b', off', e, hlt, hcell⟩ := h (by omega)
  obtain ⟨rfl, rfl⟩ : b = b' ∧ off = off' := by simp at e; exact e
  refine ⟨b, _, rfl, hlt, fun j u hj => ?_⟩
  rw [if_neg (by omega)]
  have e2 : l.flatMap g = (l.take k).flatMap g ++ (l.drop k).flatMap g := by rw [← List.flatMap_append, List.take_append_drop]
  have hl : ((l.take k).flatMap g).length = k * sz := by rw [nA hg, List.length_take, Nat.min_eq_left (by omega)]
  have := hcell (k * sz + j) u (by rw [e2, List.getElem?_append_right (by omega), hl, Nat.add_sub_cancel_left]; exact hj)
  rw [← Nat.add_assoc] at this; exact this
theorem Reads.back {α : Type} {g : α → List Value} {w w' : World} {B : Nat} {A : Option Addr} {l : List α} (h : Reads g w' B A l) (hb : Below B w w') : Reads g w B A l := fun h0 => by
  obtain ⟨b, off, e, hlt, hc⟩ := h h0
  exact ⟨b, off, e, hlt, fun k u hk => (hb.cell (p := ⟨b, off + k, none⟩) hlt).symm.trans (hc k u hk)⟩
def Rdr (W : World) (B b : Nat) (ts : List Tok) (nd : List Nd) (bad : Bool) (ob : List Blk) : Prop := ∃ A cap, Reads tG W B A ts ∧ ts.length ≤ cap ∧ Rb b A ts.length cap bad nd ob
structure LentL (B b : Nat) (ts : List Tok) (nd : List Nd) (bad : Bool) (ob : List Blk) (W : World) : Prop where
  rd : Rdr W B b ts nd bad ob
  own : Own (ob.map Blk.b) W W ob
  ge : ∀ x ∈ ob, B ≤ x.b
  le : B ≤ W.heap.size
  short : ∀ x ∈ ts, x.length ≤ 1000000
  texts : ∀ n ∈ nd, n.text.length ≤ 1000000
  small : nd.length + ts.length ≤ 10000
  lib : MkAt B W
structure BackL (B b : Nat) (ts : List Tok) (nd : List Nd) (bad : Bool) (ob ob' : List Blk) (W w' : World) : Prop where
  rd : Rdr W B b ts nd bad ob'
  own : Own (ob.map Blk.b) W w' ob'
  short : ∀ x ∈ ts, x.length ≤ 1000000
  texts : ∀ n ∈ nd, n.text.length ≤ 1000000
theorem Rdr.on {W w : World} {B b : Nat} {ts : List Tok} {nd : List Nd} {bad : Bool} {ob : List Blk} (h : Rdr W B b ts nd bad ob) (hb : Below B W w) : Rdr w B b ts nd bad ob := by
  obtain ⟨A, cap, h1, h2, h3⟩ := h
  exact ⟨A, cap, h1.on hb (Nat.le_refl _), h2, h3⟩
theorem Rdr.back {W w : World} {B b : Nat} {ts : List Tok} {nd : List Nd} {bad : Bool} {ob : List Blk} (h : Rdr w B b ts nd bad ob) (hb : Below B W w) : Rdr W B b ts nd bad ob := by
  obtain ⟨A, cap, h1, h2, h3⟩ := h
  exact ⟨A, cap, h1.back hb, h2, h3⟩
theorem LentL.at {B b : Nat} {ts ts' : List Tok} {nd nd' : List Nd} {bad bad' : Bool} {ob ob' R : List Blk} {W w : World} (h : LentL B b ts nd bad ob W) (hR : Rdr W B b ts' nd' bad' ob') (hx : (∀ x ∈ ts', x.length ≤ 1000000) ∧ ∀ n ∈ nd', n.text.length ≤ 1000000) (hs : nd'.length + ts'.length ≤ 10000) (hO : Own (ob.map Blk.b) W w (ob' ++ R)) : LentL B b ts' nd' bad' ob' w :=
  ⟨hR.on (hO.belowB (x4 h.ge) h.le), Own.lent hO, fun x hx => hO.allB (x4 h.ge) h.le x (List.mem_append_left _ hx), Nat.le_trans h.le hO.size, hx.1, hx.2, hs, h.lib.on (hO.belowB (x4 h.ge) h.le) (Nat.le_refl _)⟩
theorem rlast10 {W w : World} {B b : Nat} {ts : List Tok} {nd : List Nd} {bad : Bool} {ob L : List Blk} {M : List Nat} {W0 : World} (h : Rdr W B b ts nd bad ob) (hO : Own M W0 w L) (hs : ∀ x ∈ ob, x ∈ L) (hn : nd.length ≤ 1000000) : Calls Tryd.prog 56 #[.pointer (some ⟨b, 0, none⟩)] w fun e w' => e = .returned (.int .i64 ((nd.length : Int) - 1)) ∧ Below w.heap.size w w' := by
  obtain ⟨A, cap, h1, h2, C, cc, g, rfl, hsl⟩ := h
  exact kT (C := C) (cc := cc) w (hO.held _ (hs _ (List.mem_cons_self ..))) (by kernel_rfl) hn
theorem bH {nd : List Nd} {n : Nd} (h : ∀ x ∈ nd, x.text.length ≤ 1000000) (hn : n.text.length ≤ 1000000) : ∀ x ∈ nd ++ [n], x.text.length ≤ 1000000 := fun x hx => by
  rcases List.mem_append.1 hx with q | q
  · exact h x q
  · rw [List.mem_singleton.1 q]; exact hn
theorem fO {x : Tok} {ts : List Tok} (h : ∀ y ∈ ts, y.length ≤ 1000000) : ∀ y ∈ yJ x ts, y.length ≤ 1000000 := fun y hy => by
  unfold yJ at hy
  split at hy
  · exact h y (List.mem_of_mem_tail hy)
  · exact h y hy
theorem j5 {B b : Nat} {ts : List Tok} {nd : List Nd} {bad : Bool} {ob : List Blk} {W : World} (hL : LentL B b ts nd bad ob W) (x : Tok) : Calls Tryd.prog 70 #[.pointer (some ⟨b, 0, none⟩), .string (mkS x)] W fun e w' => ∃ ob', e = .returned (.bool (xE x ts)) ∧ BackL B b (yJ x ts) nd bad ob ob' W w' := by
  have hO0 := hL.own
  have hM' := x4 hL.ge
  have hBW := hL.le
  have hsh := hL.short
  have hsm := hL.small
  obtain ⟨A, cap, hw, hcap, C, cc, g, rfl, hsl⟩ := hL.rd
  have hO := hO0
  refine y6 (n := 29) hO Tryd.func70 rfl (by kernel_rfl) (by kernel_rfl) (ZO (Zv (.bool false) (ZN (zF (ZO (Zv (.pointer (some ⟨b, 0, none⟩)) (Zv (.pointer (some ⟨b, 0, none⟩)) (Zv (.pointer (some ⟨b, 1, none⟩)) ?_))))))))
  refine Zl 0 ⟨b, #[.slice C nd.length cc, .slice A ts.length cap, .bool bad], 55⟩ (off := 1) (.slice A ts.length cap) (Zv (.int .i64 (ts.length : Int)) ?_)
  by_cases h1 : (ts.length : Int) = 0
  · have hts : ts = [] := List.eq_nil_of_length_eq_zero (by omega)
    refine Zd (p := (ts.length : Int) = 0) true (decide_eq_true (h1)) (Zv (.bool true) (Zk (Zk (Zk (Zk (Zk (Zk (Zk (Zk (Zv (.bool true) (zK ?_)))))))))))
    exact z8 (Zt (ZO (Zv (.bool false) (ZN (zG (z5 (ZF (.bool false) Tryd.results70 (fun w hO => ⟨_, congrArg (fun z => Ending.returned (.bool z)) (kI (x := x) (ts := ts) (by rw [hts]; simp)).1.symm, ⟨by rw [(kI (x := x) (ts := ts) (by rw [hts]; simp)).2]; exact ⟨A, cap, hw, hcap, C, cc, g, rfl, hsl⟩, hO, fO hL.short, hL.texts⟩⟩))))))))
  obtain ⟨c, r, hts⟩ : ∃ c r, ts = c :: r := by cases ts with | nil => exact absurd rfl h1 | cons c r => exact ⟨c, r, rfl⟩
  obtain ⟨bp, off, hA, hlt, hcell⟩ := hw (by omega)
  have hws0 : ∀ h : 0 < ts.length, ts[0] = c := by rw [hts]; intro h; rfl
  have htl : ts.length = r.length + 1 := by rw [hts]; rfl
  refine Zd (p := (ts.length : Int) = 0) false (decide_eq_false (h1)) (Zv (.bool false) (Zv (.pointer (some ⟨b, 0, none⟩)) (Zv (.pointer (some ⟨b, 0, none⟩)) (Zv (.pointer (some ⟨b, 1, none⟩)) (Zl 0 ⟨b, #[.slice C nd.length cc, .slice A ts.length cap, .bool bad], 55⟩ (off := 1) (.slice A ts.length cap) (zM (.pointer (some ⟨bp, off + 0 * 1, none⟩)) (by kernel_rfl) (ZA (b := bp) (off := off) (c := cap) (n := ts.length) (k := .i64) (j := 0) (e := 9) (sz := 1) hA) (Zo (.string (mkS c)) (a := ⟨bp, off + 0 * 1, none⟩) (fun w hO => Reads.load vO (hw.on (hO.belowB hM' hBW) (Nat.le_refl _)) hA 0 0 (by omega) (by omega) _ (by rw [hws0]; kernel_rfl)) (Zv (.string (mkS x)) ?_))))))))
  by_cases h2 : (c : List UInt8) = x
  · refine zM (.bool false) (by kernel_rfl) (xJ (a := c) (b := x) rfl (by kernel_rfl) (by kernel_rfl) (decide_eq_true (h2))) ?_
    refine Zv (.bool false) (ZX (ZB (ZO (Zv (.pointer (some ⟨b, 0, none⟩)) (Zv (.pointer (some ⟨b, 0, none⟩)) (Zv (.pointer (some ⟨b, 0, none⟩)) (Zv (.pointer (some ⟨b, 1, none⟩)) ?_)))))))
    refine Zl 0 ⟨b, #[.slice C nd.length cc, .slice A ts.length cap, .bool bad], 55⟩ (off := 1) (.slice A ts.length cap) (zM (.slice (some ⟨bp, off + (if cap = (1 : Int).toNat then 0 else (1 : Int).toNat * 1), none⟩) (ts.length - (1 : Int).toNat) (cap - (1 : Int).toNat)) (by kernel_rfl) (tK (b := bp) (off := off) (n := ts.length) (c := cap) (k := .i64) (j := 1) (e := 9) (sz := 1) rfl (by kernel_rfl) hA (by kernel_rfl) (by kernel_rfl) (by kernel_rfl) (by omega) (by omega)) (Zv (.pointer (some ⟨b, 0, none⟩)) (Zv (.pointer (some ⟨b, 1, none⟩)) (Zs 0 ⟨b, #[.slice C nd.length cc, .slice A ts.length cap, .bool bad], 55⟩ (off := 1) (.slice (some ⟨bp, off + (if cap = (1 : Int).toNat then 0 else (1 : Int).toNat * 1), none⟩) (ts.length - (1 : Int).toNat) (cap - (1 : Int).toNat)) (ZR (Zv (.bool true) (zK (z8 ?_))))))))
    refine zG ?_
    have hnx : xE x ts = true ∧ yJ x ts = r := by rw [hts, h2]; exact next_yes
    exact ZF (.bool true) Tryd.results70 (fun w hO => ⟨_, by rw [hnx.1], ⟨by rw [hnx.2]; exact ⟨_, cap - (1 : Int).toNat, by have q9 := Reads.from_ vO (hA ▸ hw) hcap (1 : Int).toNat; rw [show ts.drop (1 : Int).toNat = r from by rw [hts]; rfl] at q9; exact q9, (by show r.length ≤ cap - 1; omega), C, cc, g, by rw [show r.length = ts.length - (1 : Int).toNat from by show _ = ts.length - 1; omega]; rfl, hsl⟩, hO, fO hL.short, hL.texts⟩⟩)
  refine zM (.bool true) (by kernel_rfl) (xJ (a := c) (b := x) rfl (by kernel_rfl) (by kernel_rfl) (decide_eq_false (h2))) (Zv (.bool true) (ZY (ZO (Zv (.bool false) (ZN (zG (z5 ?_)))))))
  exact ZF (.bool false) Tryd.results70 (fun w hO => ⟨_, congrArg (fun z => Ending.returned (.bool z)) (kI (x := x) (ts := ts) (by rw [hts]; simp; exact h2)).1.symm, ⟨by rw [(kI (x := x) (ts := ts) (by rw [hts]; simp; exact h2)).2]; exact ⟨A, cap, hw, hcap, C, cc, g, rfl, hsl⟩, hO, fO hL.short, hL.texts⟩⟩)
structure wT (f : FuncId) (n : Nat) (part : List Tok → Option (Tr × List Tok)) : Prop where
  go : ∀ {B b : Nat} {ts : List Tok} {nd : List Nd} {bad : Bool} {ob : List Blk} {W : World}, LentL B b ts nd bad ob W → ts.length ≤ n →
    Calls Tryd.prog f #[.pointer (some ⟨b, 0, none⟩)] W fun e w' => ∃ ts' nd' bad' ob', e = .returned (.tuple #[]) ∧ BackL B b ts' nd' bad' ob ob' W w' ∧ GotL part ts nd bad ts' nd' bad'
theorem fY (n : Nat) : wT 81 n kP := by
  refine ⟨fun {B b ts nd bad ob W} hL hln => ?_⟩
  have hO0 := hL.own
  have hM' := x4 hL.ge
  have hBW := hL.le
  have hsh := hL.short
  have hsm := hL.small
  obtain ⟨A, cap, hw, hcap, C, cc, g, rfl, hsl⟩ := hL.rd
  have hO := hO0
  refine y6 (n := 59) hO Tryd.func81 rfl (by kernel_rfl) (by kernel_rfl) (zF (ZO (Zv (.pointer (some ⟨b, 0, none⟩)) (Zv (.pointer (some ⟨b, 0, none⟩)) (Zv (.pointer (some ⟨b, 1, none⟩)) (Zl 0 ⟨b, #[.slice C nd.length cc, .slice A ts.length cap, .bool bad], 55⟩ (off := 1) (.slice A ts.length cap) (Zv (.int .i64 (ts.length : Int)) ?_)))))))
  by_cases h1 : (ts.length : Int) < 3
  · have h3 : ts.length < 3 := by omega
    refine Zd (p := (ts.length : Int) < 3) true (decide_eq_true (h1)) (ZY (ZO (Zv (.pointer (some ⟨b, 0, none⟩)) (Zv (.pointer (some ⟨b, 0, none⟩)) (Zv (.pointer (some ⟨b, 2, none⟩)) (Zs 0 ⟨b, #[.slice C nd.length cc, .slice A ts.length cap, .bool bad], 55⟩ (off := 2) (.bool true) (zK (z8 ?_))))))))
    exact zG (z5 (wO Tryd.results81 (fun w hO => ⟨ts, nd, true, _, rfl, ⟨⟨A, cap, hw, hcap, C, cc, g, rfl, hsl⟩, hO, hL.short, hL.texts⟩, gl_short h3⟩)))
  obtain ⟨k, s, v, r, hts⟩ : ∃ k s v r, ts = k :: s :: v :: r := by match ts, h1 with | k :: s :: v :: r, _ => exact ⟨k, s, v, r, rfl⟩ | [], h => simp at h | [a], h => simp at h | [a, c], h => simp at h
  obtain ⟨bp, off, hA, hlt, hcell⟩ := hw (by omega)
  have hws0 : ∀ h : 0 < ts.length, ts[0] = k := by rw [hts]; intro h; rfl
  have hws1 : ∀ h : 1 < ts.length, ts[1] = s := by rw [hts]; intro h; rfl
  have hws2 : ∀ h : 2 < ts.length, ts[2] = v := by rw [hts]; intro h; rfl
  have htl : ts.length = r.length + 3 := by rw [hts]; rfl
  have hvs : v.length ≤ 1000000 := hL.short v (by rw [hts]; simp)
  have hrs : ∀ x ∈ r, x.length ≤ 1000000 := fun x hx => hL.short x (by rw [hts]; simp [hx])
  have htx : ∀ n ∈ nd ++ [(⟨1, 0, 0, vH k, v⟩ : Nd)], n.text.length ≤ 1000000 := bH hL.texts hvs
  refine Zd (p := (ts.length : Int) < 3) false (decide_eq_false (h1)) (ZX (ZB (zF (xU (by kernel_rfl) (by kernel_rfl) (Zw (.pointer (some ⟨b, 0, none⟩)) (Zw (.pointer (some ⟨b, 0, none⟩)) (Zw (.pointer (some ⟨b, 1, none⟩)) (Zm 0 ⟨b, #[.slice C nd.length cc, .slice A ts.length cap, .bool bad], 55⟩ (off := 1) (.slice A ts.length cap) ?_))))))))
  refine yQ (.pointer (some ⟨bp, off + 0 * 1, none⟩)) (by kernel_rfl) (ZA (b := bp) (off := off) (c := cap) (n := ts.length) (k := .i64) (j := 0) (e := 9) (sz := 1) hA) (qW (.string (mkS k)) (a := ⟨bp, off + 0 * 1, none⟩) (by kernel_rfl) rfl (by kernel_rfl) (fun w hO => Reads.load vO (hw.on (hO.belowB hM' hBW) (Nat.le_refl _)) hA 0 0 (by omega) (by omega) _ (by rw [hws0]; kernel_rfl)) (Zw (.pointer (some ⟨b, 0, none⟩)) (Zw (.pointer (some ⟨b, 0, none⟩)) (Zw (.pointer (some ⟨b, 1, none⟩)) (Zm 0 ⟨b, #[.slice C nd.length cc, .slice A ts.length cap, .bool bad], 55⟩ (off := 1) (.slice A ts.length cap) (yQ (.pointer (some ⟨bp, off + 1 * 1, none⟩)) (by kernel_rfl) (ZA (b := bp) (off := off) (c := cap) (n := ts.length) (k := .i64) (j := 1) (e := 9) (sz := 1) hA) (qW (.string (mkS s)) (a := ⟨bp, off + 1 * 1, none⟩) (by kernel_rfl) rfl (by kernel_rfl) (fun w hO => Reads.load vO (hw.on (hO.belowB hM' hBW) (Nat.le_refl _)) hA 1 0 (by omega) (by omega) _ (by rw [hws1]; kernel_rfl)) (Zw (.pointer (some ⟨b, 0, none⟩)) (Zw (.pointer (some ⟨b, 0, none⟩)) (Zw (.pointer (some ⟨b, 1, none⟩)) (Zm 0 ⟨b, #[.slice C nd.length cc, .slice A ts.length cap, .bool bad], 55⟩ (off := 1) (.slice A ts.length cap) ?_)))))))))))
  refine yQ (.pointer (some ⟨bp, off + 2 * 1, none⟩)) (by kernel_rfl) (ZA (b := bp) (off := off) (c := cap) (n := ts.length) (k := .i64) (j := 2) (e := 9) (sz := 1) hA) (qW (.string (mkS v)) (a := ⟨bp, off + 2 * 1, none⟩) (by kernel_rfl) rfl (by kernel_rfl) (fun w hO => Reads.load vO (hw.on (hO.belowB hM' hBW) (Nat.le_refl _)) hA 2 0 (by omega) (by omega) _ (by rw [hws2]; kernel_rfl)) (Zw (.string (mkS k)) (Zw (.string (mkS s)) (Zw (.string (mkS v)) (yU (z8 (ZO (Zv (.pointer (some ⟨b, 0, none⟩)) (Zv (.pointer (some ⟨b, 0, none⟩)) (Zv (.pointer (some ⟨b, 0, none⟩)) ?_))))))))))
  refine Zv (.pointer (some ⟨b, 1, none⟩)) (Zl 0 ⟨b, #[.slice C nd.length cc, .slice A ts.length cap, .bool bad], 55⟩ (off := 1) (.slice A ts.length cap) (zM (.slice (some ⟨bp, off + (if cap = (3 : Int).toNat then 0 else (3 : Int).toNat * 1), none⟩) (ts.length - (3 : Int).toNat) (cap - (3 : Int).toNat)) (by kernel_rfl) (tK (b := bp) (off := off) (n := ts.length) (c := cap) (k := .i64) (j := 3) (e := 9) (sz := 1) rfl (by kernel_rfl) hA (by kernel_rfl) (by kernel_rfl) (by kernel_rfl) (by omega) (by omega)) (Zv (.pointer (some ⟨b, 0, none⟩)) (Zv (.pointer (some ⟨b, 1, none⟩)) (Zs 0 ⟨b, #[.slice C nd.length cc, .slice A ts.length cap, .bool bad], 55⟩ (off := 1) (.slice (some ⟨bp, off + (if cap = (3 : Int).toNat then 0 else (3 : Int).toNat * 1), none⟩) (ts.length - (3 : Int).toNat) (cap - (3 : Int).toNat)) (ZN (zF ?_)))))))
  obtain ⟨ob1, hob1⟩ : ∃ ob1 : List Blk, ob1 = ⟨b, #[.slice C nd.length cc, .slice (some ⟨bp, off + (if cap = (3 : Int).toNat then 0 else (3 : Int).toNat * 1), none⟩) (ts.length - (3 : Int).toNat) (cap - (3 : Int).toNat), .bool bad], 55⟩ :: (g) := ⟨_, rfl⟩
  have hRd1 : Rdr W B b r nd bad ob1 := ⟨(some ⟨bp, off + (if cap = (3 : Int).toNat then 0 else (3 : Int).toNat * 1), none⟩), (cap - (3 : Int).toNat), by have q9 := Reads.from_ vO (hA ▸ hw) hcap (3 : Int).toNat; rw [show ts.drop (3 : Int).toNat = r from by rw [hts]; rfl] at q9; exact q9, (by show r.length ≤ cap - 3; omega), C, cc, g, by rw [hob1, show r.length = ts.length - (3 : Int).toNat from by show _ = ts.length - 3; omega], hsl⟩
  obtain ⟨A4, cap4, hw4, hcap4, hb1⟩ := hRd1
  refine yB (L' := (ob1 ++ ([] : List Blk)) ++ ([] : List Blk)) (by rw [List.append_nil, List.append_nil, hob1]; rfl) (kQ ([]) (by kernel_rfl) (fun w hO => Own.sub (ob1 ++ ([] : List Blk)) hO) (ZT 0 (ob1 ++ ([] : List Blk)) _ (.pointer (some ⟨b, 0, none⟩)) (zA zB) rfl (ZT 1 (ob1 ++ ([] : List Blk)) _ (.pointer (some ⟨b, 0, none⟩)) (zA zB) rfl (ZT 2 (ob1 ++ ([] : List Blk)) _ (.pointer (some ⟨b, 0, none⟩)) (zA zB) rfl (ZT 3 (ob1 ++ ([] : List Blk)) _ (.string (mkS k)) (zA zB) rfl (ZT 5 (ob1 ++ ([] : List Blk)) _ (.string (mkS v)) (zA zB) rfl (yK 4 (by kernel_rfl) (qZ (ob1 ++ ([] : List Blk)) _ (k := 88) (args := #[.string (mkS k)]) (.int .i64 (vH k)) rfl (by kernel_rfl) (fun _ => by kernel_rfl) (fun w hO => keyOf_any k B w (hL.lib.on (hO.belowB hM' hBW) (Nat.le_refl _)) (Nat.le_trans hBW hO.size)) (yK 6 (by kernel_rfl) (pZ (L' := ob1 ++ (([] : List Blk) ++ ([]))) (by simp <;> rfl) (vW _ (k := 53) (args := #[.pointer (some ⟨b, 0, none⟩), .int .i64 (vH k), .string (mkS v)]) (fun v' L' => v' = .tuple #[] ∧ ∃ ob', L' = ob' ++ (([] : List Blk) ++ ([])) ∧ Rb b A4 r.length cap4 bad (nd ++ [(⟨1, 0, 0, vH k, v⟩ : Nd)]) ob') rfl (by kernel_rfl) (fun _ => by kernel_rfl) (fun w hO => (ris10_any hb1 (Own.lent hO) (by omega) (vH k) v).mono fun e w' ⟨ob', k1, k2, k3⟩ => ⟨_, _, k1, ⟨rfl, ob', rfl, k2⟩, Own.back hO k3⟩) (fun v' L' ⟨_, ob', e, _⟩ w hO => by subst e; exact Own.sub ([] : List Blk) (Own.sub ob' hO)) (fun vlob2 Llob2 hvlob2 => ?_))))))))))))
  obtain ⟨rfl, ob2, rfl, hb2⟩ := hvlob2
  refine yT (L' := (ob2 ++ ([] : List Blk)) ++ ([])) (by simp <;> rfl) (xR (by kernel_rfl) (z8 (zF (yB (L' := ob2) (by simp) (z7 (Zv (.string (mkS s)) (ZN (zP (zF (z7 ?_))))))))))
  by_cases h2 : (s : List UInt8) = [61]
  · refine zM (.bool true) (by kernel_rfl) (zV (a := s) (b := ([61])) rfl (by kernel_rfl) (by kernel_rfl) (decide_eq_true (h2))) ?_
    exact Zv (.bool true) (ZY (x6 (zJ (yM Tryd.results81 (fun w hO => ⟨r, _, bad, ob2, rfl, ⟨⟨A4, cap4, hw4, hcap4, hb2⟩, hO, hrs, htx⟩, by rw [hts]; exact gl_eq h2⟩)))))
  refine zM (.bool false) (by kernel_rfl) (zV (a := s) (b := ([61])) rfl (by kernel_rfl) (by kernel_rfl) (decide_eq_false (h2))) (Zv (.bool false) (ZX (zF (z7 ?_))))
  by_cases h3 : (s : List UInt8) = [33, 61]
  · refine zM (.bool true) (by kernel_rfl) (zV (a := s) (b := ([33, 61])) rfl (by kernel_rfl) (by kernel_rfl) (decide_eq_true (h3))) ?_
    refine Zv (.bool true) (ZY (z7 (Zv (.pointer (some ⟨b, 0, none⟩)) (Zv (.pointer (some ⟨b, 0, none⟩)) (Zv (.pointer (some ⟨b, 0, none⟩)) (zH (L' := ob2 ++ ([] : List Blk)) (by simp) (zO (k := 55) (args := #[.pointer (some ⟨b, 0, none⟩)]) (fun v' L' => v' = .tuple #[] ∧ ∃ ob', L' = ob' ++ ([] : List Blk) ∧ Rb b A4 r.length cap4 bad (nd ++ [(⟨1, 0, 0, vH k, v⟩ : Nd)] ++ [(⟨2, ((nd ++ [(⟨1, 0, 0, vH k, v⟩ : Nd)]).length : Int) - 1, 0, 0, []⟩ : Nd)]) ob') (by kernel_rfl) (fun _ => by kernel_rfl) (fun w hO => (mR hb2 (Own.lent hO) (by rw [List.length_append, List.length_singleton]; omega)).mono fun e w' ⟨ob', k1, k2, k3⟩ => ⟨_, _, k1, ⟨rfl, ob', rfl, k2⟩, Own.join hO k3⟩) (fun v3 L3 hv3 => ?_))))))))
    obtain ⟨rfl, ob3, rfl, hb3⟩ := hv3
    exact zH (L' := ob3) (List.append_nil _) (zK (zJ (yM Tryd.results81 (fun w hO => ⟨r, _, bad, ob3, rfl, ⟨⟨A4, cap4, hw4, hcap4, hb3⟩, hO, hrs, bH htx (by simp)⟩, by rw [hts]; exact gl_ne h2 h3⟩))))
  refine zM (.bool false) (by kernel_rfl) (zV (a := s) (b := ([33, 61])) rfl (by kernel_rfl) (by kernel_rfl) (decide_eq_false (h3))) (Zv (.bool false) (ZN (Zf ?_)))
  obtain ⟨C2, cc2, g2, hob2, hsl2⟩ := hb2
  exact yB (L' := ⟨b, #[.slice C2 ((nd ++ [(⟨1, 0, 0, vH k, v⟩ : Nd)]).length) cc2, .slice A4 r.length cap4, .bool bad], 55⟩ :: g2) hob2 (z7 (Zv (.pointer (some ⟨b, 0, none⟩)) (Zv (.pointer (some ⟨b, 0, none⟩)) (Zv (.pointer (some ⟨b, 2, none⟩)) (Zs 0 ⟨b, #[.slice C2 ((nd ++ [(⟨1, 0, 0, vH k, v⟩ : Nd)]).length) cc2, .slice A4 r.length cap4, .bool bad], 55⟩ (off := 2) (.bool true) (zK (zJ (yM Tryd.results81 (fun w hO => ⟨r, _, true, _, rfl, ⟨⟨A4, cap4, hw4, hcap4, C2, cc2, g2, rfl, hsl2⟩, hO, hrs, htx⟩, by rw [hts]; exact gl_sign h2 h3⟩)))))))))
end
section
set_option linter.unnecessarySimpa false
theorem vB : ∃ i z, Tryd.prog.info? 9 = some i ∧ i.zero = some z ∧ i.size = 1 ∧ z.cells.size = 1 ∧ i.bytes = 16 := pY (by kernel_rfl)
theorem SlT.adds {u : Value} {l xs : List Tok} {ob : List Blk} (h : Sl 9 1 u (l.length + xs.length) (gF l ++ gF xs) ob) : SlT u (l ++ xs) ob := Sl.to h (by simp) (by rw [j4, j4, j4, List.flatMap_append])
def Wr (b : Nat) (A : Option Addr) (n cap : Nat) (ws : List Tok) (ob : List Blk) : Prop := ∃ C cc g, ob = ⟨b, #[.slice A n cap, .slice C ws.length cc], 70⟩ :: g ∧ SlT (.slice C ws.length cc) ws g
structure LentW (B b : Nat) (A : Option Addr) (cap : Nat) (l : List Nd) (ws : List Tok) (ob : List Blk) (W : World) : Prop where
  rd : Wr b A l.length cap ws ob
  own : Own (ob.map Blk.b) W W ob
  ge : ∀ x ∈ ob, B ≤ x.b
  le : B ≤ W.heap.size
  nodes : Reads nC W B A l
  lib : MkAt B W
structure BackW (b : Nat) (A : Option Addr) (n cap : Nat) (ws : List Tok) (ob ob' : List Blk) (W w' : World) : Prop where
  rd : Wr b A n cap ws ob'
  own : Own (ob.map Blk.b) W w' ob'
theorem LentW.at {B b cap : Nat} {A : Option Addr} {l : List Nd} {ws ws' : List Tok} {ob ob' R : List Blk} {W w : World} (h : LentW B b A cap l ws ob W) (hR : Wr b A l.length cap ws' ob') (hO : Own (ob.map Blk.b) W w (ob' ++ R)) : LentW B b A cap l ws' ob' w :=
  ⟨hR, Own.lent hO, fun x hx => hO.allB (x4 h.ge) h.le x (List.mem_append_left _ hx), Nat.le_trans h.le hO.size, h.nodes.on (hO.belowB (x4 h.ge) h.le) (Nat.le_refl _), h.lib.on (hO.belowB (x4 h.ge) h.le) (Nat.le_refl _)⟩
def jD (A : Option Addr) (cap : Nat) (l : List Nd) (a : Nat) (X : List Tok) : Prop := ∀ (B b : Nat) (ws : List Tok) (ob : List Blk) (W : World), LentW B b A cap l ws ob W → ws.length + X.length ≤ 100000 →
  Calls Tryd.prog 41 #[.pointer (some ⟨b, 0, none⟩), .int .i64 (a : Int)] W fun e w' => ∃ ob', e = .returned (.tuple #[]) ∧ BackW b A l.length cap (ws ++ X) ob ob' W w'
def d8 (A : Option Addr) (cap : Nat) (l : List Nd) (a : Nat) (z : Int) (X : List Tok) : Prop := ∀ (B b : Nat) (ws : List Tok) (ob : List Blk) (W : World), LentW B b A cap l ws ob W → ws.length + X.length ≤ 100000 →
  Calls Tryd.prog 63 #[.pointer (some ⟨b, 0, none⟩), .int .i64 (a : Int), .int .i64 z] W fun e w' => ∃ ob', e = .returned (.tuple #[]) ∧ BackW b A l.length cap (ws ++ X) ob ob' W w'
theorem wS {B b cap : Nat} {A : Option Addr} {l : List Nd} {ws : List Tok} {ob : List Blk} {W : World} (hL : LentW B b A cap l ws ob W) (op a b0 : Int) (k : Nat) (hk : k < 3) (v sg : Tok) (hn : ws.length + 3 ≤ 100000) : Calls Tryd.prog 62 #[.pointer (some ⟨b, 0, none⟩), ndV ⟨op, a, b0, (k : Int), v⟩, .string (mkS sg)] W fun e w' => ∃ ob', e = .returned (.tuple #[]) ∧ BackW b A l.length cap (ws ++ [yH k, sg, v]) ob ob' W w' := by
  have hM' := x4 hL.ge
  have hBW := hL.le
  have hv := hL.nodes
  have hO := hL.own
  obtain ⟨C, cc, g, rfl, hsl⟩ := hL.rd
  refine y6 (n := 22) hO Tryd.func62 rfl (by kernel_rfl) (by kernel_rfl) (ZO (Zb (ndV ⟨op, a, b0, (k : Int), v⟩) (fun b1 => ZN (yB (L' := ⟨b1, (ndV ⟨op, a, b0, (k : Int), v⟩).cells, 48⟩ :: (⟨b, #[.slice A l.length cap, .slice C ws.length cc], 70⟩ :: (g))) rfl (gB (L' := ⟨b, #[.slice A l.length cap, .slice C ws.length cc], 70⟩ :: (g ++ ([⟨b1, (ndV ⟨op, a, b0, (k : Int), v⟩).cells, 48⟩]))) (fun w hO => hO.perm (by simpa using (List.perm_append_comm (l₁ := [⟨b1, (ndV ⟨op, a, b0, (k : Int), v⟩).cells, 48⟩]) (l₂ := ⟨b, #[.slice A l.length cap, .slice C ws.length cc], 70⟩ :: g)).append_right ([] : List Blk))) (yB (L' := (⟨b, #[.slice A l.length cap, .slice C ws.length cc], 70⟩ :: (g ++ ([] : List Blk))) ++ [⟨b1, (ndV ⟨op, a, b0, (k : Int), v⟩).cells, 48⟩]) (by simp) (kQ ([⟨b1, (ndV ⟨op, a, b0, (k : Int), v⟩).cells, 48⟩]) (by kernel_rfl) (fun w hO => Own.sub (⟨b, #[.slice A l.length cap, .slice C ws.length cc], 70⟩ :: (g ++ ([] : List Blk))) hO) (ZT 0 (⟨b, #[.slice A l.length cap, .slice C ws.length cc], 70⟩ :: (g ++ ([] : List Blk))) _ (.pointer (some ⟨b, 0, none⟩)) zB rfl (ZT 1 (⟨b, #[.slice A l.length cap, .slice C ws.length cc], 70⟩ :: (g ++ ([] : List Blk))) _ (.pointer (some ⟨b, 0, none⟩)) zB rfl ?_)))))))))
  refine ZT 2 (⟨b, #[.slice A l.length cap, .slice C ws.length cc], 70⟩ :: (g ++ ([] : List Blk))) _ (.pointer (some ⟨b, 0, none⟩)) zB rfl (ZT 3 (⟨b, #[.slice A l.length cap, .slice C ws.length cc], 70⟩ :: (g ++ ([] : List Blk))) _ (.pointer (some ⟨b, 1, none⟩)) zB rfl (ZT 5 (⟨b, #[.slice A l.length cap, .slice C ws.length cc], 70⟩ :: (g ++ ([] : List Blk))) _ (.pointer (some ⟨b1, 3, none⟩)) zB rfl (ZL 6 (⟨b, #[.slice A l.length cap, .slice C ws.length cc], 70⟩ :: (g ++ ([] : List Blk))) _ 0 ⟨b1, (ndV ⟨op, a, b0, (k : Int), v⟩).cells, 48⟩ (off := 3) (.int .i64 (k : Int)) zB rfl rfl (gU 7 (⟨b, #[.slice A l.length cap, .slice C ws.length cc], 70⟩ :: (g ++ ([] : List Blk))) _ (.pointer (some ⟨0, 0 + k * 1, none⟩)) rfl (by kernel_rfl) (by kernel_rfl) (by kernel_rfl) zB (by kernel_rfl) (fun w _ => xK (b := 0) (off := 0) (k := .i64) (j := (k : Int)) (n := 3) (e := 9) (sz := 1) rfl (by kernel_rfl) (by kernel_rfl) (by kernel_rfl) (by kernel_rfl) (by omega) (by omega) (by omega) w) (jP 8 _ (a := ⟨0, 0 + k * 1, none⟩) (.string (mkS (yH k))) rfl (by kernel_rfl) (by kernel_rfl) (by kernel_rfl) zB (fun w hO => Own.sub (⟨b, #[.slice A l.length cap, .slice C ws.length cc], 70⟩ :: (g ++ ([] : List Blk))) hO) (by kernel_rfl) rfl (by kernel_rfl) (fun w hO => (hL.lib.on (hO.belowB hM' hBW) (Nat.le_refl _)).one k hk) (ZT 9 (⟨b, #[.slice A l.length cap, .slice C ws.length cc], 70⟩ :: (g ++ ([] : List Blk))) _ (.string (mkS sg)) zB rfl (ZT 10 (⟨b, #[.slice A l.length cap, .slice C ws.length cc], 70⟩ :: (g ++ ([] : List Blk))) _ (.pointer (some ⟨b1, 4, none⟩)) zB rfl (ZL 11 (⟨b, #[.slice A l.length cap, .slice C ws.length cc], 70⟩ :: (g ++ ([] : List Blk))) _ 0 ⟨b1, (ndV ⟨op, a, b0, (k : Int), v⟩).cells, 48⟩ (off := 4) (.string (mkS v)) zB rfl rfl (d5 4 12 (by kernel_rfl) ?_ ?_)))))))))
  · refine gO (⟨b, #[.slice A l.length cap, .slice C ws.length cc], 70⟩ :: (g ++ ([] : List Blk))) _ (.slice C ws.length cc) rfl (by kernel_rfl) (fun w hO => yF (a := ⟨b, 1, none⟩) rfl (by kernel_rfl) (yO (off := 1) (cs := (⟨b, #[.slice A l.length cap, .slice C ws.length cc], 70⟩ : Blk).cs) (by kernel_rfl) (hO.held ⟨b, #[.slice A l.length cap, .slice C ws.length cc], 70⟩ (by simp)))) ?_
    refine yK 12 (by kernel_rfl) (kY _ 9 #[.string (mkS (yH k)), .string (mkS sg), .string (mkS v)] rfl (by kernel_rfl) rfl (fun w hO => Own.sub (⟨b, #[.slice A l.length cap, .slice C ws.length cc], 70⟩ :: (g ++ ([] : List Blk))) hO) (fun _ => by kernel_rfl) (fun b2 => ?_))
    obtain ⟨i0, z0, e1, e2, e3, e4, e5⟩ := vB
    refine yT (L' := [⟨b2, #[.string (mkS (yH k)), .string (mkS sg), .string (mkS v)], 9⟩, ⟨b, #[.slice A l.length cap, .slice C ws.length cc], 70⟩] ++ g ++ ([⟨b1, (ndV ⟨op, a, b0, (k : Int), v⟩).cells, 48⟩])) (by simp) (yK 13 (by kernel_rfl) (x5 (E := [⟨b2, #[.string (mkS (yH k)), .string (mkS sg), .string (mkS v)], 9⟩, ⟨b, #[.slice A l.length cap, .slice C ws.length cc], 70⟩]) (ob := g) (sz := 1) _ rfl (by kernel_rfl) rfl Tryd.underlying50 e1 e2 e3 e4 (by kernel_rfl) hsl (a := ⟨b2, 0, none⟩) (m := 3) (c := 3) (news := gF [yH k, sg, v]) (by kernel_rfl) rfl (fun w hO j u hj => ?_) (fun u hu => by simp [gF] at hu; rcases hu with rfl | rfl | rfl <;> rfl) (by unfold maxLen; (try simp only [List.length_append, List.length_cons, List.length_nil] at hn ⊢); omega) (by rw [e5]; (try simp only [List.length_append, List.length_cons, List.length_nil] at hn ⊢); omega) (fun ob' w h => Own.sub ([⟨b2, #[.string (mkS (yH k)), .string (mkS sg), .string (mkS v)], 9⟩, ⟨b, #[.slice A l.length cap, .slice C ws.length cc], 70⟩] ++ ob') h) (fun u1 ob1 hu1 => ?_)))
    · rw [y5, cell_of_row w b2 (0 + j) (gF [yH k, sg, v]).toArray 9 _ (hO.held ⟨b2, (gF [yH k, sg, v]).toArray, 9⟩ (List.mem_append_left _ (List.mem_append_left _ (List.mem_cons_self ..))))]; simpa using hj
    have hsl1 : SlT u1 (ws ++ [yH k, sg, v]) ob1 := SlT.adds hu1
    obtain ⟨C1, cc1, rfl⟩ := SlT.form hsl1
    exact yT (L' := (⟨b2, #[.string (mkS (yH k)), .string (mkS sg), .string (mkS v)], 9⟩ :: (⟨b, #[.slice A l.length cap, .slice C ws.length cc], 70⟩ :: (ob1 ++ ([] : List Blk)))) ++ ([⟨b1, (ndV ⟨op, a, b0, (k : Int), v⟩).cells, 48⟩])) (by simp) (ZT 14 (⟨b2, #[.string (mkS (yH k)), .string (mkS sg), .string (mkS v)], 9⟩ :: (⟨b, #[.slice A l.length cap, .slice C ws.length cc], 70⟩ :: (ob1 ++ ([] : List Blk)))) _ (.pointer (some ⟨b, 0, none⟩)) zB rfl (ZT 15 (⟨b2, #[.string (mkS (yH k)), .string (mkS sg), .string (mkS v)], 9⟩ :: (⟨b, #[.slice A l.length cap, .slice C ws.length cc], 70⟩ :: (ob1 ++ ([] : List Blk)))) _ (.pointer (some ⟨b, 1, none⟩)) zB rfl (yK 16 (by kernel_rfl) (ZS (⟨b2, #[.string (mkS (yH k)), .string (mkS sg), .string (mkS v)], 9⟩ :: (⟨b, #[.slice A l.length cap, .slice C ws.length cc], 70⟩ :: (ob1 ++ ([] : List Blk)))) _ 1 ⟨b, #[.slice A l.length cap, .slice C ws.length cc], 70⟩ (off := 1) (.slice C1 ((ws ++ [yH k, sg, v]).length) cc1) rfl rfl (xR (by kernel_rfl) (yM Tryd.results62 (fun w hO => ⟨_, rfl, ⟨C1, cc1, ob1, rfl, hsl1⟩, hO.sublist (List.Sublist.cons _ (List.Sublist.cons_cons _ (by simp)))⟩)))))))
  refine kY _ 9 #[.string (mkS (yH k)), .string (mkS sg), .string (mkS v)] rfl (by kernel_rfl) rfl (fun w hO => Own.sub (⟨b, #[.slice A l.length cap, .slice C ws.length cc], 70⟩ :: (g ++ ([] : List Blk))) hO) (fun _ => by kernel_rfl) (fun b2 => yK 4 (by kernel_rfl) (gO (⟨b2, #[.string (mkS (yH k)), .string (mkS sg), .string (mkS v)], 9⟩ :: (⟨b, #[.slice A l.length cap, .slice C ws.length cc], 70⟩ :: (g ++ ([] : List Blk)))) _ (.slice C ws.length cc) rfl (by kernel_rfl) (fun w hO => yF (a := ⟨b, 1, none⟩) rfl (by kernel_rfl) (yO (off := 1) (cs := (⟨b, #[.slice A l.length cap, .slice C ws.length cc], 70⟩ : Blk).cs) (by kernel_rfl) (hO.held ⟨b, #[.slice A l.length cap, .slice C ws.length cc], 70⟩ (by simp)))) ?_))
  obtain ⟨i0, z0, e1, e2, e3, e4, e5⟩ := vB
  refine yT (L' := [⟨b2, #[.string (mkS (yH k)), .string (mkS sg), .string (mkS v)], 9⟩, ⟨b, #[.slice A l.length cap, .slice C ws.length cc], 70⟩] ++ g ++ ([⟨b1, (ndV ⟨op, a, b0, (k : Int), v⟩).cells, 48⟩])) (by simp) (yK 13 (by kernel_rfl) (x5 (E := [⟨b2, #[.string (mkS (yH k)), .string (mkS sg), .string (mkS v)], 9⟩, ⟨b, #[.slice A l.length cap, .slice C ws.length cc], 70⟩]) (ob := g) (sz := 1) _ rfl (by kernel_rfl) rfl Tryd.underlying50 e1 e2 e3 e4 (by kernel_rfl) hsl (a := ⟨b2, 0, none⟩) (m := 3) (c := 3) (news := gF [yH k, sg, v]) (by kernel_rfl) rfl (fun w hO j u hj => ?_) (fun u hu => by simp [gF] at hu; rcases hu with rfl | rfl | rfl <;> rfl) (by unfold maxLen; (try simp only [List.length_append, List.length_cons, List.length_nil] at hn ⊢); omega) (by rw [e5]; (try simp only [List.length_append, List.length_cons, List.length_nil] at hn ⊢); omega) (fun ob' w h => Own.sub ([⟨b2, #[.string (mkS (yH k)), .string (mkS sg), .string (mkS v)], 9⟩, ⟨b, #[.slice A l.length cap, .slice C ws.length cc], 70⟩] ++ ob') h) (fun u1 ob1 hu1 => ?_)))
  · rw [y5, cell_of_row w b2 (0 + j) (gF [yH k, sg, v]).toArray 9 _ (hO.held ⟨b2, (gF [yH k, sg, v]).toArray, 9⟩ (List.mem_append_left _ (List.mem_append_left _ (List.mem_cons_self ..))))]; simpa using hj
  have hsl1 : SlT u1 (ws ++ [yH k, sg, v]) ob1 := SlT.adds hu1
  obtain ⟨C1, cc1, rfl⟩ := SlT.form hsl1
  exact yT (L' := (⟨b2, #[.string (mkS (yH k)), .string (mkS sg), .string (mkS v)], 9⟩ :: (⟨b, #[.slice A l.length cap, .slice C ws.length cc], 70⟩ :: (ob1 ++ ([] : List Blk)))) ++ ([⟨b1, (ndV ⟨op, a, b0, (k : Int), v⟩).cells, 48⟩])) (by simp) (ZT 14 (⟨b2, #[.string (mkS (yH k)), .string (mkS sg), .string (mkS v)], 9⟩ :: (⟨b, #[.slice A l.length cap, .slice C ws.length cc], 70⟩ :: (ob1 ++ ([] : List Blk)))) _ (.pointer (some ⟨b, 0, none⟩)) zB rfl (ZT 15 (⟨b2, #[.string (mkS (yH k)), .string (mkS sg), .string (mkS v)], 9⟩ :: (⟨b, #[.slice A l.length cap, .slice C ws.length cc], 70⟩ :: (ob1 ++ ([] : List Blk)))) _ (.pointer (some ⟨b, 1, none⟩)) zB rfl (yK 16 (by kernel_rfl) (ZS (⟨b2, #[.string (mkS (yH k)), .string (mkS sg), .string (mkS v)], 9⟩ :: (⟨b, #[.slice A l.length cap, .slice C ws.length cc], 70⟩ :: (ob1 ++ ([] : List Blk)))) _ 1 ⟨b, #[.slice A l.length cap, .slice C ws.length cc], 70⟩ (off := 1) (.slice C1 ((ws ++ [yH k, sg, v]).length) cc1) rfl rfl (xR (by kernel_rfl) (yM Tryd.results62 (fun w hO => ⟨_, rfl, ⟨C1, cc1, ob1, rfl, hsl1⟩, hO.sublist (List.Sublist.cons _ (List.Sublist.cons_cons _ (by simp)))⟩)))))))
theorem opn_in {A : Option Addr} {cap : Nat} {l : List Nd} (hl9 : l.length ≤ 1000) {a : Nat} {na : Nd} {z : Int} {X : List Tok} (ha : l[a]? = some na) (hz : na.op ≤ z) (ha' : jD A cap l a X) : d8 A cap l a z X := by
  intro B b ws ob W hL hn
  have hM' := x4 hL.ge
  have hBW := hL.le
  have hv := hL.nodes
  have hO := hL.own
  obtain ⟨C, cc, g, rfl, hsl⟩ := hL.rd
  obtain ⟨ha, ea⟩ := yV ha
  obtain ⟨bp, off, hA, hlt, hcell⟩ := hv (by omega)
  refine y6 (n := 40) hO Tryd.func63 rfl (by kernel_rfl) (by kernel_rfl) (zF (ZO (Zv (.pointer (some ⟨b, 0, none⟩)) (Zv (.pointer (some ⟨b, 0, none⟩)) (Zv (.pointer (some ⟨b, 0, none⟩)) (Zl 0 ⟨b, #[.slice A l.length cap, .slice C ws.length cc], 70⟩ (off := 0) (.slice A l.length cap) (Zv (.int .i64 (a : Int)) (zM (.pointer (some ⟨bp, off + a * 5, none⟩)) (by kernel_rfl) (ZA (b := bp) (off := off) (c := cap) (n := l.length) (k := .i64) (j := (a : Int)) (e := 48) (sz := 5) hA) (Zv (.pointer (some ⟨bp, off + a * 5 + 0, none⟩)) (Zo (.int .i64 na.op) (a := ⟨bp, off + a * 5 + 0, none⟩) (fun w hO => Reads.load yX (hv.on (hO.belowB hM' hBW) (Nat.le_refl _)) hA a 0 ha (by omega) _ (by rw [ea]; kernel_rfl)) ?_))))))))))
  refine Zv (.int .i64 z) (Zd (p := (na.op : Int) ≤ z) true (decide_eq_true (hz)) (ZY (ZO (Zv (.pointer (some ⟨b, 0, none⟩)) (Zv (.int .i64 (a : Int)) (zH (L' := (⟨b, #[.slice A l.length cap, .slice C ws.length cc], 70⟩ :: g) ++ ([] : List Blk)) (by simp) (zO (k := 41) (args := #[.pointer (some ⟨b, 0, none⟩), .int .i64 (a : Int)]) (fun v' L' => v' = .tuple #[] ∧ ∃ ob', L' = ob' ++ ([] : List Blk) ∧ Wr b A l.length cap (ws ++ X) ob') (by kernel_rfl) (fun _ => by kernel_rfl) (fun w hO => (ha' _ _ _ _ _ (hL.at ⟨C, cc, g, rfl, hsl⟩ hO) (by (try simp only [List.length_append, List.length_cons, List.length_nil] at hn ⊢); omega)).mono fun e w' ⟨ob', k1, k2⟩ => ⟨_, _, k1, ⟨rfl, ob', rfl, k2.rd⟩, Own.join hO k2.own⟩) (fun v1 L1 hv1 => ?_))))))))
  obtain ⟨rfl, ob1, rfl, C1, cc1, g1, rfl, hsl1⟩ := hv1
  exact zH (L' := ⟨b, #[.slice A l.length cap, .slice C1 ((ws ++ X).length) cc1], 70⟩ :: (g1)) (by simp) (ZN (zG (z5 (wO Tryd.results63 (fun w hO => ⟨_, rfl, ⟨C1, cc1, g1, by first | rfl | (rw [show ws ++ X = (ws ++ X) from by simp]; done) | (rw [show ws ++ X = (ws ++ X) from by simp]; rfl), by first | exact hsl1 | (rw [show ws ++ X = (ws ++ X) from by simp]; exact hsl1)⟩, hO.sublist (by first | exact List.Sublist.refl _ | exact List.Sublist.cons_cons _ (by simp) | simp)⟩)))))
theorem opn_out {A : Option Addr} {cap : Nat} {l : List Nd} (hl9 : l.length ≤ 1000) {a : Nat} {na : Nd} {z : Int} {X : List Tok} (ha : l[a]? = some na) (hz : ¬ na.op ≤ z) (ha' : jD A cap l a X) : d8 A cap l a z (yP :: (X ++ [yC])) := by
  intro B b ws ob W hL hn
  have hM' := x4 hL.ge
  have hBW := hL.le
  have hv := hL.nodes
  have hO := hL.own
  obtain ⟨C, cc, g, rfl, hsl⟩ := hL.rd
  obtain ⟨ha, ea⟩ := yV ha
  obtain ⟨bp, off, hA, hlt, hcell⟩ := hv (by omega)
  refine y6 (n := 40) hO Tryd.func63 rfl (by kernel_rfl) (by kernel_rfl) (zF (ZO (Zv (.pointer (some ⟨b, 0, none⟩)) (Zv (.pointer (some ⟨b, 0, none⟩)) (Zv (.pointer (some ⟨b, 0, none⟩)) (Zl 0 ⟨b, #[.slice A l.length cap, .slice C ws.length cc], 70⟩ (off := 0) (.slice A l.length cap) (Zv (.int .i64 (a : Int)) (zM (.pointer (some ⟨bp, off + a * 5, none⟩)) (by kernel_rfl) (ZA (b := bp) (off := off) (c := cap) (n := l.length) (k := .i64) (j := (a : Int)) (e := 48) (sz := 5) hA) (Zv (.pointer (some ⟨bp, off + a * 5 + 0, none⟩)) (Zo (.int .i64 na.op) (a := ⟨bp, off + a * 5 + 0, none⟩) (fun w hO => Reads.load yX (hv.on (hO.belowB hM' hBW) (Nat.le_refl _)) hA a 0 ha (by omega) _ (by rw [ea]; kernel_rfl)) ?_))))))))))
  refine Zv (.int .i64 z) (Zd (p := (na.op : Int) ≤ z) false (decide_eq_false (hz)) (ZX (ZB (ZO (Zv (.pointer (some ⟨b, 0, none⟩)) (Zv (.pointer (some ⟨b, 0, none⟩)) (Zv (.pointer (some ⟨b, 0, none⟩)) ?_)))))))
  refine Zv (.pointer (some ⟨b, 1, none⟩)) (Zl 0 ⟨b, #[.slice A l.length cap, .slice C ws.length cc], 70⟩ (off := 1) (.slice C ws.length cc) (g0 9 #[.string ⟨#[40]⟩] (by kernel_rfl) rfl (fun _ => by kernel_rfl) (fun b1 => ?_)))
  obtain ⟨i0, z0, e1, e2, e3, e4, e5⟩ := vB
  refine zH (L' := [⟨b1, #[.string ⟨#[40]⟩], 9⟩, ⟨b, #[.slice A l.length cap, .slice C ws.length cc], 70⟩] ++ g ++ ([] : List Blk)) (by simp <;> rfl) (x0 (sz := 1) (by kernel_rfl) rfl Tryd.underlying50 e1 e2 e3 e4 (by kernel_rfl) hsl (a := ⟨b1, 0, none⟩) (m := 1) (c := 1) (news := gF [yP]) (by kernel_rfl) rfl (fun w hO j u hj => ?_) (fun u hu => by simp [gF] at hu; simp [hu, Value.oneCell']) (by unfold maxLen; (try simp only [List.length_append, List.length_cons, List.length_nil] at hn ⊢); omega) (by rw [e5]; (try simp only [List.length_append, List.length_cons, List.length_nil] at hn ⊢); omega) (fun u1 ob1 hu1 => ?_))
  · rw [y5, cell_of_row w b1 (0 + j) (gF [yP]).toArray 9 _ (hO.held ⟨b1, (gF [yP]).toArray, 9⟩ (List.mem_append_left _ (List.mem_append_left _ (List.mem_cons_self ..))))]; simpa using hj
  have hsl1 : SlT u1 (ws ++ [yP]) ob1 := SlT.adds hu1
  obtain ⟨C1, cc1, rfl⟩ := SlT.form hsl1
  refine yI (L' := ⟨b, #[.slice A l.length cap, .slice C ws.length cc], 70⟩ :: (ob1)) (fun w hO => Own.sub [⟨b1, #[.string ⟨#[40]⟩], 9⟩] (show Own _ _ w (⟨b1, #[.string ⟨#[40]⟩], 9⟩ :: (⟨b, #[.slice A l.length cap, .slice C ws.length cc], 70⟩ :: (ob1))) from by simpa using hO)) (Zv (.pointer (some ⟨b, 0, none⟩)) (Zv (.pointer (some ⟨b, 1, none⟩)) (Zs 0 ⟨b, #[.slice A l.length cap, .slice C ws.length cc], 70⟩ (off := 1) (.slice C1 ((ws ++ [yP]).length) cc1) (zH (L' := ⟨b, #[.slice A l.length cap, .slice C1 ((ws ++ [yP]).length) cc1], 70⟩ :: (ob1)) rfl (ZR (Zv (.pointer (some ⟨b, 0, none⟩)) (Zv (.int .i64 (a : Int)) (zH (L' := (⟨b, #[.slice A l.length cap, .slice C1 ((ws ++ [yP]).length) cc1], 70⟩ :: ob1) ++ ([] : List Blk)) (by simp) ?_))))))))
  refine zO (k := 41) (args := #[.pointer (some ⟨b, 0, none⟩), .int .i64 (a : Int)]) (fun v' L' => v' = .tuple #[] ∧ ∃ ob', L' = ob' ++ ([] : List Blk) ∧ Wr b A l.length cap ((ws ++ [yP]) ++ X) ob') (by kernel_rfl) (fun _ => by kernel_rfl) (fun w hO => (ha' _ _ _ _ _ (hL.at ⟨C1, cc1, ob1, rfl, hsl1⟩ hO) (by (try simp only [List.length_append, List.length_cons, List.length_nil] at hn ⊢); omega)).mono fun e w' ⟨ob', k1, k2⟩ => ⟨_, _, k1, ⟨rfl, ob', rfl, k2.rd⟩, Own.join hO k2.own⟩) (fun v2 L2 hv2 => ?_)
  obtain ⟨rfl, ob2, rfl, C2, cc2, g2, rfl, hsl2⟩ := hv2
  refine zH (L' := ⟨b, #[.slice A l.length cap, .slice C2 (((ws ++ [yP]) ++ X).length) cc2], 70⟩ :: (g2)) (by simp) (ZN (z7 (Zv (.pointer (some ⟨b, 0, none⟩)) (Zv (.pointer (some ⟨b, 0, none⟩)) (Zv (.pointer (some ⟨b, 0, none⟩)) (Zv (.pointer (some ⟨b, 1, none⟩)) (Zl 0 ⟨b, #[.slice A l.length cap, .slice C2 (((ws ++ [yP]) ++ X).length) cc2], 70⟩ (off := 1) (.slice C2 (((ws ++ [yP]) ++ X).length) cc2) (g0 9 #[.string ⟨#[41]⟩] (by kernel_rfl) rfl (fun _ => by kernel_rfl) (fun b2 => ?_)))))))))
  obtain ⟨i0, z0, e1, e2, e3, e4, e5⟩ := vB
  refine zH (L' := [⟨b2, #[.string ⟨#[41]⟩], 9⟩, ⟨b, #[.slice A l.length cap, .slice C2 (((ws ++ [yP]) ++ X).length) cc2], 70⟩] ++ g2 ++ ([] : List Blk)) (by simp <;> rfl) (x0 (sz := 1) (by kernel_rfl) rfl Tryd.underlying50 e1 e2 e3 e4 (by kernel_rfl) hsl2 (a := ⟨b2, 0, none⟩) (m := 1) (c := 1) (news := gF [yC]) (by kernel_rfl) rfl (fun w hO j u hj => ?_) (fun u hu => by simp [gF] at hu; simp [hu, Value.oneCell']) (by unfold maxLen; (try simp only [List.length_append, List.length_cons, List.length_nil] at hn ⊢); omega) (by rw [e5]; (try simp only [List.length_append, List.length_cons, List.length_nil] at hn ⊢); omega) (fun u3 ob3 hu3 => ?_))
  · rw [y5, cell_of_row w b2 (0 + j) (gF [yC]).toArray 9 _ (hO.held ⟨b2, (gF [yC]).toArray, 9⟩ (List.mem_append_left _ (List.mem_append_left _ (List.mem_cons_self ..))))]; simpa using hj
  have hsl3 : SlT u3 (((ws ++ [yP]) ++ X) ++ [yC]) ob3 := SlT.adds hu3
  obtain ⟨C3, cc3, rfl⟩ := SlT.form hsl3
  exact yI (L' := ⟨b, #[.slice A l.length cap, .slice C2 (((ws ++ [yP]) ++ X).length) cc2], 70⟩ :: (ob3)) (fun w hO => Own.sub [⟨b2, #[.string ⟨#[41]⟩], 9⟩] (show Own _ _ w (⟨b2, #[.string ⟨#[41]⟩], 9⟩ :: (⟨b, #[.slice A l.length cap, .slice C2 (((ws ++ [yP]) ++ X).length) cc2], 70⟩ :: (ob3))) from by simpa using hO)) (Zv (.pointer (some ⟨b, 0, none⟩)) (Zv (.pointer (some ⟨b, 1, none⟩)) (Zs 0 ⟨b, #[.slice A l.length cap, .slice C2 (((ws ++ [yP]) ++ X).length) cc2], 70⟩ (off := 1) (.slice C3 ((((ws ++ [yP]) ++ X) ++ [yC]).length) cc3) (zH (L' := ⟨b, #[.slice A l.length cap, .slice C3 ((((ws ++ [yP]) ++ X) ++ [yC]).length) cc3], 70⟩ :: (ob3)) rfl (zK (yM Tryd.results63 (fun w hO => ⟨_, rfl, ⟨C3, cc3, ob3, by first | rfl | (rw [show ws ++ (yP :: (X ++ [yC])) = (((ws ++ [yP]) ++ X) ++ [yC]) from by simp]; done) | (rw [show ws ++ (yP :: (X ++ [yC])) = (((ws ++ [yP]) ++ X) ++ [yC]) from by simp]; rfl), by first | exact hsl3 | (rw [show ws ++ (yP :: (X ++ [yC])) = (((ws ++ [yP]) ++ X) ++ [yC]) from by simp]; exact hsl3)⟩, hO.sublist (by first | exact List.Sublist.refl _ | exact List.Sublist.cons_cons _ (by simp) | simp)⟩)))))))
theorem nU {B b cap : Nat} {A : Option Addr} {l : List Nd} {ws : List Tok} {ob : List Blk} {W : World} (hL : LentW B b A cap l ws ob W) {op : Int} {a b0 : Nat} {X Y : List Tok} (ha' : d8 A cap l a op X) (hb' : d8 A cap l b0 (op - 1) Y) (ho1 : 0 ≤ op) (ho2 : op ≤ 10) (wd : Tok) (hn : ws.length + (X ++ wd :: Y).length ≤ 100000) : Calls Tryd.prog 64 #[.pointer (some ⟨b, 0, none⟩), ndV ⟨op, (a : Int), (b0 : Int), 0, []⟩, .string (mkS wd)] W fun e w' => ∃ ob', e = .returned (.tuple #[]) ∧ BackW b A l.length cap (ws ++ (X ++ wd :: Y)) ob ob' W w' := by
  have hM' := x4 hL.ge
  have hBW := hL.le
  have hv := hL.nodes
  have hO := hL.own
  obtain ⟨C, cc, g, rfl, hsl⟩ := hL.rd
  refine y6 (n := 29) hO Tryd.func64 rfl (by kernel_rfl) (by kernel_rfl) (ZO (Zb (ndV ⟨op, (a : Int), (b0 : Int), 0, []⟩) (fun b1 => ZN (zF (yB (L' := ⟨b1, (ndV ⟨op, (a : Int), (b0 : Int), 0, []⟩).cells, 48⟩ :: (⟨b, #[.slice A l.length cap, .slice C ws.length cc], 70⟩ :: (g))) rfl (gB (L' := ⟨b, #[.slice A l.length cap, .slice C ws.length cc], 70⟩ :: (g ++ ([⟨b1, (ndV ⟨op, (a : Int), (b0 : Int), 0, []⟩).cells, 48⟩]))) (fun w hO => hO.perm (by simpa using (List.perm_append_comm (l₁ := [⟨b1, (ndV ⟨op, (a : Int), (b0 : Int), 0, []⟩).cells, 48⟩]) (l₂ := ⟨b, #[.slice A l.length cap, .slice C ws.length cc], 70⟩ :: g)).append_right ([] : List Blk))) (z7 (Zv (.pointer (some ⟨b, 0, none⟩)) (Zv (.pointer (some ⟨b1, 1, none⟩)) ?_)))))))))
  refine zX ⟨b1, (ndV ⟨op, (a : Int), (b0 : Int), 0, []⟩).cells, 48⟩ (off := 1) (.int .i64 (a : Int)) (by kernel_rfl) rfl (by simp) (by kernel_rfl) (by kernel_rfl) (Zv (.pointer (some ⟨b1, 0, none⟩)) (zX ⟨b1, (ndV ⟨op, (a : Int), (b0 : Int), 0, []⟩).cells, 48⟩ (off := 0) (.int .i64 op) (by kernel_rfl) rfl (by simp) (by kernel_rfl) (by kernel_rfl) (zH (L' := (⟨b, #[.slice A l.length cap, .slice C ws.length cc], 70⟩ :: g) ++ ([⟨b1, (ndV ⟨op, (a : Int), (b0 : Int), 0, []⟩).cells, 48⟩] : List Blk)) (by simp) (zO (k := 63) (args := #[.pointer (some ⟨b, 0, none⟩), .int .i64 (a : Int), .int .i64 op]) (fun v' L' => v' = .tuple #[] ∧ ∃ ob', L' = ob' ++ ([⟨b1, (ndV ⟨op, (a : Int), (b0 : Int), 0, []⟩).cells, 48⟩] : List Blk) ∧ Wr b A l.length cap (ws ++ X) ob') (by kernel_rfl) (fun _ => by kernel_rfl) (fun w hO => (ha' _ _ _ _ _ (hL.at ⟨C, cc, g, rfl, hsl⟩ hO) (by (try simp only [List.length_append, List.length_cons, List.length_nil] at hn ⊢); omega)).mono fun e w' ⟨ob', k1, k2⟩ => ⟨_, _, k1, ⟨rfl, ob', rfl, k2.rd⟩, Own.join hO k2.own⟩) (fun v1 L1 hv1 => ?_)))))
  obtain ⟨rfl, ob1, rfl, C1, cc1, g1, rfl, hsl1⟩ := hv1
  refine zH (L' := ⟨b, #[.slice A l.length cap, .slice C1 ((ws ++ X).length) cc1], 70⟩ :: (g1 ++ ([⟨b1, (ndV ⟨op, (a : Int), (b0 : Int), 0, []⟩).cells, 48⟩]))) (by simp) (ZR (Zv (.pointer (some ⟨b, 0, none⟩)) (Zv (.pointer (some ⟨b, 0, none⟩)) (Zv (.pointer (some ⟨b, 0, none⟩)) (Zv (.pointer (some ⟨b, 1, none⟩)) (Zl 0 ⟨b, #[.slice A l.length cap, .slice C1 ((ws ++ X).length) cc1], 70⟩ (off := 1) (.slice C1 ((ws ++ X).length) cc1) (Zv (.string (mkS wd)) (g0 9 #[.string (mkS wd)] (by kernel_rfl) rfl (fun _ => by kernel_rfl) (fun b2 => ?_)))))))))
  obtain ⟨i0, z0, e1, e2, e3, e4, e5⟩ := vB
  refine zH (L' := [⟨b2, #[.string (mkS wd)], 9⟩, ⟨b, #[.slice A l.length cap, .slice C1 ((ws ++ X).length) cc1], 70⟩] ++ g1 ++ ([⟨b1, (ndV ⟨op, (a : Int), (b0 : Int), 0, []⟩).cells, 48⟩])) (by simp <;> rfl) (x0 (sz := 1) (by kernel_rfl) rfl Tryd.underlying50 e1 e2 e3 e4 (by kernel_rfl) hsl1 (a := ⟨b2, 0, none⟩) (m := 1) (c := 1) (news := gF [wd]) (by kernel_rfl) rfl (fun w hO j u hj => ?_) (fun u hu => by simp [gF] at hu; simp [hu, Value.oneCell']) (by unfold maxLen; (try simp only [List.length_append, List.length_cons, List.length_nil] at hn ⊢); omega) (by rw [e5]; (try simp only [List.length_append, List.length_cons, List.length_nil] at hn ⊢); omega) (fun u2 ob2 hu2 => ?_))
  · rw [y5, cell_of_row w b2 (0 + j) (gF [wd]).toArray 9 _ (hO.held ⟨b2, (gF [wd]).toArray, 9⟩ (List.mem_append_left _ (List.mem_append_left _ (List.mem_cons_self ..))))]; simpa using hj
  have hsl2 : SlT u2 ((ws ++ X) ++ [wd]) ob2 := SlT.adds hu2
  obtain ⟨C2, cc2, rfl⟩ := SlT.form hsl2
  refine yI (L' := ⟨b, #[.slice A l.length cap, .slice C1 ((ws ++ X).length) cc1], 70⟩ :: (ob2 ++ ([⟨b1, (ndV ⟨op, (a : Int), (b0 : Int), 0, []⟩).cells, 48⟩]))) (fun w hO => Own.sub [⟨b2, #[.string (mkS wd)], 9⟩] (show Own _ _ w (⟨b2, #[.string (mkS wd)], 9⟩ :: (⟨b, #[.slice A l.length cap, .slice C1 ((ws ++ X).length) cc1], 70⟩ :: (ob2 ++ ([⟨b1, (ndV ⟨op, (a : Int), (b0 : Int), 0, []⟩).cells, 48⟩])))) from by simpa using hO)) (Zv (.pointer (some ⟨b, 0, none⟩)) (Zv (.pointer (some ⟨b, 1, none⟩)) (Zs 0 ⟨b, #[.slice A l.length cap, .slice C1 ((ws ++ X).length) cc1], 70⟩ (off := 1) (.slice C2 (((ws ++ X) ++ [wd]).length) cc2) (zH (L' := ⟨b, #[.slice A l.length cap, .slice C2 (((ws ++ X) ++ [wd]).length) cc2], 70⟩ :: (ob2 ++ ([⟨b1, (ndV ⟨op, (a : Int), (b0 : Int), 0, []⟩).cells, 48⟩]))) rfl (ZN (z7 (Zv (.pointer (some ⟨b, 0, none⟩)) (Zv (.pointer (some ⟨b1, 2, none⟩)) (zX ⟨b1, (ndV ⟨op, (a : Int), (b0 : Int), 0, []⟩).cells, 48⟩ (off := 2) (.int .i64 (b0 : Int)) (by kernel_rfl) rfl (by simp) (by kernel_rfl) (by kernel_rfl) (Zv (.pointer (some ⟨b1, 0, none⟩)) ?_))))))))))
  refine zX ⟨b1, (ndV ⟨op, (a : Int), (b0 : Int), 0, []⟩).cells, 48⟩ (off := 0) (.int .i64 op) (by kernel_rfl) rfl (by simp) (by kernel_rfl) (by kernel_rfl) (Zu (k := .i64) (op - 1) (IntWalk.i64_in _ (by omega)) (zH (L' := (⟨b, #[.slice A l.length cap, .slice C2 (((ws ++ X) ++ [wd]).length) cc2], 70⟩ :: ob2) ++ ([⟨b1, (ndV ⟨op, (a : Int), (b0 : Int), 0, []⟩).cells, 48⟩] : List Blk)) (by simp) (zO (k := 63) (args := #[.pointer (some ⟨b, 0, none⟩), .int .i64 (b0 : Int), .int .i64 (op - 1)]) (fun v' L' => v' = .tuple #[] ∧ ∃ ob', L' = ob' ++ ([⟨b1, (ndV ⟨op, (a : Int), (b0 : Int), 0, []⟩).cells, 48⟩] : List Blk) ∧ Wr b A l.length cap (((ws ++ X) ++ [wd]) ++ Y) ob') (by kernel_rfl) (fun _ => by kernel_rfl) (fun w hO => (hb' _ _ _ _ _ (hL.at ⟨C2, cc2, ob2, rfl, hsl2⟩ hO) (by (try simp only [List.length_append, List.length_cons, List.length_nil] at hn ⊢); omega)).mono fun e w' ⟨ob', k1, k2⟩ => ⟨_, _, k1, ⟨rfl, ob', rfl, k2.rd⟩, Own.join hO k2.own⟩) (fun v3 L3 hv3 => ?_))))
  obtain ⟨rfl, ob3, rfl, C3, cc3, g3, rfl, hsl3⟩ := hv3
  exact zH (L' := ⟨b, #[.slice A l.length cap, .slice C3 ((((ws ++ X) ++ [wd]) ++ Y).length) cc3], 70⟩ :: (g3 ++ ([⟨b1, (ndV ⟨op, (a : Int), (b0 : Int), 0, []⟩).cells, 48⟩]))) (by simp) (zK (yM Tryd.results64 (fun w hO => ⟨_, rfl, ⟨C3, cc3, g3, by first | rfl | (rw [show ws ++ (X ++ wd :: Y) = (((ws ++ X) ++ [wd]) ++ Y) from by simp]; done) | (rw [show ws ++ (X ++ wd :: Y) = (((ws ++ X) ++ [wd]) ++ Y) from by simp]; rfl), by first | exact hsl3 | (rw [show ws ++ (X ++ wd :: Y) = (((ws ++ X) ++ [wd]) ++ Y) from by simp]; exact hsl3)⟩, hO.sublist (by first | exact List.Sublist.refl _ | exact List.Sublist.cons_cons _ (by simp) | simp)⟩)))
theorem nd_is {A : Option Addr} {cap : Nat} {l : List Nd} (hl9 : l.length ≤ 1000) {r k : Nat} {t : Tok} (hk : k < 3) (hr : l[r]? = some ⟨1, 0, 0, (k : Int), t⟩) : jD A cap l r [yH k, tEq, t] := by
  intro B b ws ob W hL hn
  have hM' := x4 hL.ge
  have hBW := hL.le
  have hv := hL.nodes
  have hO := hL.own
  obtain ⟨C, cc, g, rfl, hsl⟩ := hL.rd
  obtain ⟨hr, er⟩ := yV hr
  obtain ⟨bp, off, hA, hlt, hcell⟩ := hv (by omega)
  refine y6 (n := 61) hO Tryd.func41 rfl (by kernel_rfl) (by kernel_rfl) (ZO (Zv (.pointer (some ⟨b, 0, none⟩)) (Zv (.pointer (some ⟨b, 0, none⟩)) (Zv (.pointer (some ⟨b, 0, none⟩)) (Zl 0 ⟨b, #[.slice A l.length cap, .slice C ws.length cc], 70⟩ (off := 0) (.slice A l.length cap) (Zv (.int .i64 (r : Int)) (zM (.pointer (some ⟨bp, off + r * 5, none⟩)) (by kernel_rfl) (ZA (b := bp) (off := off) (c := cap) (n := l.length) (k := .i64) (j := (r : Int)) (e := 48) (sz := 5) hA) (Zo (ndV ⟨1, 0, 0, (k : Int), t⟩) (a := ⟨bp, off + r * 5, none⟩) (fun w hO => Reads.load yX (hv.on (hO.belowB hM' hBW) (Nat.le_refl _)) hA r 0 hr (by omega) _ (by rw [er]; kernel_rfl)) (Za (.agg #[.int .i64 0, .int .i64 0, .int .i64 0, .int .i64 0, .string ⟨#[]⟩]) (fun b1 => Zs 0 ⟨b1, #[.int .i64 0, .int .i64 0, .int .i64 0, .int .i64 0, .string ⟨#[]⟩], 48⟩ (off := 0) (ndV ⟨1, 0, 0, (k : Int), t⟩) ?_))))))))))
  refine zH (L' := ⟨b1, (ndV ⟨1, 0, 0, (k : Int), t⟩).cells, 48⟩ :: (⟨b, #[.slice A l.length cap, .slice C ws.length cc], 70⟩ :: (g))) rfl (ZN (zF (yB (L' := ⟨b1, (ndV ⟨1, 0, 0, (k : Int), t⟩).cells, 48⟩ :: (⟨b, #[.slice A l.length cap, .slice C ws.length cc], 70⟩ :: (g))) rfl (gB (L' := ⟨b, #[.slice A l.length cap, .slice C ws.length cc], 70⟩ :: (g ++ ([⟨b1, (ndV ⟨1, 0, 0, (k : Int), t⟩).cells, 48⟩]))) (fun w hO => hO.perm (by simpa using (List.perm_append_comm (l₁ := [⟨b1, (ndV ⟨1, 0, 0, (k : Int), t⟩).cells, 48⟩]) (l₂ := ⟨b, #[.slice A l.length cap, .slice C ws.length cc], 70⟩ :: g)).append_right ([] : List Blk))) (z7 (Zv (.pointer (some ⟨b1, 0, none⟩)) (zX ⟨b1, (ndV ⟨1, 0, 0, (k : Int), t⟩).cells, 48⟩ (off := 0) (.int .i64 1) (by kernel_rfl) rfl (by simp) (by kernel_rfl) (by kernel_rfl) (ZN (zP ?_)))))))))
  refine ZO (Zv (.bool true) (Zv (.bool true) (ZY (z7 (Zv (.pointer (some ⟨b, 0, none⟩)) (zX ⟨b1, (ndV ⟨1, 0, 0, (k : Int), t⟩).cells, 48⟩ (off := 0) (ndV ⟨1, 0, 0, (k : Int), t⟩) (by kernel_rfl) rfl (by simp) (by kernel_rfl) (by kernel_rfl) (zH (L' := (⟨b, #[.slice A l.length cap, .slice C ws.length cc], 70⟩ :: g) ++ ([⟨b1, (ndV ⟨1, 0, 0, (k : Int), t⟩).cells, 48⟩] : List Blk)) (by simp) (zO (k := 62) (args := #[.pointer (some ⟨b, 0, none⟩), ndV ⟨1, 0, 0, (k : Int), t⟩, .string ⟨#[61]⟩]) (fun v' L' => v' = .tuple #[] ∧ ∃ ob', L' = ob' ++ ([⟨b1, (ndV ⟨1, 0, 0, (k : Int), t⟩).cells, 48⟩] : List Blk) ∧ Wr b A l.length cap (ws ++ ([yH k, tEq, t])) ob') (by kernel_rfl) (fun _ => by kernel_rfl) (fun w hO => (wS (hL.at ⟨C, cc, g, rfl, hsl⟩ hO) 1 0 0 k hk t tEq (by (try simp only [List.length_append, List.length_cons, List.length_nil] at hn ⊢); omega)).mono fun e w' ⟨ob', k1, k2⟩ => ⟨_, _, k1, ⟨rfl, ob', rfl, k2.rd⟩, Own.join hO k2.own⟩) (fun v1 L1 hv1 => ?_)))))))))
  obtain ⟨rfl, ob1, rfl, C1, cc1, g1, rfl, hsl1⟩ := hv1
  exact zH (L' := ⟨b, #[.slice A l.length cap, .slice C1 ((ws ++ ([yH k, tEq, t])).length) cc1], 70⟩ :: (g1 ++ ([⟨b1, (ndV ⟨1, 0, 0, (k : Int), t⟩).cells, 48⟩]))) (by simp) (zK (zJ (yM Tryd.results41 (fun w hO => ⟨_, rfl, ⟨C1, cc1, g1, by first | rfl | (rw [show ws ++ [yH k, tEq, t] = (ws ++ ([yH k, tEq, t])) from by simp]; done) | (rw [show ws ++ [yH k, tEq, t] = (ws ++ ([yH k, tEq, t])) from by simp]; rfl), by first | exact hsl1 | (rw [show ws ++ [yH k, tEq, t] = (ws ++ ([yH k, tEq, t])) from by simp]; exact hsl1)⟩, hO.sublist (by first | exact List.Sublist.refl _ | exact List.Sublist.cons_cons _ (by simp) | simp)⟩))))
theorem nd_no_is {A : Option Addr} {cap : Nat} {l : List Nd} (hl9 : l.length ≤ 1000) {r a k : Nat} {t : Tok} (hk : k < 3) (hr : l[r]? = some ⟨2, (a : Int), 0, 0, []⟩) (ha : l[a]? = some ⟨1, 0, 0, (k : Int), t⟩) : jD A cap l r [yH k, tNe, t] := by
  intro B b ws ob W hL hn
  have hM' := x4 hL.ge
  have hBW := hL.le
  have hv := hL.nodes
  have hO := hL.own
  obtain ⟨C, cc, g, rfl, hsl⟩ := hL.rd
  obtain ⟨hr, er⟩ := yV hr
  obtain ⟨ha, ea⟩ := yV ha
  obtain ⟨bp, off, hA, hlt, hcell⟩ := hv (by omega)
  refine y6 (n := 61) hO Tryd.func41 rfl (by kernel_rfl) (by kernel_rfl) (ZO (Zv (.pointer (some ⟨b, 0, none⟩)) (Zv (.pointer (some ⟨b, 0, none⟩)) (Zv (.pointer (some ⟨b, 0, none⟩)) (Zl 0 ⟨b, #[.slice A l.length cap, .slice C ws.length cc], 70⟩ (off := 0) (.slice A l.length cap) (Zv (.int .i64 (r : Int)) (zM (.pointer (some ⟨bp, off + r * 5, none⟩)) (by kernel_rfl) (ZA (b := bp) (off := off) (c := cap) (n := l.length) (k := .i64) (j := (r : Int)) (e := 48) (sz := 5) hA) (Zo (ndV ⟨2, (a : Int), 0, 0, []⟩) (a := ⟨bp, off + r * 5, none⟩) (fun w hO => Reads.load yX (hv.on (hO.belowB hM' hBW) (Nat.le_refl _)) hA r 0 hr (by omega) _ (by rw [er]; kernel_rfl)) (Za (.agg #[.int .i64 0, .int .i64 0, .int .i64 0, .int .i64 0, .string ⟨#[]⟩]) (fun b1 => Zs 0 ⟨b1, #[.int .i64 0, .int .i64 0, .int .i64 0, .int .i64 0, .string ⟨#[]⟩], 48⟩ (off := 0) (ndV ⟨2, (a : Int), 0, 0, []⟩) ?_))))))))))
  refine zH (L' := ⟨b1, (ndV ⟨2, (a : Int), 0, 0, []⟩).cells, 48⟩ :: (⟨b, #[.slice A l.length cap, .slice C ws.length cc], 70⟩ :: (g))) rfl (ZN (zF (yB (L' := ⟨b1, (ndV ⟨2, (a : Int), 0, 0, []⟩).cells, 48⟩ :: (⟨b, #[.slice A l.length cap, .slice C ws.length cc], 70⟩ :: (g))) rfl (gB (L' := ⟨b, #[.slice A l.length cap, .slice C ws.length cc], 70⟩ :: (g ++ ([⟨b1, (ndV ⟨2, (a : Int), 0, 0, []⟩).cells, 48⟩]))) (fun w hO => hO.perm (by simpa using (List.perm_append_comm (l₁ := [⟨b1, (ndV ⟨2, (a : Int), 0, 0, []⟩).cells, 48⟩]) (l₂ := ⟨b, #[.slice A l.length cap, .slice C ws.length cc], 70⟩ :: g)).append_right ([] : List Blk))) (z7 (Zv (.pointer (some ⟨b1, 0, none⟩)) (zX ⟨b1, (ndV ⟨2, (a : Int), 0, 0, []⟩).cells, 48⟩ (off := 0) (.int .i64 2) (by kernel_rfl) rfl (by simp) (by kernel_rfl) (by kernel_rfl) (ZN (zP ?_)))))))))
  refine ZO (Zv (.bool false) (Zv (.bool false) (ZX (ZO (Zv (.bool true) (Zv (.bool true) (zK ?_)))))))
  refine z8 (Zt (zF (zF (m7 (by kernel_rfl) (ZT 0 [] _ (.pointer (some ⟨b, 0, none⟩)) (zA (zA (zE zB))) rfl (ZT 1 [] _ (.pointer (some ⟨b, 0, none⟩)) (zA (zA (zE zB))) rfl (ZT 2 [] _ (.pointer (some ⟨b, 0, none⟩)) (zA (zA (zE zB))) rfl (ZL 3 [] _ 0 ⟨b, #[.slice A l.length cap, .slice C ws.length cc], 70⟩ (off := 0) (.slice A l.length cap) (zA (zA (zE zB))) rfl rfl (ZT 4 [] _ (.pointer (some ⟨b1, 1, none⟩)) (zA (zA (zE zB))) rfl (h_loadm 5 [] _ ⟨b1, (ndV ⟨2, (a : Int), 0, 0, []⟩).cells, 48⟩ (off := 1) (.int .i64 (a : Int)) rfl (by kernel_rfl) (by kernel_rfl) (by kernel_rfl) (zA (zA (zE zB))) (by kernel_rfl) rfl (by simp) (by kernel_rfl) (by kernel_rfl) (gU 6 [] _ (.pointer (some ⟨bp, off + a * 5, none⟩)) rfl (by kernel_rfl) (by kernel_rfl) (by kernel_rfl) (zA (zA (zE zB))) (by kernel_rfl) (fun w _ => xY (b := bp) (off := off) (c := cap) (n := l.length) (k := .i64) (j := (a : Int)) (e := 48) (sz := 5) rfl (by kernel_rfl) hA (by kernel_rfl) (by kernel_rfl) (by kernel_rfl) (by omega) (by omega) (by omega) w) ?_)))))))))))
  refine jP 7 _ (a := ⟨bp, off + a * 5, none⟩) (ndV ⟨1, 0, 0, (k : Int), t⟩) rfl (by kernel_rfl) (by kernel_rfl) (by kernel_rfl) (zA (zA (zE zB))) (fun w hO => Own.sub [] hO) (by kernel_rfl) rfl (by kernel_rfl) (fun w hO => Reads.load yX (hv.on (hO.belowB hM' hBW) (Nat.le_refl _)) hA a 0 ha (by omega) _ (by rw [ea]; kernel_rfl)) (yK 8 (by kernel_rfl) (hs_alloc [] _ (.agg #[.int .i64 0, .int .i64 0, .int .i64 0, .int .i64 0, .string ⟨#[]⟩]) rfl (by kernel_rfl) rfl (by kernel_rfl) (fun b2 => yK 9 (by kernel_rfl) (ZS [⟨b2, #[.int .i64 0, .int .i64 0, .int .i64 0, .int .i64 0, .string ⟨#[]⟩], 48⟩] _ 0 ⟨b2, #[.int .i64 0, .int .i64 0, .int .i64 0, .int .i64 0, .string ⟨#[]⟩], 48⟩ (off := 0) (ndV ⟨1, 0, 0, (k : Int), t⟩) rfl rfl (xR (by kernel_rfl) (z8 (zF (yB (L' := ⟨b2, (ndV ⟨1, 0, 0, (k : Int), t⟩).cells, 48⟩ :: (⟨b, #[.slice A l.length cap, .slice C ws.length cc], 70⟩ :: (g ++ ([⟨b1, (ndV ⟨2, (a : Int), 0, 0, []⟩).cells, 48⟩])))) rfl (gB (L' := ⟨b, #[.slice A l.length cap, .slice C ws.length cc], 70⟩ :: (g ++ ([⟨b2, (ndV ⟨1, 0, 0, (k : Int), t⟩).cells, 48⟩, ⟨b1, (ndV ⟨2, (a : Int), 0, 0, []⟩).cells, 48⟩]))) (fun w hO => hO.perm (by simpa using (List.perm_append_comm (l₁ := [⟨b2, (ndV ⟨1, 0, 0, (k : Int), t⟩).cells, 48⟩]) (l₂ := ⟨b, #[.slice A l.length cap, .slice C ws.length cc], 70⟩ :: g)).append_right ([⟨b1, (ndV ⟨2, (a : Int), 0, 0, []⟩).cells, 48⟩] : List Blk))) (z7 (Zv (.pointer (some ⟨b2, 0, none⟩)) ?_)))))))))))
  refine zX ⟨b2, (ndV ⟨1, 0, 0, (k : Int), t⟩).cells, 48⟩ (off := 0) (.int .i64 1) (by kernel_rfl) rfl (by simp) (by kernel_rfl) (by kernel_rfl) (Zv (.bool true) (ZY (ZO (Zv (.pointer (some ⟨b, 0, none⟩)) (zX ⟨b2, (ndV ⟨1, 0, 0, (k : Int), t⟩).cells, 48⟩ (off := 0) (ndV ⟨1, 0, 0, (k : Int), t⟩) (by kernel_rfl) rfl (by simp) (by kernel_rfl) (by kernel_rfl) (zH (L' := (⟨b, #[.slice A l.length cap, .slice C ws.length cc], 70⟩ :: g) ++ ([⟨b2, (ndV ⟨1, 0, 0, (k : Int), t⟩).cells, 48⟩, ⟨b1, (ndV ⟨2, (a : Int), 0, 0, []⟩).cells, 48⟩] : List Blk)) (by simp) (zO (k := 62) (args := #[.pointer (some ⟨b, 0, none⟩), ndV ⟨1, 0, 0, (k : Int), t⟩, .string ⟨#[33, 61]⟩]) (fun v' L' => v' = .tuple #[] ∧ ∃ ob', L' = ob' ++ ([⟨b2, (ndV ⟨1, 0, 0, (k : Int), t⟩).cells, 48⟩, ⟨b1, (ndV ⟨2, (a : Int), 0, 0, []⟩).cells, 48⟩] : List Blk) ∧ Wr b A l.length cap (ws ++ ([yH k, tNe, t])) ob') (by kernel_rfl) (fun _ => by kernel_rfl) (fun w hO => (wS (hL.at ⟨C, cc, g, rfl, hsl⟩ hO) 1 0 0 k hk t tNe (by (try simp only [List.length_append, List.length_cons, List.length_nil] at hn ⊢); omega)).mono fun e w' ⟨ob', k1, k2⟩ => ⟨_, _, k1, ⟨rfl, ob', rfl, k2.rd⟩, Own.join hO k2.own⟩) (fun v1 L1 hv1 => ?_))))))))
  obtain ⟨rfl, ob1, rfl, C1, cc1, g1, rfl, hsl1⟩ := hv1
  exact zH (L' := ⟨b, #[.slice A l.length cap, .slice C1 ((ws ++ ([yH k, tNe, t])).length) cc1], 70⟩ :: (g1 ++ ([⟨b2, (ndV ⟨1, 0, 0, (k : Int), t⟩).cells, 48⟩, ⟨b1, (ndV ⟨2, (a : Int), 0, 0, []⟩).cells, 48⟩]))) (by simp) (ZN (zG (z5 (zD (wO Tryd.results41 (fun w hO => ⟨_, rfl, ⟨C1, cc1, g1, by first | rfl | (rw [show ws ++ [yH k, tNe, t] = (ws ++ ([yH k, tNe, t])) from by simp]; done) | (rw [show ws ++ [yH k, tNe, t] = (ws ++ ([yH k, tNe, t])) from by simp]; rfl), by first | exact hsl1 | (rw [show ws ++ [yH k, tNe, t] = (ws ++ ([yH k, tNe, t])) from by simp]; exact hsl1)⟩, hO.sublist (by first | exact List.Sublist.refl _ | exact List.Sublist.cons_cons _ (by simp) | simp)⟩))))))
theorem nd_no {A : Option Addr} {cap : Nat} {l : List Nd} (hl9 : l.length ≤ 1000) {r a : Nat} {na : Nd} {X : List Tok} (hr : l[r]? = some ⟨2, (a : Int), 0, 0, []⟩) (ha : l[a]? = some na) (hx1 : ¬ na.op = 1) (ha' : d8 A cap l a 2 X) : jD A cap l r (yZ :: X) := by
  intro B b ws ob W hL hn
  have hM' := x4 hL.ge
  have hBW := hL.le
  have hv := hL.nodes
  have hO := hL.own
  obtain ⟨C, cc, g, rfl, hsl⟩ := hL.rd
  obtain ⟨hr, er⟩ := yV hr
  obtain ⟨ha, ea⟩ := yV ha
  obtain ⟨bp, off, hA, hlt, hcell⟩ := hv (by omega)
  refine y6 (n := 61) hO Tryd.func41 rfl (by kernel_rfl) (by kernel_rfl) (ZO (Zv (.pointer (some ⟨b, 0, none⟩)) (Zv (.pointer (some ⟨b, 0, none⟩)) (Zv (.pointer (some ⟨b, 0, none⟩)) (Zl 0 ⟨b, #[.slice A l.length cap, .slice C ws.length cc], 70⟩ (off := 0) (.slice A l.length cap) (Zv (.int .i64 (r : Int)) (zM (.pointer (some ⟨bp, off + r * 5, none⟩)) (by kernel_rfl) (ZA (b := bp) (off := off) (c := cap) (n := l.length) (k := .i64) (j := (r : Int)) (e := 48) (sz := 5) hA) (Zo (ndV ⟨2, (a : Int), 0, 0, []⟩) (a := ⟨bp, off + r * 5, none⟩) (fun w hO => Reads.load yX (hv.on (hO.belowB hM' hBW) (Nat.le_refl _)) hA r 0 hr (by omega) _ (by rw [er]; kernel_rfl)) (Za (.agg #[.int .i64 0, .int .i64 0, .int .i64 0, .int .i64 0, .string ⟨#[]⟩]) (fun b1 => Zs 0 ⟨b1, #[.int .i64 0, .int .i64 0, .int .i64 0, .int .i64 0, .string ⟨#[]⟩], 48⟩ (off := 0) (ndV ⟨2, (a : Int), 0, 0, []⟩) ?_))))))))))
  refine zH (L' := ⟨b1, (ndV ⟨2, (a : Int), 0, 0, []⟩).cells, 48⟩ :: (⟨b, #[.slice A l.length cap, .slice C ws.length cc], 70⟩ :: (g))) rfl (ZN (zF (yB (L' := ⟨b1, (ndV ⟨2, (a : Int), 0, 0, []⟩).cells, 48⟩ :: (⟨b, #[.slice A l.length cap, .slice C ws.length cc], 70⟩ :: (g))) rfl (gB (L' := ⟨b, #[.slice A l.length cap, .slice C ws.length cc], 70⟩ :: (g ++ ([⟨b1, (ndV ⟨2, (a : Int), 0, 0, []⟩).cells, 48⟩]))) (fun w hO => hO.perm (by simpa using (List.perm_append_comm (l₁ := [⟨b1, (ndV ⟨2, (a : Int), 0, 0, []⟩).cells, 48⟩]) (l₂ := ⟨b, #[.slice A l.length cap, .slice C ws.length cc], 70⟩ :: g)).append_right ([] : List Blk))) (z7 (Zv (.pointer (some ⟨b1, 0, none⟩)) (zX ⟨b1, (ndV ⟨2, (a : Int), 0, 0, []⟩).cells, 48⟩ (off := 0) (.int .i64 2) (by kernel_rfl) rfl (by simp) (by kernel_rfl) (by kernel_rfl) (ZN (zP ?_)))))))))
  refine ZO (Zv (.bool false) (Zv (.bool false) (ZX (ZO (Zv (.bool true) (Zv (.bool true) (zK ?_)))))))
  refine z8 (Zt (zF (zF (m7 (by kernel_rfl) (ZT 0 [] _ (.pointer (some ⟨b, 0, none⟩)) (zA (zA (zE zB))) rfl (ZT 1 [] _ (.pointer (some ⟨b, 0, none⟩)) (zA (zA (zE zB))) rfl (ZT 2 [] _ (.pointer (some ⟨b, 0, none⟩)) (zA (zA (zE zB))) rfl (ZL 3 [] _ 0 ⟨b, #[.slice A l.length cap, .slice C ws.length cc], 70⟩ (off := 0) (.slice A l.length cap) (zA (zA (zE zB))) rfl rfl (ZT 4 [] _ (.pointer (some ⟨b1, 1, none⟩)) (zA (zA (zE zB))) rfl (h_loadm 5 [] _ ⟨b1, (ndV ⟨2, (a : Int), 0, 0, []⟩).cells, 48⟩ (off := 1) (.int .i64 (a : Int)) rfl (by kernel_rfl) (by kernel_rfl) (by kernel_rfl) (zA (zA (zE zB))) (by kernel_rfl) rfl (by simp) (by kernel_rfl) (by kernel_rfl) (gU 6 [] _ (.pointer (some ⟨bp, off + a * 5, none⟩)) rfl (by kernel_rfl) (by kernel_rfl) (by kernel_rfl) (zA (zA (zE zB))) (by kernel_rfl) (fun w _ => xY (b := bp) (off := off) (c := cap) (n := l.length) (k := .i64) (j := (a : Int)) (e := 48) (sz := 5) rfl (by kernel_rfl) hA (by kernel_rfl) (by kernel_rfl) (by kernel_rfl) (by omega) (by omega) (by omega) w) ?_)))))))))))
  refine jP 7 _ (a := ⟨bp, off + a * 5, none⟩) (ndV na) rfl (by kernel_rfl) (by kernel_rfl) (by kernel_rfl) (zA (zA (zE zB))) (fun w hO => Own.sub [] hO) (by kernel_rfl) rfl (by kernel_rfl) (fun w hO => Reads.load yX (hv.on (hO.belowB hM' hBW) (Nat.le_refl _)) hA a 0 ha (by omega) _ (by rw [ea]; kernel_rfl)) (yK 8 (by kernel_rfl) (hs_alloc [] _ (.agg #[.int .i64 0, .int .i64 0, .int .i64 0, .int .i64 0, .string ⟨#[]⟩]) rfl (by kernel_rfl) rfl (by kernel_rfl) (fun b2 => yK 9 (by kernel_rfl) (ZS [⟨b2, #[.int .i64 0, .int .i64 0, .int .i64 0, .int .i64 0, .string ⟨#[]⟩], 48⟩] _ 0 ⟨b2, #[.int .i64 0, .int .i64 0, .int .i64 0, .int .i64 0, .string ⟨#[]⟩], 48⟩ (off := 0) (ndV na) rfl rfl (xR (by kernel_rfl) (z8 (zF (yB (L' := ⟨b2, (ndV na).cells, 48⟩ :: (⟨b, #[.slice A l.length cap, .slice C ws.length cc], 70⟩ :: (g ++ ([⟨b1, (ndV ⟨2, (a : Int), 0, 0, []⟩).cells, 48⟩])))) rfl (gB (L' := ⟨b, #[.slice A l.length cap, .slice C ws.length cc], 70⟩ :: (g ++ ([⟨b2, (ndV na).cells, 48⟩, ⟨b1, (ndV ⟨2, (a : Int), 0, 0, []⟩).cells, 48⟩]))) (fun w hO => hO.perm (by simpa using (List.perm_append_comm (l₁ := [⟨b2, (ndV na).cells, 48⟩]) (l₂ := ⟨b, #[.slice A l.length cap, .slice C ws.length cc], 70⟩ :: g)).append_right ([⟨b1, (ndV ⟨2, (a : Int), 0, 0, []⟩).cells, 48⟩] : List Blk))) (z7 (Zv (.pointer (some ⟨b2, 0, none⟩)) ?_)))))))))))
  refine zX ⟨b2, (ndV na).cells, 48⟩ (off := 0) (.int .i64 na.op) (by kernel_rfl) rfl (by simp) (by kernel_rfl) (by kernel_rfl) (Zd (p := (na.op : Int) = 1) false (decide_eq_false (hx1)) (ZX (ZB (ZO (Zv (.pointer (some ⟨b, 0, none⟩)) (Zv (.pointer (some ⟨b, 0, none⟩)) (Zv (.pointer (some ⟨b, 0, none⟩)) ?_)))))))
  refine Zv (.pointer (some ⟨b, 1, none⟩)) (Zl 0 ⟨b, #[.slice A l.length cap, .slice C ws.length cc], 70⟩ (off := 1) (.slice C ws.length cc) (g0 9 #[.string ⟨#[110, 111, 116]⟩] (by kernel_rfl) rfl (fun _ => by kernel_rfl) (fun b3 => ?_)))
  obtain ⟨i0, z0, e1, e2, e3, e4, e5⟩ := vB
  refine zH (L' := [⟨b3, #[.string ⟨#[110, 111, 116]⟩], 9⟩, ⟨b, #[.slice A l.length cap, .slice C ws.length cc], 70⟩] ++ g ++ ([⟨b2, (ndV na).cells, 48⟩, ⟨b1, (ndV ⟨2, (a : Int), 0, 0, []⟩).cells, 48⟩])) (by simp <;> rfl) (x0 (sz := 1) (by kernel_rfl) rfl Tryd.underlying50 e1 e2 e3 e4 (by kernel_rfl) hsl (a := ⟨b3, 0, none⟩) (m := 1) (c := 1) (news := gF [yZ]) (by kernel_rfl) rfl (fun w hO j u hj => ?_) (fun u hu => by simp [gF] at hu; simp [hu, Value.oneCell']) (by unfold maxLen; (try simp only [List.length_append, List.length_cons, List.length_nil] at hn ⊢); omega) (by rw [e5]; (try simp only [List.length_append, List.length_cons, List.length_nil] at hn ⊢); omega) (fun u1 ob1 hu1 => ?_))
  · rw [y5, cell_of_row w b3 (0 + j) (gF [yZ]).toArray 9 _ (hO.held ⟨b3, (gF [yZ]).toArray, 9⟩ (List.mem_append_left _ (List.mem_append_left _ (List.mem_cons_self ..))))]; simpa using hj
  have hsl1 : SlT u1 (ws ++ [yZ]) ob1 := SlT.adds hu1
  obtain ⟨C1, cc1, rfl⟩ := SlT.form hsl1
  refine yI (L' := ⟨b, #[.slice A l.length cap, .slice C ws.length cc], 70⟩ :: (ob1 ++ ([⟨b2, (ndV na).cells, 48⟩, ⟨b1, (ndV ⟨2, (a : Int), 0, 0, []⟩).cells, 48⟩]))) (fun w hO => Own.sub [⟨b3, #[.string ⟨#[110, 111, 116]⟩], 9⟩] (show Own _ _ w (⟨b3, #[.string ⟨#[110, 111, 116]⟩], 9⟩ :: (⟨b, #[.slice A l.length cap, .slice C ws.length cc], 70⟩ :: (ob1 ++ ([⟨b2, (ndV na).cells, 48⟩, ⟨b1, (ndV ⟨2, (a : Int), 0, 0, []⟩).cells, 48⟩])))) from by simpa using hO)) (Zv (.pointer (some ⟨b, 0, none⟩)) (Zv (.pointer (some ⟨b, 1, none⟩)) (Zs 0 ⟨b, #[.slice A l.length cap, .slice C ws.length cc], 70⟩ (off := 1) (.slice C1 ((ws ++ [yZ]).length) cc1) (zH (L' := ⟨b, #[.slice A l.length cap, .slice C1 ((ws ++ [yZ]).length) cc1], 70⟩ :: (ob1 ++ ([⟨b2, (ndV na).cells, 48⟩, ⟨b1, (ndV ⟨2, (a : Int), 0, 0, []⟩).cells, 48⟩]))) rfl (ZN (z7 (Zv (.pointer (some ⟨b, 0, none⟩)) (Zv (.pointer (some ⟨b1, 1, none⟩)) (zX ⟨b1, (ndV ⟨2, (a : Int), 0, 0, []⟩).cells, 48⟩ (off := 1) (.int .i64 (a : Int)) (by kernel_rfl) rfl (by simp) (by kernel_rfl) (by kernel_rfl) (Zv (.pointer (some ⟨b1, 0, none⟩)) ?_))))))))))
  refine zX ⟨b1, (ndV ⟨2, (a : Int), 0, 0, []⟩).cells, 48⟩ (off := 0) (.int .i64 2) (by kernel_rfl) rfl (by simp) (by kernel_rfl) (by kernel_rfl) (zH (L' := (⟨b, #[.slice A l.length cap, .slice C1 ((ws ++ [yZ]).length) cc1], 70⟩ :: ob1) ++ ([⟨b2, (ndV na).cells, 48⟩, ⟨b1, (ndV ⟨2, (a : Int), 0, 0, []⟩).cells, 48⟩] : List Blk)) (by simp) (zO (k := 63) (args := #[.pointer (some ⟨b, 0, none⟩), .int .i64 (a : Int), .int .i64 2]) (fun v' L' => v' = .tuple #[] ∧ ∃ ob', L' = ob' ++ ([⟨b2, (ndV na).cells, 48⟩, ⟨b1, (ndV ⟨2, (a : Int), 0, 0, []⟩).cells, 48⟩] : List Blk) ∧ Wr b A l.length cap ((ws ++ [yZ]) ++ X) ob') (by kernel_rfl) (fun _ => by kernel_rfl) (fun w hO => (ha' _ _ _ _ _ (hL.at ⟨C1, cc1, ob1, rfl, hsl1⟩ hO) (by (try simp only [List.length_append, List.length_cons, List.length_nil] at hn ⊢); omega)).mono fun e w' ⟨ob', k1, k2⟩ => ⟨_, _, k1, ⟨rfl, ob', rfl, k2.rd⟩, Own.join hO k2.own⟩) (fun v2 L2 hv2 => ?_)))
  obtain ⟨rfl, ob2, rfl, C2, cc2, g2, rfl, hsl2⟩ := hv2
  exact zH (L' := ⟨b, #[.slice A l.length cap, .slice C2 (((ws ++ [yZ]) ++ X).length) cc2], 70⟩ :: (g2 ++ ([⟨b2, (ndV na).cells, 48⟩, ⟨b1, (ndV ⟨2, (a : Int), 0, 0, []⟩).cells, 48⟩]))) (by simp) (zK (zJ (yM Tryd.results41 (fun w hO => ⟨_, rfl, ⟨C2, cc2, g2, by first | rfl | (rw [show ws ++ (yZ :: X) = ((ws ++ [yZ]) ++ X) from by simp]; done) | (rw [show ws ++ (yZ :: X) = ((ws ++ [yZ]) ++ X) from by simp]; rfl), by first | exact hsl2 | (rw [show ws ++ (yZ :: X) = ((ws ++ [yZ]) ++ X) from by simp]; exact hsl2)⟩, hO.sublist (by first | exact List.Sublist.refl _ | exact List.Sublist.cons_cons _ (by simp) | simp)⟩))))
theorem nd_both {A : Option Addr} {cap : Nat} {l : List Nd} (hl9 : l.length ≤ 1000) {r a b0 : Nat} {X Y : List Tok} (hr : l[r]? = some ⟨3, (a : Int), (b0 : Int), 0, []⟩) (ha' : d8 A cap l a 3 X) (hb' : d8 A cap l b0 (3 - 1) Y) : jD A cap l r (X ++ xB :: Y) := by
  intro B b ws ob W hL hn
  have hM' := x4 hL.ge
  have hBW := hL.le
  have hv := hL.nodes
  have hO := hL.own
  obtain ⟨C, cc, g, rfl, hsl⟩ := hL.rd
  obtain ⟨hr, er⟩ := yV hr
  obtain ⟨bp, off, hA, hlt, hcell⟩ := hv (by omega)
  refine y6 (n := 61) hO Tryd.func41 rfl (by kernel_rfl) (by kernel_rfl) (ZO (Zv (.pointer (some ⟨b, 0, none⟩)) (Zv (.pointer (some ⟨b, 0, none⟩)) (Zv (.pointer (some ⟨b, 0, none⟩)) (Zl 0 ⟨b, #[.slice A l.length cap, .slice C ws.length cc], 70⟩ (off := 0) (.slice A l.length cap) (Zv (.int .i64 (r : Int)) (zM (.pointer (some ⟨bp, off + r * 5, none⟩)) (by kernel_rfl) (ZA (b := bp) (off := off) (c := cap) (n := l.length) (k := .i64) (j := (r : Int)) (e := 48) (sz := 5) hA) (Zo (ndV ⟨3, (a : Int), (b0 : Int), 0, []⟩) (a := ⟨bp, off + r * 5, none⟩) (fun w hO => Reads.load yX (hv.on (hO.belowB hM' hBW) (Nat.le_refl _)) hA r 0 hr (by omega) _ (by rw [er]; kernel_rfl)) (Za (.agg #[.int .i64 0, .int .i64 0, .int .i64 0, .int .i64 0, .string ⟨#[]⟩]) (fun b1 => Zs 0 ⟨b1, #[.int .i64 0, .int .i64 0, .int .i64 0, .int .i64 0, .string ⟨#[]⟩], 48⟩ (off := 0) (ndV ⟨3, (a : Int), (b0 : Int), 0, []⟩) ?_))))))))))
  refine zH (L' := ⟨b1, (ndV ⟨3, (a : Int), (b0 : Int), 0, []⟩).cells, 48⟩ :: (⟨b, #[.slice A l.length cap, .slice C ws.length cc], 70⟩ :: (g))) rfl (ZN (zF (yB (L' := ⟨b1, (ndV ⟨3, (a : Int), (b0 : Int), 0, []⟩).cells, 48⟩ :: (⟨b, #[.slice A l.length cap, .slice C ws.length cc], 70⟩ :: (g))) rfl (gB (L' := ⟨b, #[.slice A l.length cap, .slice C ws.length cc], 70⟩ :: (g ++ ([⟨b1, (ndV ⟨3, (a : Int), (b0 : Int), 0, []⟩).cells, 48⟩]))) (fun w hO => hO.perm (by simpa using (List.perm_append_comm (l₁ := [⟨b1, (ndV ⟨3, (a : Int), (b0 : Int), 0, []⟩).cells, 48⟩]) (l₂ := ⟨b, #[.slice A l.length cap, .slice C ws.length cc], 70⟩ :: g)).append_right ([] : List Blk))) (z7 (Zv (.pointer (some ⟨b1, 0, none⟩)) (zX ⟨b1, (ndV ⟨3, (a : Int), (b0 : Int), 0, []⟩).cells, 48⟩ (off := 0) (.int .i64 3) (by kernel_rfl) rfl (by simp) (by kernel_rfl) (by kernel_rfl) (ZN (zP ?_)))))))))
  refine ZO (Zv (.bool false) (Zv (.bool false) (ZX (ZO (Zv (.bool false) (Zv (.bool false) (zK ?_)))))))
  refine z8 (Zf (ZO (Zv (.bool true) (Zv (.bool true) (ZY (z7 (Zv (.pointer (some ⟨b, 0, none⟩)) (zX ⟨b1, (ndV ⟨3, (a : Int), (b0 : Int), 0, []⟩).cells, 48⟩ (off := 0) (ndV ⟨3, (a : Int), (b0 : Int), 0, []⟩) (by kernel_rfl) rfl (by simp) (by kernel_rfl) (by kernel_rfl) ?_))))))))
  refine zH (L' := (⟨b, #[.slice A l.length cap, .slice C ws.length cc], 70⟩ :: g) ++ ([⟨b1, (ndV ⟨3, (a : Int), (b0 : Int), 0, []⟩).cells, 48⟩] : List Blk)) (by simp) (zO (k := 64) (args := #[.pointer (some ⟨b, 0, none⟩), ndV ⟨3, (a : Int), (b0 : Int), 0, []⟩, .string ⟨#[97, 110, 100]⟩]) (fun v' L' => v' = .tuple #[] ∧ ∃ ob', L' = ob' ++ ([⟨b1, (ndV ⟨3, (a : Int), (b0 : Int), 0, []⟩).cells, 48⟩] : List Blk) ∧ Wr b A l.length cap (ws ++ (X ++ xB :: Y)) ob') (by kernel_rfl) (fun _ => by kernel_rfl) (fun w hO => (nU (hL.at ⟨C, cc, g, rfl, hsl⟩ hO) ha' hb' (by decide) (by decide) xB (by (try simp only [List.length_append, List.length_cons, List.length_nil] at hn ⊢); omega)).mono fun e w' ⟨ob', k1, k2⟩ => ⟨_, _, k1, ⟨rfl, ob', rfl, k2.rd⟩, Own.join hO k2.own⟩) (fun v1 L1 hv1 => ?_))
  obtain ⟨rfl, ob1, rfl, C1, cc1, g1, rfl, hsl1⟩ := hv1
  exact zH (L' := ⟨b, #[.slice A l.length cap, .slice C1 ((ws ++ (X ++ xB :: Y)).length) cc1], 70⟩ :: (g1 ++ ([⟨b1, (ndV ⟨3, (a : Int), (b0 : Int), 0, []⟩).cells, 48⟩]))) (by simp) (zK (zJ (yM Tryd.results41 (fun w hO => ⟨_, rfl, ⟨C1, cc1, g1, by first | rfl | (rw [show ws ++ (X ++ xB :: Y) = (ws ++ (X ++ xB :: Y)) from by simp]; done) | (rw [show ws ++ (X ++ xB :: Y) = (ws ++ (X ++ xB :: Y)) from by simp]; rfl), by first | exact hsl1 | (rw [show ws ++ (X ++ xB :: Y) = (ws ++ (X ++ xB :: Y)) from by simp]; exact hsl1)⟩, hO.sublist (by first | exact List.Sublist.refl _ | exact List.Sublist.cons_cons _ (by simp) | simp)⟩))))
theorem nd_one {A : Option Addr} {cap : Nat} {l : List Nd} (hl9 : l.length ≤ 1000) {r a b0 : Nat} {X Y : List Tok} (hr : l[r]? = some ⟨4, (a : Int), (b0 : Int), 0, []⟩) (ha' : d8 A cap l a 4 X) (hb' : d8 A cap l b0 (4 - 1) Y) : jD A cap l r (X ++ tOr :: Y) := by
  intro B b ws ob W hL hn
  have hM' := x4 hL.ge
  have hBW := hL.le
  have hv := hL.nodes
  have hO := hL.own
  obtain ⟨C, cc, g, rfl, hsl⟩ := hL.rd
  obtain ⟨hr, er⟩ := yV hr
  obtain ⟨bp, off, hA, hlt, hcell⟩ := hv (by omega)
  refine y6 (n := 61) hO Tryd.func41 rfl (by kernel_rfl) (by kernel_rfl) (ZO (Zv (.pointer (some ⟨b, 0, none⟩)) (Zv (.pointer (some ⟨b, 0, none⟩)) (Zv (.pointer (some ⟨b, 0, none⟩)) (Zl 0 ⟨b, #[.slice A l.length cap, .slice C ws.length cc], 70⟩ (off := 0) (.slice A l.length cap) (Zv (.int .i64 (r : Int)) (zM (.pointer (some ⟨bp, off + r * 5, none⟩)) (by kernel_rfl) (ZA (b := bp) (off := off) (c := cap) (n := l.length) (k := .i64) (j := (r : Int)) (e := 48) (sz := 5) hA) (Zo (ndV ⟨4, (a : Int), (b0 : Int), 0, []⟩) (a := ⟨bp, off + r * 5, none⟩) (fun w hO => Reads.load yX (hv.on (hO.belowB hM' hBW) (Nat.le_refl _)) hA r 0 hr (by omega) _ (by rw [er]; kernel_rfl)) (Za (.agg #[.int .i64 0, .int .i64 0, .int .i64 0, .int .i64 0, .string ⟨#[]⟩]) (fun b1 => Zs 0 ⟨b1, #[.int .i64 0, .int .i64 0, .int .i64 0, .int .i64 0, .string ⟨#[]⟩], 48⟩ (off := 0) (ndV ⟨4, (a : Int), (b0 : Int), 0, []⟩) ?_))))))))))
  refine zH (L' := ⟨b1, (ndV ⟨4, (a : Int), (b0 : Int), 0, []⟩).cells, 48⟩ :: (⟨b, #[.slice A l.length cap, .slice C ws.length cc], 70⟩ :: (g))) rfl (ZN (zF (yB (L' := ⟨b1, (ndV ⟨4, (a : Int), (b0 : Int), 0, []⟩).cells, 48⟩ :: (⟨b, #[.slice A l.length cap, .slice C ws.length cc], 70⟩ :: (g))) rfl (gB (L' := ⟨b, #[.slice A l.length cap, .slice C ws.length cc], 70⟩ :: (g ++ ([⟨b1, (ndV ⟨4, (a : Int), (b0 : Int), 0, []⟩).cells, 48⟩]))) (fun w hO => hO.perm (by simpa using (List.perm_append_comm (l₁ := [⟨b1, (ndV ⟨4, (a : Int), (b0 : Int), 0, []⟩).cells, 48⟩]) (l₂ := ⟨b, #[.slice A l.length cap, .slice C ws.length cc], 70⟩ :: g)).append_right ([] : List Blk))) (z7 (Zv (.pointer (some ⟨b1, 0, none⟩)) (zX ⟨b1, (ndV ⟨4, (a : Int), (b0 : Int), 0, []⟩).cells, 48⟩ (off := 0) (.int .i64 4) (by kernel_rfl) rfl (by simp) (by kernel_rfl) (by kernel_rfl) (ZN (zP ?_)))))))))
  refine ZO (Zv (.bool false) (Zv (.bool false) (ZX (ZO (Zv (.bool false) (Zv (.bool false) (zK ?_)))))))
  refine z8 (Zf (ZO (Zv (.bool false) (Zv (.bool false) (ZX (ZO (Zv (.bool true) ?_)))))))
  refine Zv (.bool true) (ZY (z7 (Zv (.pointer (some ⟨b, 0, none⟩)) (zX ⟨b1, (ndV ⟨4, (a : Int), (b0 : Int), 0, []⟩).cells, 48⟩ (off := 0) (ndV ⟨4, (a : Int), (b0 : Int), 0, []⟩) (by kernel_rfl) rfl (by simp) (by kernel_rfl) (by kernel_rfl) (zH (L' := (⟨b, #[.slice A l.length cap, .slice C ws.length cc], 70⟩ :: g) ++ ([⟨b1, (ndV ⟨4, (a : Int), (b0 : Int), 0, []⟩).cells, 48⟩] : List Blk)) (by simp) (zO (k := 64) (args := #[.pointer (some ⟨b, 0, none⟩), ndV ⟨4, (a : Int), (b0 : Int), 0, []⟩, .string ⟨#[111, 114]⟩]) (fun v' L' => v' = .tuple #[] ∧ ∃ ob', L' = ob' ++ ([⟨b1, (ndV ⟨4, (a : Int), (b0 : Int), 0, []⟩).cells, 48⟩] : List Blk) ∧ Wr b A l.length cap (ws ++ (X ++ tOr :: Y)) ob') (by kernel_rfl) (fun _ => by kernel_rfl) (fun w hO => (nU (hL.at ⟨C, cc, g, rfl, hsl⟩ hO) ha' hb' (by decide) (by decide) tOr (by (try simp only [List.length_append, List.length_cons, List.length_nil] at hn ⊢); omega)).mono fun e w' ⟨ob', k1, k2⟩ => ⟨_, _, k1, ⟨rfl, ob', rfl, k2.rd⟩, Own.join hO k2.own⟩) (fun v1 L1 hv1 => ?_)))))))
  obtain ⟨rfl, ob1, rfl, C1, cc1, g1, rfl, hsl1⟩ := hv1
  exact zH (L' := ⟨b, #[.slice A l.length cap, .slice C1 ((ws ++ (X ++ tOr :: Y)).length) cc1], 70⟩ :: (g1 ++ ([⟨b1, (ndV ⟨4, (a : Int), (b0 : Int), 0, []⟩).cells, 48⟩]))) (by simp) (zK (zJ (yM Tryd.results41 (fun w hO => ⟨_, rfl, ⟨C1, cc1, g1, by first | rfl | (rw [show ws ++ (X ++ tOr :: Y) = (ws ++ (X ++ tOr :: Y)) from by simp]; done) | (rw [show ws ++ (X ++ tOr :: Y) = (ws ++ (X ++ tOr :: Y)) from by simp]; rfl), by first | exact hsl1 | (rw [show ws ++ (X ++ tOr :: Y) = (ws ++ (X ++ tOr :: Y)) from by simp]; exact hsl1)⟩, hO.sublist (by first | exact List.Sublist.refl _ | exact List.Sublist.cons_cons _ (by simp) | simp)⟩))))
end
section
theorem mX {w : World} {B : Nat} {e : TypeId} {size : Nat} {v : Value} {n : Nat} {xs : List Value} (h : w.ownsRow B e size v n xs) {k : Nat} {s : ByteArray} {pos : Nat} (hk : w.heap[k]? = some (.stringIter s pos)) (pos' : Nat) :
    (w.iterAt k s pos').ownsRow B e size v n xs := by
  obtain ⟨h1, h2⟩ := h
  refine ⟨h1, ?_⟩
  rcases h2 with h2 | ⟨g, cap, cur, hv, hg, hh, r⟩
  · exact Or.inl h2
  · refine Or.inr ⟨g, cap, cur, hv, hg, ?_, r⟩
    rw [Lib.iterAt_other _ _ _ _ _ (fun e => by subst e; rw [hk] at hh; cases hh)]
    exact hh
theorem ownsRow_ne {w : World} {B : Nat} {e : TypeId} {size : Nat} {v : Value} {n : Nat} {xs : List Value} (h : w.ownsRow B e size v n xs) {k : Nat} {s : ByteArray} {pos : Nat} (hk : w.heap[k]? = some (.stringIter s pos)) : some k ≠ v.ownBlock := by
  obtain ⟨h1, h2⟩ := h
  rcases h2 with ⟨rfl, _⟩ | ⟨g, cap, cur, rfl, hg, hh, r⟩
  · simp [Value.ownBlock]
  · intro he
    have : k = g := by simpa [Value.ownBlock] using he
    subst this
    rw [hk] at hh; cases hh
theorem bY {w w' : World} {B : Nat} {e : TypeId} {size : Nat} {v : Value} {n : Nat} {xs : List Value} (h : w.ownsRow B e size v n xs) (hb : Below w.heap.size w w') : w'.ownsRow B e size v n xs := by
  obtain ⟨h1, h2⟩ := h
  refine ⟨h1, ?_⟩
  rcases h2 with h2 | ⟨g, cap, cur, hv, hg, hh, r⟩
  · exact Or.inl h2
  · exact Or.inr ⟨g, cap, cur, hv, hg, by rw [hb.block g (Array.getElem?_eq_some_iff.1 hh).1]; exact hh, r⟩
theorem iter_below {w w' : World} {k : Nat} {s : ByteArray} {pos : Nat} (h : w.heap[k]? = some (.stringIter s pos)) (hb : Below w.heap.size w w') : w'.heap[k]? = some (.stringIter s pos) := by
  rw [hb.block k (Array.getElem?_eq_some_iff.1 h).1]; exact h
end
end Go.Proofs.YthanpjfmlipdnaaDoor
section
namespace Go.Proofs
open Go.Shelf
def Tryd.lays118_ren : Go.Shelf.Ren := ⟨fun | 118 => 69 | n => n, fun | 21 => 21 | 3 => 3 | 4 => 4 | n => n, fun | n => n⟩
theorem Tryd.lays118 : Go.Proofs.Lays.n118 Tryd.prog Tryd.lays118_ren := {
  mixed := by kernel_rfl
  f118 := Tryd.func69.trans (congrArg some (by kernel_rfl))
  t3 := Tryd.underlying3
  a3 := Tryd.isAgg3
  z3 := Tryd.sizeOf3
  v3 := Tryd.zeroValue3
  t4 := Tryd.underlying4
  a4 := Tryd.isAgg4
  z4 := Tryd.sizeOf4
  v4 := Tryd.zeroValue4
  t21 := Tryd.underlying21
  a21 := Tryd.isAgg21
  z21 := Tryd.sizeOf21
  v21 := Tryd.zeroValue21 }
theorem Tryd.utf8_RuneLen (r : Int) (w : World) :
    Calls Tryd.prog 69 #[.int .i32 r] w fun e w' => e = .returned (.int .i64 (Lib.runeLen r)) ∧ w' = w := Any.utf8_RuneLen Tryd.lays118 r w
def Tryd.lays99_ren : Go.Shelf.Ren := ⟨fun | 99 => 68 | 206 => 80 | n => n, fun | 9 => 9 | 4 => 4 | 3 => 3 | n => n, fun | n => n⟩
theorem Tryd.lays99 : Go.Proofs.Lays.n99 Tryd.prog Tryd.lays99_ren := {
  mixed := by kernel_rfl
  f99 := Tryd.func68.trans (congrArg some (by kernel_rfl))
  f206 := Tryd.func80.trans (congrArg some (by kernel_rfl))
  t3 := Tryd.underlying3
  a3 := Tryd.isAgg3
  z3 := Tryd.sizeOf3
  v3 := Tryd.zeroValue3
  t4 := Tryd.underlying4
  a4 := Tryd.isAgg4
  z4 := Tryd.sizeOf4
  v4 := Tryd.zeroValue4
  t9 := Tryd.underlying9
  a9 := Tryd.isAgg9
  z9 := Tryd.sizeOf9
  v9 := Tryd.zeroValue9 }
open Go.RowKit Go.Lib in
theorem Tryd.strings_HasPrefix (s p : ByteArray) (w : World) :
    Calls Tryd.prog 68 #[.string s, .string p] w fun e w' => e = .returned (.bool (Lib.hasPrefix s.data.toList p.data.toList)) ∧ w' = w := Any.strings_HasPrefix Tryd.lays99 s p w
end Go.Proofs
end
namespace Go.Proofs.YthanpjfmlipdnaaDoor
open Go.RowKit
section
theorem t2 (w : World) (a : Addr) (m : Nat) : (w.freeze a m).drawn = w.drawn := by unfold World.freeze; split <;> rfl
theorem mC {P : Program} {w : World} {ops : Array Oper} {rest : List Oper} {o : Oper} {a : Act} {Q : Exit → Act → World → Prop} (hgd : o.guard = none) (sl x : Operand) (t u : TypeId)
    (ho : o.op = .call { callee := .builtin .append, args := #[sl, x], argTypes := #[t, u] })
    (B : Nat) (e : TypeId) (i : TypeInfo) (ht : P.underlying t = some (.slice e)) (hu : P.underlying u = some .string) (hi : P.info? e = some i) (hz : i.zero = some (.int .u8 0)) (h1 : i.size = 1) (h2 : i.bytes = 1)
    (v : Value) (n : Nat) (xs : List Value) (hs : a.eval sl = v) (hown : w.ownsRow B e 1 v n xs) (s : ByteArray) (hx : a.eval x = .string s) (h63 : n + s.size ≤ maxLen) (hb : n + s.size ≤ 140737488355328) (hB : B ≤ w.heap.size)
    (h : ∀ v' w', w'.ownsRow B e 1 v' (n + s.size) (xs ++ Lib.strCells s) → GrownD w w' v.ownBlock → wpList P ops Q rest (a.put o.dst v') w') : wpList P ops Q (o :: rest) a w :=
  wpList_plain hgd fun K hK => by
    obtain ⟨v', w', hr, k2, k3, _⟩ := Lib.run_append_own_string (P := P) (w := w) B t u o.type e i ht hu hi hz h1 h2 v n xs hown s h63 hb hB
    unfold Oper.wp execOp
    simp only [ho, resolve, invoke, builtin, Sem.run_bind, Sem.run_pure, Result.andThen_ok, List.map_toArray, List.map_cons, List.map_nil, hs, hx, hr]
    exact hK _ _ (h v' w' k2 ⟨k3, p4 P _ _ hr⟩)
theorem hY : (Tryd.prog.info? 92).map (·.size) = some 2 := by kernel_rfl
theorem liesBuilder : liesAt Tryd.prog Tryd.prog.depth 92 (2 / Tryd.prog.cellsOf 92) 0 92 1 = true := by kernel_rfl
theorem infoByte : (Tryd.prog.info? 5).map (fun i => (i.zero, i.size, i.bytes)) = some (some (.int .u8 0), 1, 1) := by kernel_rfl
theorem nF (b : Nat) (w : World) (h0 : w.cell? ⟨b, 0, none⟩ = some (.pointer (some ⟨b, 0, none⟩))) :
    Calls Tryd.prog 79 #[.pointer (some ⟨b, 0, none⟩)] w fun e w' => e = .returned (.tuple #[]) ∧ w' = w := by
  obtain ⟨j, hj, _⟩ := Option.map_eq_some_iff.1 hY
  go_enter Tryd.func79, Tryd.ntmps79
  go_wp2
  rw [Lib.run_neq_ptr_same w _ Tryd.underlying89 hj]
  go_wp2
  go_end0
  exact ⟨rfl, rfl⟩
theorem m4 (b : Nat) (w : World) (h0 : w.cell? ⟨b, 0, none⟩ = some (.pointer none)) (hsh : w.shape? b = some (92, 2)) (hfz : w.frozen? ⟨b, 0, none⟩ = false) :
    Calls Tryd.prog 79 #[.pointer (some ⟨b, 0, none⟩)] w fun e w' => e = .returned (.tuple #[]) ∧ w' = w.setCell ⟨b, 0, none⟩ (.pointer (some ⟨b, 0, none⟩)) := by
  obtain ⟨j, hj, hjs⟩ := Option.map_eq_some_iff.1 hY
  go_enter Tryd.func79, Tryd.ntmps79
  go_wp2
  rw [Lib.run_to_unsafe w ⟨b, 0, none⟩ Tryd.underlying89 Tryd.underlying107 hj (by rw [hjs]; decide) hsh (Nat.zero_lt_succ 1)]
  simp only [Result.andThen]
  rw [Oper.upon_value]
  go_wp2
  rw [run_callFunc_extern Tryd.func87 (by kernel_rfl) (by kernel_rfl) (by kernel_rfl) (e := Extern.AbiNoEscape.same) (by kernel_rfl)]
  rw [Lib.run_noEscape]
  simp only [Result.andThen]
  rw [Oper.upon_value]
  go_wp2
  rw [Lib.run_from_unsafe w ⟨b, 0, none⟩ Tryd.underlying107 Tryd.underlying89 hj hsh liesBuilder]
  simp only [Result.andThen]
  rw [Oper.upon_value]
  go_wp2
  go_end0
  exact ⟨rfl, rfl⟩
theorem d6 (B b : Nat) (bs : List Value) (w : World) (h : Lib.IsBuilder 92 5 B b bs w) :
    Calls Tryd.prog 79 #[.pointer (some ⟨b, 0, none⟩)] w fun e w' => e = .returned (.tuple #[]) ∧ (Lib.BuilderAt 92 5 B b (.pointer (some ⟨b, 0, none⟩)) bs w' ∧ Below B w w') := by
  rcases h with h | h
  · refine (m4 b w h.cell0 h.shape h.frozen0).mono ?_
    rintro e w' ⟨rfl, rfl⟩
    exact ⟨rfl, h.used _, (Below.refl B w).setCell (p := ⟨b, 0, none⟩) h.1 _⟩
  · refine (nF b w h.cell0).mono ?_
    rintro e w' ⟨rfl, rfl⟩
    exact ⟨rfl, h, Below.refl B _⟩
theorem nK (B b : Nat) (bs : List Value) (c : Int) (w : World) (h : Lib.IsBuilder 92 5 B b bs w) (hlen : bs.length + 1 ≤ 140737488355328) (hBw : B ≤ w.heap.size) :
    Calls Tryd.prog 65 #[.pointer (some ⟨b, 0, none⟩), .int .u8 c] w fun e w' => e = .returned .nilIface ∧ (Lib.BuilderAt 92 5 B b (.pointer (some ⟨b, 0, none⟩)) (bs ++ [.int .u8 c]) w' ∧ Below B w w') := by
  obtain ⟨i0, hi, hz0, hz1, hz2⟩ := info_parts infoByte
  go_enter Tryd.func65, Tryd.ntmps65
  go_wp2_with (go_at_call 79; refine (d6 B b bs _ h).mono ?_)
  rintro e w1 ⟨rfl, h1, hb1⟩
  obtain ⟨hB, v, hbk, hown, hne⟩ := h1
  have c0 : w1.cell? ⟨b, 0, none⟩ = some (.pointer (some ⟨b, 0, none⟩)) := by rw [Lib.cell_of_heap hbk]; rfl
  have c1 : w1.cell? ⟨b, 1, none⟩ = some v := by rw [Lib.cell_of_heap hbk]; rfl
  go_wp2_with (at_builtin; refine kO _ rfl _ _ 90 rfl B 5 i0 (.int .u8 0) 1 1 Tryd.underlying90 hi hz0 hz1 hz2 rfl (by decide) _ _ _ rfl (hown.alloc _) ⟨w1.heap.size, 0, none⟩ 1 1 [.int .u8 c] rfl rfl ?c1 ?c2 ?c3 ?c4 ?c5 ?_)
  case c1 =>
    intro j u hj
    match j, hj with
    | 0, hj => simp at hj; subst hj; simp [Addr.add]
  case c2 => intro u hu; simp at hu; subst hu; rfl
  case c3 => unfold maxLen; omega
  case c4 => omega
  case c5 => have := hb1.size; simp; omega
  intro v' w2 hown' hgrow _
  have hlt : b < w1.heap.size := by
    rcases Nat.lt_or_ge b w1.heap.size with h' | h'
    · exact h'
    · simp [Array.getElem?_eq_none h'] at hbk
  have hb2 : w2.heap[b]? = some (.cells #[.pointer (some ⟨b, 0, none⟩), v] 92 (0, 0)) := by
    rw [hgrow.old.block b (by simp; omega) (fun e => hne e.symm), Lib.alloc_old w1 _ b hlt]
    exact hbk
  have d0 : w2.cell? ⟨b, 0, none⟩ = some (.pointer (some ⟨b, 0, none⟩)) := by rw [Lib.cell_of_heap hb2]; rfl
  have d1 : w2.cell? ⟨b, 1, none⟩ = some v := by rw [Lib.cell_of_heap hb2]; rfl
  have f1 : w2.frozen? ⟨b, 1, none⟩ = false := Lib.frozen_of_heap hb2 1
  obtain ⟨g, cap, rfl⟩ : ∃ g cap, v' = .slice (some ⟨g, 0, none⟩) (bs.length + 1) cap := by
    rcases hown'.2 with ⟨_, h0⟩ | ⟨g, cap, cur, hv, _⟩
    · omega
    · exact ⟨g, cap, hv⟩
  go_wp2
  go_ret
  refine ⟨rfl, ?_, ?_⟩
  · exact Lib.BuilderAt.put (T := 92) (e := 5) hB hb2 (bs' := bs ++ [.int .u8 c]) (by simpa using hown') (by decide)
  · exact ((hb1.alloc (by have := hb1.size; omega) _).grown hgrow (by have := hb1.size; simp; omega) (fun k hk => (hown.lt k hk).1)).setCell (p := ⟨b, 1, none⟩) hB _
theorem wR (B b : Nat) (bs : List Value) (s : ByteArray) (w : World) (h : Lib.IsBuilder 92 5 B b bs w) (hlen : bs.length + s.size ≤ 140737488355328) (hBw : B ≤ w.heap.size) :
    Calls Tryd.prog 66 #[.pointer (some ⟨b, 0, none⟩), .string s] w fun e w' => e = .returned (.tuple #[.int .i64 s.size, .nilIface]) ∧ (Lib.BuilderAt 92 5 B b (.pointer (some ⟨b, 0, none⟩)) (bs ++ Lib.strCells s) w' ∧ Below B w w') := by
  obtain ⟨i0, hi, hz0, hz1, hz2⟩ := info_parts infoByte
  go_enter Tryd.func66, Tryd.ntmps66
  go_wp2_with (go_at_call 79; refine (d6 B b bs _ h).mono ?_)
  rintro e w1 ⟨rfl, h1, hb1⟩
  obtain ⟨hB, v, hbk, hown, hne⟩ := h1
  have c0 : w1.cell? ⟨b, 0, none⟩ = some (.pointer (some ⟨b, 0, none⟩)) := by rw [Lib.cell_of_heap hbk]; rfl
  have c1 : w1.cell? ⟨b, 1, none⟩ = some v := by rw [Lib.cell_of_heap hbk]; rfl
  go_wp2_with (at_builtin; refine mC rfl _ _ 90 9 rfl B 5 i0 Tryd.underlying90 Tryd.underlying9 hi hz0 hz1 hz2 _ _ _ rfl hown s rfl ?c3 ?c4 ?c5 ?_)
  case c3 => unfold maxLen; omega
  case c4 => omega
  case c5 => have := hb1.size; omega
  intro v' w2 hown' hgrow
  have hlt : b < w1.heap.size := by
    rcases Nat.lt_or_ge b w1.heap.size with h' | h'
    · exact h'
    · simp [Array.getElem?_eq_none h'] at hbk
  have hb2 : w2.heap[b]? = some (.cells #[.pointer (some ⟨b, 0, none⟩), v] 92 (0, 0)) := by
    rw [hgrow.old.block b hlt (fun e => hne e.symm)]
    exact hbk
  have d0 : w2.cell? ⟨b, 0, none⟩ = some (.pointer (some ⟨b, 0, none⟩)) := by rw [Lib.cell_of_heap hb2]; rfl
  have d1 : w2.cell? ⟨b, 1, none⟩ = some v := by rw [Lib.cell_of_heap hb2]; rfl
  have f1 : w2.frozen? ⟨b, 1, none⟩ = false := Lib.frozen_of_heap hb2 1
  obtain ⟨ao, n', cap, rfl⟩ : ∃ ao n' cap, v' = .slice ao n' cap := by
    rcases hown'.2 with ⟨hv, _⟩ | ⟨g, cap, cur, hv, _⟩
    · exact ⟨_, _, _, hv⟩
    · exact ⟨_, _, _, hv⟩
  go_wp2
  go_ret2
  refine ⟨rfl, ?_, ?_⟩
  · exact Lib.BuilderAt.put (T := 92) (e := 5) hB hb2 (bs' := bs ++ Lib.strCells s) (by simpa [Lib.strCells_length] using hown') (by decide)
  · exact (hb1.grown hgrow (by have := hb1.size; omega) (fun k hk => (hown.lt k hk).1)).setCell (p := ⟨b, 1, none⟩) hB _
theorem t6 {l : List UInt8} (h : l ≠ []) : (Lib.byteCells l).length ≠ 0 := by
  rw [Lib.byteCells_length]; exact fun e => h (List.eq_nil_of_length_eq_zero e)
theorem string_any (B b : Nat) (l : List UInt8) (w : World) (h : Lib.IsBuilder 92 5 B b (Lib.byteCells l) w) (h0 : l ≠ []) :
    Calls Tryd.prog 67 #[.pointer (some ⟨b, 0, none⟩)] w fun e w' => e = .returned (.string ⟨l.toArray⟩) ∧ Below B w w' := by
  obtain ⟨p, hB, v, hbk, hown, hne⟩ : ∃ p, Lib.BuilderAt 92 5 B b p (Lib.byteCells l) w := h.elim (fun q => ⟨_, q⟩) (fun q => ⟨_, q⟩)
  rcases hown.2 with ⟨_, hz⟩ | ⟨g, cap, cur, rfl, hbg, hg, hnc, hcm, hcs, htake⟩
  · exact absurd hz (t6 h0)
  rw [Lib.byteCells_length] at hown hnc hbk htake
  have hl0 : l.length ≠ 0 := fun e => h0 (List.eq_nil_of_length_eq_zero e)
  have hg' : w.drew.heap[g]? = some (.cells cur 5 (0, 0)) := hg
  have c1 : w.drew.cell? ⟨b, 1, none⟩ = some (.slice (some ⟨g, 0, none⟩) l.length cap) := by
    rw [Lib.cell_of_heap (show w.drew.heap[b]? = _ from hbk)]; rfl
  have hSD := Lib.run_unsafeSliceData_row (P := Tryd.prog) w.drew #[90] 104 ⟨g, 0, none⟩ l.length cap (by omega)
  have hUS := Lib.run_unsafeString_row (P := Tryd.prog) w.drew 104 3 9 5 Tryd.underlying104 (by kernel_rfl) g cur.size (by unfold World.shape?; rw [hg']) l h0 (by omega) (by unfold maxLen at hcm; omega)
    (fun j x hx => hown.cells (g := g) rfl j (.int .u8 x.toNat) (by simp [Lib.byteCells, hx]))
  go_enter Tryd.func67, Tryd.ntmps67
  go_wp2
  have mixed : Tryd.prog.follows .mixedOrders = true := by kernel_rfl
  go_region_o
  all_goals
    go_wp2
    go_ret
    have hf := Lib.below_freeze (Go.RowKit.Below.drew (Go.RowKit.Below.refl B w)) (p := ⟨g, 0, none⟩) hbg l.length
    exact ⟨rfl, hf.os, hf.tape, hf.output, hf.size, by rw [t2]; exact Nat.le_succ _, hf.block⟩
end
section
def numGo : Nat → Bool → List UInt8 → Option Nat
  | n, first, [] => if first then none else some n
  | n, first, c :: r =>
    if jE c.toNat then
      (if first = false ∧ n = 0 then none
       else if n * 10 + (c.toNat - 48) ≤ 9999 then numGo (n * 10 + (c.toNat - 48)) false r else none)
    else none
def numB (s : ByteArray) : Option Nat := numGo 0 true s.data.toList
def numV (s : ByteArray) : Int := ((numB s).getD 0 : Nat)
def numOk (s : ByteArray) : Bool := (numB s).isSome
def allDig (l : List UInt8) : Bool := l.all fun c => jE c.toNat
def foldV (n : Nat) (l : List UInt8) : Nat := l.foldl (fun n c => n * 10 + (c.toNat - 48)) n
def numRef (l : List UInt8) : Option Nat :=
  if l.length < 1 ∨ l.length > 9 ∨ (l.length > 1 ∧ l.head? = some 48) then none
  else if allDig l = true ∧ foldV 0 l ≤ 9999 then some (foldV 0 l) else none
end
section
end
section
def HasTab (w : World) : Prop := Lib.TabBelow Tryd.prog w.heap.size w "internal/strconv.uint64pow10" .u64 Lib.pow10Tab
def digS (n : Int) : ByteArray := ⟨(Lib.itoa n).toArray⟩
theorem ret_str {a b : ByteArray} (h : a = b) : Ending.returned (.string a) = .returned (.string b) := by rw [h]
def one (x : Int) : ByteArray := ⟨#[UInt8.ofNat x.toNat]⟩
def decS (n : Nat) : ByteArray := ⟨(Lib.decDigits n).toArray⟩
end
section
theorem joinL_snoc (b : UInt8) (P : List (List UInt8)) (x : List UInt8) : x1 b (P ++ [x]) = if P = [] then x else x1 b P ++ b :: x := by
  induction P with
  | nil => rfl
  | cons y r ih =>
    rw [if_neg (by simp)]
    cases r with
    | nil => rfl
    | cons z r2 =>
      rw [List.cons_append, List.cons_append, x1, ← List.cons_append, ih, if_neg (by simp), x1, List.append_assoc]; rfl
theorem nQ (b : UInt8) (l : List (List UInt8)) : ∀ k, (x1 b (l.take k)).length ≤ (x1 b l).length := by
  intro k
  induction l generalizing k with
  | nil => simp
  | cons y r ih =>
    cases k with
    | zero => simp [x1]
    | succ k =>
      cases r with
      | nil => simp
      | cons z r2 =>
        cases k with
        | zero => simp [x1]
        | succ k =>
          have := ih (k + 1)
          rw [List.take_succ_cons] at this ⊢
          rw [List.take_succ_cons, x1, x1]
          simp only [List.length_append, List.length_cons]
          omega
def ReadsT (w : World) (B : Nat) (v : Value) (l : List (List UInt8)) : Prop :=
  ∃ A cap, v = .slice A l.length cap ∧ (0 < l.length → ∃ ad : Addr, A = some ad ∧ ad.block < B ∧ ∀ j (h : j < l.length), w.cell? (ad.add j) = some (.string (mkS l[j])))
theorem addr_block (a : Addr) (n : Nat) : (a.add n).block = a.block := by unfold Addr.add; split <;> rfl
theorem take_snocL (l : List (List UInt8)) (k : Nat) (h : k < l.length) : l.take (k + 1) = l.take k ++ [l[k]] := by
  rw [List.take_succ_eq_append_getElem h]
theorem dS (l : List (List UInt8)) (k : Nat) (h : k < l.length) (h0 : 0 < k) : l.take k ≠ [] := by
  intro e; have := congrArg List.length e; rw [List.length_take, List.length_nil] at this; omega
theorem nS (c : UInt8) : Lib.byteCells [c] = [.int .u8 (c.toNat : Int)] := rfl
theorem tF (l : List UInt8) : Lib.strCells (mkS l) = Lib.byteCells l := rfl
theorem bc_join (x y : List UInt8) (b : UInt8) : Lib.byteCells (x ++ b :: y) = Lib.byteCells x ++ [.int .u8 (b.toNat : Int)] ++ Lib.strCells (mkS y) := by
  rw [tF, ← nS, ← Lib.byteCells_append, ← Lib.byteCells_append, List.append_assoc]; rfl
theorem join_any (v : Value) (l : List (List UInt8)) (b : UInt8) (w : World) (hv : ReadsT w w.heap.size v l) (hl : (x1 b l).length ≤ 1000000000) (hn : l.length ≤ 1000000000) (hne : x1 b l ≠ []) :
    Calls Tryd.prog 42 #[v, .int .u8 b.toNat] w fun e w' => e = .returned (.string (mkS (x1 b l))) ∧ Below w.heap.size w w' := by
  obtain ⟨A, cap, rfl, hcell⟩ := hv
  go_enter Tryd.func42, Tryd.ntmps42
  go_wp2
  go_loopw [10] (fun iv wr => ∃ (k : Nat), iv = .int .i64 k ∧ k ≤ l.length ∧ Lib.IsBuilder 92 5 w.heap.size w.heap.size (Lib.byteCells (x1 b (l.take k))) wr ∧ Below w.heap.size w wr) (fun iv _ => l.length - (intOf iv).toNat)
  case atStart => exact ⟨0, rfl, Nat.zero_le _, Lib.fresh_isBuilder 92 5 w, (Below.refl _ _).alloc (Nat.le_refl _) _⟩
  case round =>
    obtain ⟨k, rfl, hk, hI, hb⟩ := hrel
    have hsz := hb.size
    by_cases hp : k < l.length
    · obtain ⟨ad, rfl, hlt, hc⟩ := hcell (by omega)
      have hck : wr.cell? (ad.add k) = some (.string (mkS l[k])) := (hb.cell (by rw [addr_block]; exact hlt)).trans (hc k hp)
      have hln : (x1 b (l.take (k + 1))).length ≤ 1000000000 := Nat.le_trans (nQ b l (k + 1)) hl
      have HJ := Lib.hid (joinL_snoc b (l.take k) l[k])
      rw [← take_snocL l k hp] at HJ
      clear hc hcell
      by_cases h0 : k = 0
      · subst h0
        have hx2 : (mkS l[0]).size ≤ 1000000000 := by
          rw [mkS_size]; rw [HJ.out, if_pos List.take_zero] at hln; exact hln
        have hck0 : wr.cell? ad = some (.string (mkS l[0])) := hck
        clear hck
        go_wp2_with (go_at_call 66; refine (wR w.heap.size w.heap.size _ (mkS l[0]) _ hI ?_ hsz).mono ?_)
        · rw [Lib.byteCells_length]; simp [x1]; omega
        rintro e w1 ⟨rfl, h1, hb1⟩
        go_wp2
        go_roundw
        case rel => exact ⟨0 + 1, by go_num, by omega, by rw [HJ.out, if_pos List.take_zero]; exact Or.inr h1, hb.trans hb1⟩
        case measure => simp [intOf]; omega
      · have h0p : 0 < k := by omega
        have hlen : (x1 b (l.take k)).length + (l[k].length + 1) ≤ 1000000000 := by
          rw [HJ.out, if_neg (dS l k hp h0p), List.length_append, List.length_cons] at hln; exact hln
        go_wp2_with (go_at_call 65; refine (nK w.heap.size w.heap.size _ _ _ hI ?_ hsz).mono ?_)
        · rw [Lib.byteCells_length]; omega
        rintro e w1 ⟨rfl, h1, hb1⟩
        have hsz1 := (hb.trans hb1).size
        go_wp2_with (go_at_call 66; refine (wR w.heap.size w.heap.size _ (mkS l[k]) _ (Or.inr h1) ?_ hsz1).mono ?_)
        · rw [List.length_append, Lib.byteCells_length, mkS_size]; simp; omega
        rintro e w2 ⟨rfl, h2, hb2⟩
        go_wp2
        go_roundw
        case rel => exact ⟨k + 1, by go_num, by omega, by rw [HJ.out, if_neg (dS l k hp h0p), bc_join]; exact Or.inr h2, (hb.trans hb1).trans hb2⟩
        case measure => simp [intOf]; omega
    · obtain rfl : k = l.length := by omega
      go_wp2_with (go_at_call 67; refine (string_any w.heap.size w.heap.size _ _ hI (by rw [List.take_length]; exact hne)).mono ?_)
      rintro e w1 ⟨rfl, hb1⟩
      go_wp2
      go_ret
      exact ⟨ret_str rfl, hb.trans hb1⟩
theorem SlT.readsT {v : Value} {l : List (List UInt8)} {ob L : List Blk} {M : List Nat} {W w : World} (h : SlT v l ob) (hO : Own M W w L) (hs : ∀ x ∈ ob, x ∈ L) : ReadsT w w.heap.size v l := by
  obtain ⟨A, cap, rfl⟩ := h.form
  refine ⟨A, cap, rfl, fun h0 => ?_⟩
  obtain ⟨b, off, e, hlt, hc⟩ := SlT.reads h rfl hO hs h0
  refine ⟨⟨b, off, none⟩, e, hlt, fun j hj => ?_⟩
  rw [y5]
  refine hc j _ ?_
  rw [← j4]
  unfold gF
  rw [List.getElem?_map, List.getElem?_eq_getElem hj]; rfl
end
section
set_option linter.unnecessarySimpa false
theorem jG : ∀ t : Tr, t.tok.length + 2 ≤ 6 * t.sz
  | .is k v => by rw [Tr.tok]; show 5 ≤ 6; omega
  | .no (.is k v) => by rw [Tr.tok]; show 5 ≤ 12; omega
  | .no (.no x) => by have := jG (.no x); rw [Tr.tok]; simp only [List.length_cons]; show _ ≤ 6 * ((Tr.no x).sz + 1); omega
  | .no (.both x y) => by have := jG (.both x y); rw [Tr.tok]; unfold yR; simp only [if_true, List.length_cons, List.length_append, List.length_nil]; show _ ≤ 6 * ((Tr.both x y).sz + 1); omega
  | .no (.one x y) => by have := jG (.one x y); rw [Tr.tok]; unfold yR; simp only [if_true, List.length_cons, List.length_append, List.length_nil]; show _ ≤ 6 * ((Tr.one x y).sz + 1); omega
  | .both x y => by
    have h1 := jG x; have h2 := jG y
    have w1 : ∀ (c : Bool) (l : List Tok), (yR c l).length ≤ l.length + 2 := fun c l => by unfold yR; cases c <;> simp
    have := w1 x.isOne x.tok; have := w1 y.isBin y.tok
    rw [Tr.tok, List.length_append, List.length_cons]; show _ ≤ 6 * (x.sz + y.sz + 1); omega
  | .one x y => by
    have h1 := jG x; have h2 := jG y
    have w1 : ∀ (c : Bool) (l : List Tok), (yR c l).length ≤ l.length + 2 := fun c l => by unfold yR; cases c <;> simp
    have := w1 y.isOne y.tok
    rw [Tr.tok, List.length_append, List.length_cons]; show _ ≤ 6 * (x.sz + y.sz + 1); omega
theorem opw {A : Option Addr} {cap : Nat} {l : List Nd} (hl9 : l.length ≤ 1000) {t : Tr} {a : Nat} {na : Nd} {z : Int} {c : Bool} (hna : l[a]? = some na) (hop : na.op = t.opc) (h : jD A cap l a t.tok) (hc : c = decide (z < t.opc)) : d8 A cap l a z (yR c t.tok) := by
  by_cases hz : na.op ≤ z
  · have : c = false := by rw [hc]; exact decide_eq_false (by omega)
    rw [this]; exact opn_in hl9 hna hz h
  · have : c = true := by rw [hc]; exact decide_eq_true (by omega)
    rw [this]; exact opn_out hl9 hna hz h
theorem opc_bin (t : Tr) : t.isBin = decide (2 < t.opc) := by cases t <;> rfl
theorem opc_one (t : Tr) : t.isOne = decide (3 < t.opc) := by cases t <;> rfl
theorem opc_not (t : Tr) : false = decide (4 < t.opc) := by cases t <;> rfl
theorem vF {A : Option Addr} {cap : Nat} {l : List Nd} (hl9 : l.length ≤ 1000) : ∀ (t : Tr) (o : Nat), t.ok = true → xA l o t → jD A cap l (o + t.sz - 1) t.tok
  | .is k v, o, h, hs => by
    unfold Tr.ok at h
    simp only [Bool.and_eq_true, decide_eq_true_eq] at h
    exact nd_is hl9 h.1 (hs 0 _ rfl)
  | .no x, o, h, hs => by
    have hx : x.ok = true := h
    have hxz := x.sz_pos
    have hs1 : xA l o x := yL hs
    have hr := yD (k := x.sz) (Tr.enc_len x o) hs 0 _ rfl
    have ih := vF (A := A) (cap := cap) hl9 x o hx hs1
    obtain ⟨na, hna, hop⟩ := kD hs1
    rw [Nat.add_zero] at hr
    have goal : jD A cap l (o + x.sz) (Tr.no x).tok := by
      by_cases hi : ∃ k v, x = .is k v
      · obtain ⟨k, v, rfl⟩ := hi
        unfold Tr.ok at hx
        simp only [Bool.and_eq_true, decide_eq_true_eq] at hx
        exact nd_no_is hl9 hx.1 hr (hs1 0 _ rfl)
      · rw [Tr.tok_no (fun k v q => hi ⟨k, v, q⟩)]
        refine nd_no hl9 hr hna ?_ (opw hl9 hna hop ih (opc_bin x))
        rw [hop]; cases x <;> first | exact absurd ⟨_, _, rfl⟩ hi | (intro q; cases q)
    show jD A cap l (o + (x.sz + 1) - 1) _
    rw [show o + (x.sz + 1) - 1 = o + x.sz by omega]; exact goal
  | .both x y, o, h, hs => by
    unfold Tr.ok at h
    rw [Bool.and_eq_true] at h
    have hs0 : ∀ i u, (x.enc o ++ y.enc (o + x.sz))[i]? = some u → l[o + i]? = some u := yL hs
    have hs1 : xA l o x := yL hs0
    have hs2 : xA l (o + x.sz) y := yD (Tr.enc_len x o) hs0
    have hr := yD (k := x.sz + y.sz) (by rw [List.length_append, Tr.enc_len, Tr.enc_len]) hs 0 _ rfl
    obtain ⟨na, hna, hop⟩ := kD hs1
    obtain ⟨nb, hnb, hopb⟩ := kD hs2
    have goal : jD A cap l (o + (x.sz + y.sz) + 0) (Tr.both x y).tok := by
      rw [Tr.tok]
      exact nd_both hl9 hr (opw hl9 hna hop (vF hl9 x o h.1 hs1) (opc_one x)) (opw hl9 hnb hopb (vF hl9 y (o + x.sz) h.2 hs2) (opc_bin y))
    show jD A cap l (o + (x.sz + y.sz + 1) - 1) _
    rw [show o + (x.sz + y.sz + 1) - 1 = o + (x.sz + y.sz) + 0 by omega]; exact goal
  | .one x y, o, h, hs => by
    unfold Tr.ok at h
    rw [Bool.and_eq_true] at h
    have hs0 : ∀ i u, (x.enc o ++ y.enc (o + x.sz))[i]? = some u → l[o + i]? = some u := yL hs
    have hs1 : xA l o x := yL hs0
    have hs2 : xA l (o + x.sz) y := yD (Tr.enc_len x o) hs0
    have hr := yD (k := x.sz + y.sz) (by rw [List.length_append, Tr.enc_len, Tr.enc_len]) hs 0 _ rfl
    obtain ⟨na, hna, hop⟩ := kD hs1
    obtain ⟨nb, hnb, hopb⟩ := kD hs2
    have goal : jD A cap l (o + (x.sz + y.sz) + 0) (Tr.one x y).tok := by
      rw [Tr.tok]
      exact nd_one hl9 hr (opw hl9 hna hop (vF hl9 x o h.1 hs1) (opc_not x)) (opw hl9 hnb hopb (vF hl9 y (o + x.sz) h.2 hs2) (opc_one y))
    show jD A cap l (o + (x.sz + y.sz + 1) - 1) _
    rw [show o + (x.sz + y.sz + 1) - 1 = o + (x.sz + y.sz) + 0 by omega]; exact goal
theorem gY (A : Option Addr) (cap : Nat) (l : List Nd) (W : World) (hv : Reads nC W W.heap.size A l) (hn : l.length ≤ 1000) (ht : ∀ n ∈ l, n.text.length ≤ 1000000) (hK : MkLib W) : Calls Tryd.prog 20 #[.agg #[.slice A l.length cap]] W fun e w' => e = .returned (.string (mkS (z6 l))) ∧ Below W.heap.size W w' := by
  refine zU (n := 30) Tryd.func20 rfl (by kernel_rfl) (by kernel_rfl) (ZO (Zb (.agg #[.slice A l.length cap]) (fun b1 => Zv (.string ⟨#[]⟩) (ZN (zF (ZO (Zv (.pointer (some ⟨b1, 0, none⟩)) (Zl 0 ⟨b1, #[.slice A l.length cap], 25⟩ (off := 0) (.slice A l.length cap) ?_))))))))
  refine Zv (.int .i64 (l.length : Int)) ?_
  by_cases h1 : (l.length : Int) = 0
  · have hl0 : l = [] := List.eq_nil_of_length_eq_zero (by omega)
    refine Zd (p := (l.length : Int) = 0) true (decide_eq_true (h1)) (Zv (.bool true) (Zk (Zk (Zk (Zk (Zv (.bool true) (ZY (zF (z7 ?_)))))))))
    exact Zv (.string ⟨#[]⟩) (ZN (zG (z5 (ZF (.string ⟨#[]⟩) Tryd.results20 (fun w hO => ⟨by rw [hl0]; rfl, hO.below⟩)))))
  have hne : l ≠ [] := fun q => h1 (by rw [q]; rfl)
  refine Zd (p := (l.length : Int) = 0) false (decide_eq_false (h1)) (Zv (.bool false) (Zv (.pointer (some ⟨b1, 0, none⟩)) (Zl 0 ⟨b1, #[.slice A l.length cap], 25⟩ (off := 0) (.slice A l.length cap) (Zc (k := 40) (args := #[.slice A l.length cap]) (.bool (qG l)) (fun w hO => tree10_any A cap l w (hv.on hO.below hO.size) hne hn ht) ?_))))
  cases h2 : qG l with
  | true =>
    obtain ⟨t, hok, hl, hsz⟩ := treeOk_yes h2
    have hlen : l.length = t.sz := by rw [hl, Tr.enc_len]
    have hpos := t.sz_pos
    have hst : xA l 0 t := hl ▸ gS t
    have htl := jG t
    have htx := vA hok (by omega)
    have hjl : (x1 32 t.tok).length ≤ 100000 := htx
    have hnl : ((0 + t.sz - 1 : Nat) : Int) = (l.length : Int) - 1 := by omega
    refine Zv (.bool false) (Zv (.bool false) (ZX (ZB (ZO (Zv (.pointer (some ⟨b1, 0, none⟩)) (Zl 0 ⟨b1, #[.slice A l.length cap], 25⟩ (off := 0) (.slice A l.length cap) (Zv (.agg #[.slice A l.length cap, .slice none 0 0]) ?_)))))))
    refine Za (.agg #[.slice none 0 0, .slice none 0 0]) (fun b2 => Zs 0 ⟨b2, #[.slice none 0 0, .slice none 0 0], 70⟩ (off := 0) (.agg #[.slice A l.length cap, .slice none 0 0]) (ZR (Zv (.pointer (some ⟨b1, 0, none⟩)) (Zl 1 ⟨b1, #[.slice A l.length cap], 25⟩ (off := 0) (.slice A l.length cap) (Zv (.int .i64 (l.length : Int)) (Zu (k := .i64) ((l.length : Int) - 1) (IntWalk.i64_in _ (by omega)) (zH (L' := [⟨b2, #[.slice A l.length cap, .slice none 0 0], 70⟩] ++ ([⟨b1, #[.slice A l.length cap], 25⟩] : List Blk)) rfl (zO (k := 41) (args := #[.pointer (some ⟨b2, 0, none⟩), .int .i64 ((l.length : Int) - 1)]) (fun v' L' => v' = .tuple #[] ∧ ∃ ob', L' = ob' ++ ([⟨b1, #[.slice A l.length cap], 25⟩] : List Blk) ∧ Wr b2 A l.length cap t.tok ob') (by kernel_rfl) (fun _ => by kernel_rfl) (fun w hO => by rw [← hnl]; exact (vF hn t 0 hok hst W.heap.size b2 [] [⟨b2, #[.slice A l.length cap, .slice none 0 0], 70⟩] w ⟨⟨none, 0, [], rfl, Sl.nil _ _⟩, Own.lent hO, fun x hx => (hO.base x (List.mem_append_left _ hx)).elim id (fun q => absurd q (by simp)), hO.size, hv.on hO.below (Nat.le_refl _), MkAt.on hK hO.below (Nat.le_refl _)⟩ (by simp; omega)).mono fun e w' ⟨ob', k1, k2⟩ => ⟨_, _, k1, ⟨rfl, ob', rfl, k2.rd⟩, Own.join hO k2.own⟩) (fun v3 L3 hv3 => ?_)))))))))
    obtain ⟨rfl, ob3, rfl, C3, cc3, g3, rfl, hsl3⟩ := hv3
    refine zH (L' := ⟨b2, #[.slice A l.length cap, .slice C3 t.tok.length cc3], 70⟩ :: (g3 ++ ([⟨b1, #[.slice A l.length cap], 25⟩]))) rfl (ZR (Zv (.pointer (some ⟨b2, 1, none⟩)) (Zl 0 ⟨b2, #[.slice A l.length cap, .slice C3 t.tok.length cc3], 70⟩ (off := 1) (.slice C3 t.tok.length cc3) (Zc (k := 42) (args := #[.slice C3 t.tok.length cc3, .int .u8 32]) (.string (mkS t.text)) (fun w hO => join_any _ t.tok 32 w (SlT.readsT hsl3 hO (fun x hx => by simp [hx])) (by omega) (by omega) (pN t)) (Zv (.string (mkS t.text)) (ZN (zF ?_)))))))
    refine ZO (Zv (.string (mkS t.text)) (Zv (.int .i64 ((mkS t.text).size)) ?_))
    by_cases h3 : (96 : Int) < (mkS t.text).size
    · refine x8 (p := (96 : Int) < (mkS t.text).size) true (by kernel_rfl) (fun _ => by kernel_rfl) (decide_eq_true (h3)) ?_
      exact ZY (ZO (Zv (.string ⟨#[]⟩) (ZN (zG (z5 (ZF (.string ⟨#[]⟩) Tryd.results20 (fun w hO => ⟨by rw [hl, print_long hok (by have := h3; rw [k0] at this; omega)]; rfl, hO.below⟩)))))))
    refine Zd (p := (96 : Int) < (mkS t.text).size) false (decide_eq_false (h3)) (ZX (ZB (ZO (Zv (.string (mkS t.text)) (Zv (.string (mkS t.text)) (zK (z8 ?_)))))))
    exact zG (ZF (.string (mkS t.text)) Tryd.results20 (fun w hO => ⟨by rw [hl, print_yes hok hsz (by have := h3; rw [k0] at this; omega)], hO.below⟩))
  | false =>
    refine Zv (.bool true) (Zv (.bool true) (ZY (ZO (Zv (.string ⟨#[]⟩) (ZN (zG (z5 ?_)))))))
    exact ZF (.string ⟨#[]⟩) Tryd.results20 (fun w hO => ⟨by rw [print_no h2]; rfl, hO.below⟩)
theorem gC (A : Option Addr) (cap : Nat) (l : List Nd) (W : World) (hv : Reads nC W W.heap.size A l) (hn : l.length ≤ 1000) (ht : ∀ n ∈ l, n.text.length ≤ 1000000) (hK : MkLib W) : Calls Tryd.prog 19 #[.agg #[.slice A l.length cap]] W fun e w' => e = .returned (.bool (kB l)) ∧ Below W.heap.size W w' := by
  refine zU (n := 12) Tryd.func19 rfl (by kernel_rfl) (by kernel_rfl) (ZO (Zb (.agg #[.slice A l.length cap]) (fun b1 => Zv (.bool false) (ZR (Zv (.pointer (some ⟨b1, 0, none⟩)) (Zl 0 ⟨b1, #[.slice A l.length cap], 25⟩ (off := 0) (.slice A l.length cap) (Zv (.int .i64 (l.length : Int)) ?_)))))))
  by_cases h1 : (l.length : Int) = 0
  · have hl0 : l = [] := List.eq_nil_of_length_eq_zero (by omega)
    exact Zd (p := (l.length : Int) = 0) true (decide_eq_true (h1)) (Zv (.bool true) (Zk (Zk (Zk (Zv (.bool true) (Zv (.bool true) (ZN (zG (ZF (.bool true) Tryd.results19 (fun w hO => ⟨by rw [hl0]; rfl, hO.below⟩))))))))))
  have hne : ¬ l = [] := fun q => h1 (by rw [q]; rfl)
  refine Zd (p := (l.length : Int) = 0) false (decide_eq_false (h1)) (Zv (.bool false) (Zl 0 ⟨b1, #[.slice A l.length cap], 25⟩ (off := 0) (.agg #[.slice A l.length cap]) (Zc (k := 20) (args := #[.agg #[.slice A l.length cap]]) (.string (mkS (z6 l))) (fun w hO => gY A cap l w (hv.on hO.below hO.size) hn ht (hK.on hO.below)) ?_)))
  by_cases h2 : ((z6 l) : List UInt8) = []
  · refine zM (.bool false) (by kernel_rfl) (xJ (a := (z6 l)) (b := ([])) rfl (by kernel_rfl) (by kernel_rfl) (decide_eq_true (h2))) ?_
    exact Zv (.bool false) (Zv (.bool false) (ZN (zG (ZF (.bool false) Tryd.results19 (fun w hO => ⟨by rw [p9 hne, decide_eq_true h2]; rfl, hO.below⟩)))))
  exact zM (.bool true) (by kernel_rfl) (xJ (a := (z6 l)) (b := ([])) rfl (by kernel_rfl) (by kernel_rfl) (decide_eq_false (h2))) (Zv (.bool true) (Zv (.bool true) (ZN (zG (ZF (.bool true) Tryd.results19 (fun w hO => ⟨by rw [p9 hne, decide_eq_false h2]; rfl, hO.below⟩))))))
end
section
set_option linter.unnecessarySimpa false
def qE (xs : List Int) (n : Nat) : List Int := xs ++ List.replicate (n - xs.length) 0
theorem vR {xs : List Int} {n : Nat} (h : xs.length ≤ n) : (qE xs n).length = n := by unfold qE; simp; omega
theorem padV_set {xs : List Int} {n : Nat} (h : xs.length < n) (z : Int) : (qE xs n).set xs.length z = qE (xs ++ [z]) n := by
  unfold qE
  obtain ⟨m, hm⟩ : ∃ m, n - xs.length = m + 1 := ⟨n - xs.length - 1, by omega⟩
  rw [hm, List.length_append, List.length_singleton, show n - (xs.length + 1) = m by omega, List.set_append_right _ _ (by omega)]
  simp [List.replicate_succ]
theorem dW {xs : List Int} {n j : Nat} (h : j < xs.length) : (qE xs n)[j]? = some (xs.getD j 0) := by
  unfold qE
  rw [List.getElem?_append_left h, List.getD_eq_getElem?_getD, List.getElem?_eq_getElem h]; rfl
theorem padV_all {xs : List Int} {n : Nat} (h : xs.length = n) : qE xs n = xs := by unfold qE; rw [h, Nat.sub_self]; simp
theorem bP : ∀ (t : Tr) (o : Nat), ∀ n ∈ t.enc o, 1 ≤ n.op ∧ n.op ≤ 4
  | .is k v, o, n, hn => by rw [Tr.enc, List.mem_singleton] at hn; rw [hn]; simp
  | .no x, o, n, hn => by
    rw [Tr.enc] at hn
    rcases List.mem_append.1 hn with hn | hn
    · exact bP x o n hn
    · rw [List.mem_singleton.1 hn]; simp
  | .both x y, o, n, hn => by
    rw [Tr.enc] at hn
    rcases List.mem_append.1 hn with hn | hn
    · rcases List.mem_append.1 hn with hn | hn
      · exact bP x o n hn
      · exact bP y _ n hn
    · rw [List.mem_singleton.1 hn]; simp
  | .one x y, o, n, hn => by
    rw [Tr.enc] at hn
    rcases List.mem_append.1 hn with hn | hn
    · rcases List.mem_append.1 hn with hn | hn
      · exact bP x o n hn
      · exact bP y _ n hn
    · rw [List.mem_singleton.1 hn]; simp
theorem dP (A : Option Addr) (cap : Nat) (e : Pf) (t : Tr) (l : List Nd) (W : World) (hl : l = t.enc 0) (hok : t.ok = true) (hv : Reads nC W W.heap.size A l) (hn : l.length ≤ 1000) : Calls Tryd.prog 32 #[.slice A l.length cap, pfV e] W fun x w' => ∃ v' ob', x = .returned v' ∧ SlZ v' (vlT e t) ob' ∧ Own [] W w' ob' := by
  have hlen : l.length = t.sz := by rw [hl, Tr.enc_len]
  have hpos := t.sz_pos
  refine zU (n := 78) Tryd.func32 rfl (by kernel_rfl) (by kernel_rfl) (ZO (Zb (pfV e) (fun b1 => Zv (.slice none 0 0) (ZR (Zv (.slice A l.length cap) (Zv (.int .i64 (l.length : Int)) ?_))))))
  obtain ⟨ii, e1, e2, e3, e4⟩ := int_made
  refine s_make (kl := .i64) (kc := .i64) (l := (l.length : Int)) (c := (l.length : Int)) (by kernel_rfl) rfl (by kernel_rfl) (by kernel_rfl) Tryd.underlying39 e1 e2 (by omega) (by omega) (by rw [e4]; omega) (by omega) (fun b => ?_)
  rw [show ((l.length : Nat) : Int).toNat = l.length from rfl, e3, Nat.mul_one]
  rw [show (Value.int .i64 0).cells = #[.int .i64 0] from rfl, pB]
  refine zH (L' := [⟨b, xI (List.replicate l.length 0), 3⟩, ⟨b1, (pfV e).cells, 33⟩]) rfl (Zv (.slice (some ⟨b, 0, none⟩) l.length l.length) (ZN (zF (ZO (Zv (.slice A l.length cap) (Zv (.int .i64 (l.length : Int)) (Zv (.int .i64 0) (zK (z8 ?_)))))))))
  refine zP (yB (L' := [⟨b, xI (qE [] l.length), 3⟩, ⟨b1, (pfV e).cells, 33⟩]) rfl (xT (fun L f m => ∃ (i : Nat) (xs : List Int) (j : Nat → Value), (i ≤ l.length ∧ xs = (vlT e t).take i) ∧ L = [⟨b, xI (qE xs l.length), 3⟩, ⟨b1, (pfV e).cells, 33⟩] ∧ f = qT j [(3, .pointer (some ⟨b1, 0, none⟩)), (5, .slice (some ⟨b, 0, none⟩) l.length l.length), (11, .slice A l.length cap), (12, .int .i64 (l.length : Int)), (13, .int .i64 (i : Int))] ∧ m = l.length - i) (l.length - 0) ⟨0, [], _, ⟨Nat.zero_le _, rfl⟩, rfl, ZU, rfl⟩ ?_))
  rintro L f m ⟨i, xs, j, hrel, rfl, rfl, rfl⟩
  obtain ⟨hi6, hxs⟩ := hrel
  refine zF (z7 ?_)
  by_cases h1 : (i : Int) < (l.length : Int)
  · have hil : i < l.length := by omega
    obtain ⟨bp, off, hA, hlt, hcell⟩ := hv (by omega)
    obtain ⟨n, hn9⟩ : ∃ n, l[i] = n := ⟨_, rfl⟩
    have hni : (t.enc 0)[i]? = some n := by rw [← hl, List.getElem?_eq_getElem hil, hn9]
    obtain ⟨hok1, hval⟩ := jB e t 0 [] hok rfl i n hni
    rw [Nat.zero_add] at hok1
    rw [List.nil_append, ← hxs] at hval
    have hxl : xs.length = i := by rw [hxs, List.length_take, zQ]; omega
    have hx2 : ∀ z ∈ xs, 0 ≤ z ∧ z ≤ 2 := fun z hz => dA e t z (List.mem_of_mem_take (hxs ▸ hz))
    have hop4 := bP t 0 n (List.mem_of_getElem? hni)
    have hgd : ∀ k, 0 ≤ xs.getD k 0 ∧ xs.getD k 0 ≤ 2 := fun k => by rw [List.getD_eq_getElem?_getD]; cases h : xs[k]? with | none => exact ⟨by decide, by decide⟩ | some z => exact hx2 z (List.mem_of_getElem? h)
    have hset : ∀ z : Int, (qE xs l.length).set i z = qE (xs ++ [z]) l.length := fun z => by have q := padV_set (xs := xs) (n := l.length) (by omega) z; rw [hxl] at q; exact q
    refine Zd (p := (i : Int) < (l.length : Int)) true (decide_eq_true (h1)) (ZN (zF (Zt (ZB (zF (zP (ZO (Zv (.int .i64 (i : Int)) ?_))))))))
    refine zM (.pointer (some ⟨bp, off + i * 5, none⟩)) (by kernel_rfl) (ZA (b := bp) (off := off) (c := cap) (n := l.length) (k := .i64) (j := (i : Int)) (e := 48) (sz := 5) hA) (Zo (ndV n) (a := ⟨bp, off + i * 5, none⟩) (fun w hO => Reads.load yX (hv.on hO.below hO.size) hA i 0 hil (by omega) _ (by rw [hn9]; kernel_rfl)) (Za (.agg #[.int .i64 0, .int .i64 0, .int .i64 0, .int .i64 0, .string ⟨#[]⟩]) (fun b2 => Zv (.int .i64 (i : Int)) (Zs 0 ⟨b2, #[.int .i64 0, .int .i64 0, .int .i64 0, .int .i64 0, .string ⟨#[]⟩], 48⟩ (off := 0) (ndV n) (ZR (Zv (.pointer (some ⟨b2, 0, none⟩)) (Zl 0 ⟨b2, (ndV n).cells, 48⟩ (off := 0) (.int .i64 n.op) (zK ?_))))))))
    refine z8 (zP (zF (z7 ?_)))
    by_cases h2 : (n.op : Int) = 1
    · obtain ⟨k, hk⟩ : ∃ k : Nat, n.key = (k : Int) := ⟨n.key.toNat, by have := (hok1.is h2).1; omega⟩
      have hk3 : k < 3 := by have := (hok1.is h2).2; omega
      have hz9 : (if e k = [] then 1 else if e k = n.text then 2 else 0) = g6 e n xs := by rw [dQ e n xs h2, show n.key.toNat = k by omega]
      refine Zd (p := (n.op : Int) = 1) true (decide_eq_true (h2)) (Zv (.bool true) (ZY (mZ 11 (by kernel_rfl) (by kernel_rfl) (by kernel_rfl) ?_)))
      simp only [List.take_succ_cons, List.take_zero, List.drop_succ_cons, List.drop_zero]
      refine Zw (.slice (some ⟨b, 0, none⟩) l.length l.length) (Zw (.int .i64 (i : Int)) (Zw (.pointer (some ⟨b2, 3, none⟩)) (Zm 0 ⟨b2, (ndV n).cells, 48⟩ (off := 3) (.int .i64 n.key) (Zw (.pointer (some ⟨b1, 0, none⟩)) (yQ (.pointer (some ⟨b1, k, none⟩)) (by kernel_rfl) (xK (b := b1) (off := 0) (k := .i64) (j := n.key) (n := 3) (e := 9) (sz := 1) rfl (by kernel_rfl) (by kernel_rfl) (by kernel_rfl) (by kernel_rfl) (by omega) (by omega) (by omega)) (j8 2 ⟨b1, (pfV e).cells, 33⟩ (off := k) (.string (mkS (e k))) (by kernel_rfl) rfl (by kernel_rfl) (by kernel_rfl) (wW e k hk3) (Zw (.pointer (some ⟨b2, 4, none⟩)) (Zm 0 ⟨b2, (ndV n).cells, 48⟩ (off := 4) (.string (mkS n.text)) (Zq (k := 58) (args := #[.string (mkS (e k)), .string (mkS n.text)]) (.int .i64 (if e k = [] then 1 else if e k = n.text then 2 else 0)) (fun w _ => cmp10_any (e k) n.text w) (yQ (.pointer (some ⟨b, i, none⟩)) (by kernel_rfl) (ZA (b := b) (off := 0) (c := l.length) (n := l.length) (k := .i64) (j := (i : Int)) (e := 3) (sz := 1) rfl) (yU ?_)))))))))))
      exact kV 1 ⟨b, xI (qE xs l.length), 3⟩ (off := i) (.int .i64 (if e k = [] then 1 else if e k = n.text then 2 else 0)) 1 (by kernel_rfl) rfl rfl (by kernel_rfl) (by kernel_rfl) (by kernel_rfl) (by kernel_rfl) (by kernel_rfl) (by show _ + 1 ≤ (xI _).size; rw [gZ, vR (by omega)]; omega) (by kernel_rfl) (zH (L' := [⟨b2, (ndV n).cells, 48⟩, ⟨b, xI (qE (xs ++ [g6 e n xs]) l.length), 3⟩, ⟨b1, (pfV e).cells, 33⟩]) (by rw [← hz9, ← hset, ← vV (by rw [vR (by omega)]; omega)]; rfl) (zK (zJ (zJ (z8 (z7 (Zu (k := .i64) (((i + 1 : Nat) : Int)) (IntWalk.i64_in _ (by omega)) (Zv (.int .i64 ((i + 1 : Nat) : Int)) (zK (xF (L' := [⟨b, xI (qE (xs ++ [g6 e n xs]) l.length), 3⟩, ⟨b1, (pfV e).cells, 33⟩]) (fun w hO => hO.sublist (by simp)) (zS (m' := l.length - (i + 1)) (by omega) ⟨i + 1, (xs ++ [g6 e n xs]), _, ⟨by omega, by rw [List.take_add_one, hval, ← hxs]; rfl⟩, rfl, ZU, rfl⟩)))))))))))
    obtain ⟨ka, hka, ea, ean, eav⟩ := m8 (l := xs) (hok1.a h2).1 (by rw [hxl]; exact (hok1.a h2).2)
    have hga := hgd ka
    refine Zd (p := (n.op : Int) = 1) false (decide_eq_false (h2)) (Zv (.bool false) (ZX (zF (z7 ?_))))
    by_cases h3 : (n.op : Int) = 2
    · have hz9 : 2 - xs.getD ka 0 = g6 e n xs := by rw [mH e n xs h3, ean]
      refine Zd (p := (n.op : Int) = 2) true (decide_eq_true (h3)) (Zv (.bool true) (ZY (z7 (Zv (.slice (some ⟨b, 0, none⟩) l.length l.length) (Zv (.int .i64 (i : Int)) (Zv (.slice (some ⟨b, 0, none⟩) l.length l.length) (Zv (.pointer (some ⟨b2, 1, none⟩)) (Zl 0 ⟨b2, (ndV n).cells, 48⟩ (off := 1) (.int .i64 n.a) (zM (.pointer (some ⟨b, ka, none⟩)) (by kernel_rfl) (ZA (b := b) (off := 0) (c := l.length) (n := l.length) (k := .i64) (j := n.a) (e := 3) (sz := 1) rfl) ?_)))))))))
      refine qH 1 ⟨b, xI (qE xs l.length), 3⟩ (off := ka) (.int .i64 (xs.getD ka 0)) (by kernel_rfl) rfl (by kernel_rfl) (by kernel_rfl) (vE (dW hka)) (Zu (k := .i64) (2 - xs.getD ka 0) (IntWalk.i64_in _ (by omega)) (zM (.pointer (some ⟨b, i, none⟩)) (by kernel_rfl) (ZA (b := b) (off := 0) (c := l.length) (n := l.length) (k := .i64) (j := (i : Int)) (e := 3) (sz := 1) rfl) (kV 1 ⟨b, xI (qE xs l.length), 3⟩ (off := i) (.int .i64 (2 - xs.getD ka 0)) 1 (by kernel_rfl) rfl rfl (by kernel_rfl) (by kernel_rfl) (by kernel_rfl) (by kernel_rfl) (by kernel_rfl) (by show _ + 1 ≤ (xI _).size; rw [gZ, vR (by omega)]; omega) (by kernel_rfl) (zH (L' := [⟨b2, (ndV n).cells, 48⟩, ⟨b, xI (qE (xs ++ [g6 e n xs]) l.length), 3⟩, ⟨b1, (pfV e).cells, 33⟩]) (by rw [← hz9, ← hset, ← vV (by rw [vR (by omega)]; omega)]; rfl) (zK (zJ (zJ (z8 (z7 (Zu (k := .i64) (((i + 1 : Nat) : Int)) (IntWalk.i64_in _ (by omega)) (Zv (.int .i64 ((i + 1 : Nat) : Int)) ?_)))))))))))
      exact zK (xF (L' := [⟨b, xI (qE (xs ++ [g6 e n xs]) l.length), 3⟩, ⟨b1, (pfV e).cells, 33⟩]) (fun w hO => hO.sublist (by simp)) (zS (m' := l.length - (i + 1)) (by omega) ⟨i + 1, (xs ++ [g6 e n xs]), _, ⟨by omega, by rw [List.take_add_one, hval, ← hxs]; rfl⟩, rfl, ZU, rfl⟩))
    obtain ⟨kb, hkb, eb, ebn, ebv⟩ := m8 (l := xs) (hok1.b h2 h3).1 (by rw [hxl]; exact (hok1.b h2 h3).2)
    refine Zd (p := (n.op : Int) = 2) false (decide_eq_false (h3)) (Zv (.bool false) (ZX (zF (z7 ?_))))
    by_cases h4 : (n.op : Int) = 3
    · have hz9 : min (xs.getD ka 0) (xs.getD kb 0) = g6 e n xs := by rw [mI e n xs h4, ean, ebn]
      refine Zd (p := (n.op : Int) = 3) true (decide_eq_true (h4)) (Zv (.bool true) (ZY (mZ 14 (by kernel_rfl) (by kernel_rfl) (by kernel_rfl) ?_)))
      simp only [List.take_succ_cons, List.take_zero, List.drop_succ_cons, List.drop_zero]
      refine Zw (.slice (some ⟨b, 0, none⟩) l.length l.length) (Zw (.int .i64 (i : Int)) (Zw (.slice (some ⟨b, 0, none⟩) l.length l.length) (Zw (.pointer (some ⟨b2, 1, none⟩)) (Zm 0 ⟨b2, (ndV n).cells, 48⟩ (off := 1) (.int .i64 n.a) (yQ (.pointer (some ⟨b, ka, none⟩)) (by kernel_rfl) (ZA (b := b) (off := 0) (c := l.length) (n := l.length) (k := .i64) (j := n.a) (e := 3) (sz := 1) rfl) (j8 1 ⟨b, xI (qE xs l.length), 3⟩ (off := ka) (.int .i64 (xs.getD ka 0)) (by kernel_rfl) rfl (by kernel_rfl) (by kernel_rfl) (vE (dW hka)) (Zw (.slice (some ⟨b, 0, none⟩) l.length l.length) (Zw (.pointer (some ⟨b2, 2, none⟩)) (Zm 0 ⟨b2, (ndV n).cells, 48⟩ (off := 2) (.int .i64 n.b) (yQ (.pointer (some ⟨b, kb, none⟩)) (by kernel_rfl) (ZA (b := b) (off := 0) (c := l.length) (n := l.length) (k := .i64) (j := n.b) (e := 3) (sz := 1) rfl) (j8 1 ⟨b, xI (qE xs l.length), 3⟩ (off := kb) (.int .i64 (xs.getD kb 0)) (by kernel_rfl) rfl (by kernel_rfl) (by kernel_rfl) (vE (dW hkb)) ?_)))))))))))
      refine yQ (.int .i64 (min (xs.getD ka 0) (xs.getD kb 0 : Int))) (by kernel_rfl) (mP (k := .i64) (q := .i64) (i := xs.getD ka 0) (j := xs.getD kb 0) rfl (by kernel_rfl) (by kernel_rfl)) (yQ (.pointer (some ⟨b, i, none⟩)) (by kernel_rfl) (ZA (b := b) (off := 0) (c := l.length) (n := l.length) (k := .i64) (j := (i : Int)) (e := 3) (sz := 1) rfl) (yU (kV 1 ⟨b, xI (qE xs l.length), 3⟩ (off := i) (.int .i64 (min (xs.getD ka 0) (xs.getD kb 0 : Int))) 1 (by kernel_rfl) rfl rfl (by kernel_rfl) (by kernel_rfl) (by kernel_rfl) (by kernel_rfl) (by kernel_rfl) (by show _ + 1 ≤ (xI _).size; rw [gZ, vR (by omega)]; omega) (by kernel_rfl) (zH (L' := [⟨b2, (ndV n).cells, 48⟩, ⟨b, xI (qE (xs ++ [g6 e n xs]) l.length), 3⟩, ⟨b1, (pfV e).cells, 33⟩]) (by rw [← hz9, ← hset, ← vV (by rw [vR (by omega)]; omega)]; rfl) (zK (zJ (zJ (z8 (z7 (Zu (k := .i64) (((i + 1 : Nat) : Int)) (IntWalk.i64_in _ (by omega)) (Zv (.int .i64 ((i + 1 : Nat) : Int)) ?_)))))))))))
      exact zK (xF (L' := [⟨b, xI (qE (xs ++ [g6 e n xs]) l.length), 3⟩, ⟨b1, (pfV e).cells, 33⟩]) (fun w hO => hO.sublist (by simp)) (zS (m' := l.length - (i + 1)) (by omega) ⟨i + 1, (xs ++ [g6 e n xs]), _, ⟨by omega, by rw [List.take_add_one, hval, ← hxs]; rfl⟩, rfl, ZU, rfl⟩))
    refine Zd (p := (n.op : Int) = 3) false (decide_eq_false (h4)) (Zv (.bool false) (ZX (zF (z7 ?_))))
    by_cases h5 : (n.op : Int) = 4
    · have hz9 : max (xs.getD ka 0) (xs.getD kb 0) = g6 e n xs := by rw [mJ e n xs h2 h3 h4, ean, ebn]
      refine Zd (p := (n.op : Int) = 4) true (decide_eq_true (h5)) (Zv (.bool true) (ZY (mZ 14 (by kernel_rfl) (by kernel_rfl) (by kernel_rfl) ?_)))
      simp only [List.take_succ_cons, List.take_zero, List.drop_succ_cons, List.drop_zero]
      refine Zw (.slice (some ⟨b, 0, none⟩) l.length l.length) (Zw (.int .i64 (i : Int)) (Zw (.slice (some ⟨b, 0, none⟩) l.length l.length) (Zw (.pointer (some ⟨b2, 1, none⟩)) (Zm 0 ⟨b2, (ndV n).cells, 48⟩ (off := 1) (.int .i64 n.a) (yQ (.pointer (some ⟨b, ka, none⟩)) (by kernel_rfl) (ZA (b := b) (off := 0) (c := l.length) (n := l.length) (k := .i64) (j := n.a) (e := 3) (sz := 1) rfl) (j8 1 ⟨b, xI (qE xs l.length), 3⟩ (off := ka) (.int .i64 (xs.getD ka 0)) (by kernel_rfl) rfl (by kernel_rfl) (by kernel_rfl) (vE (dW hka)) (Zw (.slice (some ⟨b, 0, none⟩) l.length l.length) (Zw (.pointer (some ⟨b2, 2, none⟩)) (Zm 0 ⟨b2, (ndV n).cells, 48⟩ (off := 2) (.int .i64 n.b) (yQ (.pointer (some ⟨b, kb, none⟩)) (by kernel_rfl) (ZA (b := b) (off := 0) (c := l.length) (n := l.length) (k := .i64) (j := n.b) (e := 3) (sz := 1) rfl) (j8 1 ⟨b, xI (qE xs l.length), 3⟩ (off := kb) (.int .i64 (xs.getD kb 0)) (by kernel_rfl) rfl (by kernel_rfl) (by kernel_rfl) (vE (dW hkb)) ?_)))))))))))
      refine yQ (.int .i64 (max (xs.getD ka 0) (xs.getD kb 0))) (by kernel_rfl) (tL (k := .i64) (q := .i64) (i := xs.getD ka 0) (j := xs.getD kb 0) rfl (by kernel_rfl) (by kernel_rfl)) (yQ (.pointer (some ⟨b, i, none⟩)) (by kernel_rfl) (ZA (b := b) (off := 0) (c := l.length) (n := l.length) (k := .i64) (j := (i : Int)) (e := 3) (sz := 1) rfl) (yU (kV 1 ⟨b, xI (qE xs l.length), 3⟩ (off := i) (.int .i64 (max (xs.getD ka 0) (xs.getD kb 0))) 1 (by kernel_rfl) rfl rfl (by kernel_rfl) (by kernel_rfl) (by kernel_rfl) (by kernel_rfl) (by kernel_rfl) (by show _ + 1 ≤ (xI _).size; rw [gZ, vR (by omega)]; omega) (by kernel_rfl) (zH (L' := [⟨b2, (ndV n).cells, 48⟩, ⟨b, xI (qE (xs ++ [g6 e n xs]) l.length), 3⟩, ⟨b1, (pfV e).cells, 33⟩]) (by rw [← hz9, ← hset, ← vV (by rw [vR (by omega)]; omega)]; rfl) (zK (zJ (zJ (z8 (z7 (Zu (k := .i64) (((i + 1 : Nat) : Int)) (IntWalk.i64_in _ (by omega)) (Zv (.int .i64 ((i + 1 : Nat) : Int)) ?_)))))))))))
      exact zK (xF (L' := [⟨b, xI (qE (xs ++ [g6 e n xs]) l.length), 3⟩, ⟨b1, (pfV e).cells, 33⟩]) (fun w hO => hO.sublist (by simp)) (zS (m' := l.length - (i + 1)) (by omega) ⟨i + 1, (xs ++ [g6 e n xs]), _, ⟨by omega, by rw [List.take_add_one, hval, ← hxs]; rfl⟩, rfl, ZU, rfl⟩))
    exact absurd (show n.op ≤ 4 ∧ 1 ≤ n.op from ⟨hop4.2, hop4.1⟩) (by omega)
  have hall : xs = vlT e t := by rw [hxs, List.take_of_length_le (by rw [zQ, ← hlen]; omega)]
  have hpa : qE xs l.length = vlT e t := by rw [padV_all (by rw [hall, zQ, hlen]), hall]
  refine Zd (p := (i : Int) < (l.length : Int)) false (decide_eq_false (h1)) (ZN (zF (Zf (xN (yG (zY (zZ (z8 (zF (z7 ?_))))))))))
  exact Zv (.slice (some ⟨b, 0, none⟩) l.length l.length) (Zv (.slice (some ⟨b, 0, none⟩) l.length l.length) (ZN (zG (ZF (.slice (some ⟨b, 0, none⟩) l.length l.length) Tryd.results32 (fun w hO => ⟨_, [⟨b, xI (qE xs l.length), 3⟩], rfl, by rw [hpa]; exact intA_sl (by rw [zQ, hlen]) (by unfold maxLen; omega), hO.sublist (by simp)⟩)))))
theorem x2 (A : Option Addr) (cap : Nat) (l : List Nd) (e : Pf) (W : World) (hv : Reads nC W W.heap.size A l) (hn : l.length ≤ 1000) (ht : ∀ n ∈ l, n.text.length ≤ 1000000) (he : PfS e) (hK : MkLib W) : Calls Tryd.prog 24 #[.agg #[.slice A l.length cap], pfV e] W fun x w' => x = .returned (.int .i64 (zL l e)) ∧ Below W.heap.size W w' := by
  refine zU (n := 27) Tryd.func24 rfl (by kernel_rfl) (by kernel_rfl) (ZO (Zb (.agg #[.slice A l.length cap]) (fun b1 => Zb (pfV e) (fun b2 => Zv (.int .i64 0) (ZN (zF (ZO (Zl 1 ⟨b1, #[.slice A l.length cap], 25⟩ (off := 0) (.agg #[.slice A l.length cap]) ?_))))))))
  refine Zc (k := 19) (args := #[.agg #[.slice A l.length cap]]) (.bool (kB l)) (fun w hO => gC A cap l w (hv.on hO.below hO.size) hn ht (hK.on hO.below)) ?_
  cases h1 : kB l with
  | true =>
    refine Zv (.bool false) (Zv (.bool false) (Zl 0 ⟨b2, (pfV e).cells, 33⟩ (off := 0) (pfV e) (Zc (k := 43) (args := #[pfV e]) (.bool (vQ e)) (fun w hO => nO e w he) ?_)))
    cases h2 : vQ e with
    | true =>
      refine Zv (.bool false) (Zv (.bool false) (ZX (ZB (zF (ZO (Zv (.pointer (some ⟨b1, 0, none⟩)) (Zl 1 ⟨b1, #[.slice A l.length cap], 25⟩ (off := 0) (.slice A l.length cap) ?_)))))))
      refine Zv (.int .i64 (l.length : Int)) ?_
      by_cases h3 : (l.length : Int) = 0
      · have hl0 : l = [] := List.eq_nil_of_length_eq_zero (by omega)
        refine Zd (p := (l.length : Int) = 0) true (decide_eq_true (h3)) (ZY (ZO (Zv (.int .i64 2) (ZN (zG (z5 (ZF (.int .i64 2) Tryd.results24 ?_)))))))
        exact fun w hO => ⟨by rw [show zL l e = 2 from by rw [hl0]; exact bN h2], hO.below⟩
      obtain ⟨t, hok, hl, hsz, htx⟩ := (kG h1).resolve_left (fun q => h3 (by rw [q]; rfl))
      have hlen : l.length = t.sz := by rw [hl, Tr.enc_len]
      have hpos := t.sz_pos
      have hvl := zQ e t
      refine Zd (p := (l.length : Int) = 0) false (decide_eq_false (h3)) (ZX (ZB (zF (m7 (by kernel_rfl) (ZT 0 [] _ (.pointer (some ⟨b1, 0, none⟩)) (zA zB) rfl (ZL 1 [] _ 1 ⟨b1, #[.slice A l.length cap], 25⟩ (off := 0) (.slice A l.length cap) (zA zB) rfl rfl (ZL 2 [] _ 0 ⟨b2, (pfV e).cells, 33⟩ (off := 0) (pfV e) (zA zB) rfl rfl (ZT 4 [] _ (.pointer (some ⟨b1, 0, none⟩)) (zA zB) rfl ?_))))))))
      refine ZL 5 [] _ 1 ⟨b1, #[.slice A l.length cap], 25⟩ (off := 0) (.slice A l.length cap) (zA zB) rfl rfl (ZT 6 [] _ (.int .i64 (l.length : Int)) (zA zB) rfl (vZ (k := .i64) 7 _ ((l.length : Int) - 1) rfl (by kernel_rfl) (by kernel_rfl) (by kernel_rfl) (zA zB) (fun w hO => Own.sub [] hO) (by kernel_rfl) (fun _ => by kernel_rfl) (IntWalk.i64_in _ (by omega)) (yK 3 (by kernel_rfl) (vW _ (k := 32) (args := #[.slice A l.length cap, pfV e]) (fun v' L' => ∃ ob', L' = ob' ++ ([] ++ ([⟨b2, (pfV e).cells, 33⟩, ⟨b1, #[.slice A l.length cap], 25⟩])) ∧ SlZ v' (vlT e t) ob') rfl (by kernel_rfl) (fun _ => by kernel_rfl) (fun w hO => (dP A cap e t l w hl hok (hv.on hO.below hO.size) hn).mono fun e w' ⟨v', ob', k1, k2, k3⟩ => ⟨v', _, k1, ⟨ob', rfl, k2⟩, Own.joinN hO k3⟩) (fun v' L' ⟨ob', e, _⟩ w hO => by subst e; exact Own.sub [] (Own.sub ob' hO)) (fun vs L2 hv2 => ?_)))))
      obtain ⟨ov, rfl, hvs⟩ := hv2
      obtain ⟨V, cv, rfl⟩ := Sl.form hvs
      obtain ⟨g, hg, hcv⟩ := Sl.at0 hvs (by omega)
      refine yT (L' := (ov ++ ([] : List Blk)) ++ ([⟨b2, (pfV e).cells, 33⟩, ⟨b1, #[.slice A l.length cap], 25⟩])) (List.append_assoc _ _ _).symm (gU 8 (ov ++ ([] : List Blk)) _ (.pointer (some ⟨g, 0 + (t.sz - 1) * 1, none⟩)) rfl (by kernel_rfl) (by kernel_rfl) (by kernel_rfl) (zA zB) (by kernel_rfl) (fun w _ => xY (b := g) (off := 0) (c := cv) (n := (vlT e t).length) (k := .i64) (j := (l.length : Int) - 1) (e := 3) (sz := 1) rfl (by kernel_rfl) hg (by kernel_rfl) (by kernel_rfl) (by kernel_rfl) (by omega) (by omega) (by omega) w) (yK 9 (by kernel_rfl) (gO (ov ++ ([] : List Blk)) _ (.int .i64 (evT e t)) rfl (by kernel_rfl) (fun w hO => yF (a := ⟨g, 0 + (t.sz - 1) * 1, none⟩) rfl (by kernel_rfl) ((fun w hO => Reads.load x7 (Sl.reads hvs rfl hO (fun x hx => by simp [hx])) hg (t.sz - 1) 0 (by omega) (by omega) _ (by rw [show (vlT e t)[t.sz - 1]'(by omega) = evT e t from by have q := vN e t; rw [List.getElem?_eq_getElem (by omega)] at q; exact Option.some.inj q]; kernel_rfl)) w hO)) ?_)))
      exact ZT 10 (ov ++ ([] : List Blk)) _ (.int .i64 (evT e t)) (zA zB) rfl (xR (by kernel_rfl) (z8 (zG (ZF (.int .i64 (evT e t)) Tryd.results24 (fun w hO => ⟨by rw [show zL l e = evT e t from by rw [hl]; exact xM hok (by unfold Tr.fit; simp; omega) h2], hO.below⟩)))))
    | false =>
      refine Zv (.bool true) (Zv (.bool true) (ZY (ZO (Zv (.int .i64 0) (ZN (zG (z5 ?_)))))))
      exact ZF (.int .i64 0) Tryd.results24 (fun w hO => ⟨by rw [w7 (.inr h2)], hO.below⟩)
  | false =>
    refine Zv (.bool true) (Zv (.bool true) (Zk (Zk (Zk (Zv (.bool true) (ZY (ZO (Zv (.int .i64 0) ?_))))))))
    exact ZN (zG (z5 (ZF (.int .i64 0) Tryd.results24 (fun w hO => ⟨by rw [w7 (.inl h1)], hO.below⟩))))
end
section
theorem infoByte9 : (Tryd.prog.info? 5).map (fun i => (i.zero.map (·.cells.size), i.size, i.bytes)) = some (some 1, 1, 1) := by kernel_rfl
theorem byte_info : ∃ i z, Tryd.prog.info? 5 = some i ∧ i.zero = some z ∧ i.size = 1 ∧ z.cells.size = 1 ∧ i.bytes = 1 := by
  have h := infoByte9
  cases hi : Tryd.prog.info? 5 with
  | none => rw [hi] at h; cases h
  | some i =>
    rw [hi] at h
    simp only [Option.map_some, Option.some.injEq, Prod.mk.injEq] at h
    cases hz : i.zero with
    | none => rw [hz] at h; simp at h
    | some z => rw [hz] at h; simp at h; exact ⟨i, z, rfl, hz, h.2.1, h.1, h.2.2⟩
theorem empty_of {s : ByteArray} (h : (s.size : Int) = 0) : s = ⟨#[]⟩ := by
  have h2 : s.data.size = 0 := Int.ofNat.inj h
  exact ByteArray.ext (Array.eq_empty_of_size_eq_zero h2)
theorem sclone_any (s : ByteArray) (w : World) (hs : s.size ≤ 281474976710656) :
    Calls Tryd.prog 75 #[.string s] w fun e w' => e = .returned (.string s) ∧ Below w.heap.size w w' := by
  refine zU (n := 18) Tryd.func75 rfl (by kernel_rfl) (by kernel_rfl) (ZO (Zv (.string ⟨#[]⟩) (ZN (zF (ZO (Zv (.string s) (Zv (.int .i64 ((s).size)) ?_)))))))
  by_cases h1 : ((s).size : Int) = 0
  · refine x8 (p := ((s).size : Int) = 0) true (by kernel_rfl) (fun _ => by kernel_rfl) (decide_eq_true (h1)) ?_
    exact ZY (ZO (Zv (.string ⟨#[]⟩) (ZN (zG (z5 (ZF (.string ⟨#[]⟩) Tryd.results75 (fun w hO => ⟨by rw [empty_of (s := s) (by assumption)], hO.below⟩)))))))
  refine Zd (p := ((s).size : Int) = 0) false (decide_eq_false (h1)) (ZX (ZB (ZO (Zv (.string s) (Zv (.int .i64 ((s).size)) ?_)))))
  obtain ⟨i, z, e1, e2, e3, e4, e5⟩ := byte_info
  refine s_make (kl := .i64) (kc := .i64) (l := (s.size : Int)) (c := (s.size : Int)) (by kernel_rfl) rfl (by kernel_rfl) (by kernel_rfl) Tryd.underlying90 e1 e2 (by omega) (by omega) (by rw [e5]; omega) (by omega) (fun b => ?_)
  rw [show ((s.size : Nat) : Int).toNat = s.size from rfl]
  obtain ⟨cs, hcs⟩ : ∃ cs, cs = madeCells z.cells (s.size * i.size) := ⟨_, rfl⟩
  have hcz : cs.size = s.size := by rw [hcs, size_madeCells, e3]; simp
  rw [← hcs]
  refine Zv (.slice (some ⟨b, 0, none⟩) s.size s.size) (ZR (Zv (.slice (some ⟨b, 0, none⟩) s.size s.size) (Zv (.string s) (s_copyS (b := b) (cap := s.size) (s := s) (cs := cs) (by kernel_rfl) rfl (by kernel_rfl) (by kernel_rfl) Tryd.underlying90 (by kernel_rfl) hcz (ZN (zF (z7 ?_)))))))
  exact Zv (.slice (some ⟨b, 0, none⟩) s.size s.size) (zM (.pointer (some ⟨b, 0, none⟩)) (by kernel_rfl) (ZV (b := b) (off := 0) (n := s.size) (c := s.size) (k := .i64) (j := 0) (e := 5) (sz := 1)) (Zv (.slice (some ⟨b, 0, none⟩) s.size s.size) (Zv (.int .i64 (s.size : Int)) (s_ustr (s := s) (by kernel_rfl) rfl (by kernel_rfl) (by kernel_rfl) Tryd.underlying104 (by unfold Program.cellsOf; simp [e1, e3]) (by omega) (by omega) (Zv (.string s) (ZN (zG (ZF (.string s) Tryd.results75 (fun w hO => ⟨rfl, hO.below⟩)))))))))
theorem pE (s : ByteArray) (w : World) (hs : s.size ≤ 281474976710656) :
    Calls Tryd.prog 54 #[.string s] w fun e w' => e = .returned (.string s) ∧ Below w.heap.size w w' := by
  refine zU (n := 5) Tryd.func54 rfl (by kernel_rfl) (by kernel_rfl) (ZO (Zv (.string ⟨#[]⟩) (ZR (Zv (.string s) (Zc (k := 75) (args := #[.string s]) (.string s) (fun w _ => sclone_any s w hs) (Zv (.string s) (zK ?_)))))))
  exact z8 (zG (ZF (.string s) Tryd.results54 (fun w hO => ⟨rfl, hO.below⟩)))
end
end Go.Proofs.YthanpjfmlipdnaaDoor
