/-
  Slices of bytes and of 64-bit numbers, how they lie; string(b). No condition of its own but the bounds that each theorem names.
-/
import Derived.Test.YtjgmmeienchfnaaRx11
import Derived.Test.YtjgmmeienchfnaaRx22
import Derived.Test.YtjgmmeienchfnaaRx13
import Derived.Test.YtjgmmeienchfnaaSplitR
import Derived.Test.YtjgmmeienchfnaaD16
import Derived.Laws.IdiomStrings
namespace Go.Proofs.Ytjgmmeienchfnaa
open Go.RowKit
set_option linter.unusedVariables false
set_option linter.unusedSimpArgs false

def u8C (b : UInt8) : List Value := [.int .u8 (b.toNat : Int)]
def u64C (n : UInt64) : List Value := [.int .u64 (n.toNat : Int)]
theorem u8C_len (b : UInt8) : (u8C b).length = 1 := rfl
theorem u64C_len (n : UInt64) : (u64C n).length = 1 := rfl
def SlB (v : Value) (l : List UInt8) (ob : List Blk) : Prop := Sl 5 1 v l.length (l.flatMap u8C) ob
def SlU (v : Value) (l : List UInt64) (ob : List Blk) : Prop := Sl 24 1 v l.length (l.flatMap u64C) ob
theorem u8Info : (Try.prog.info? 5).map (fun i => (i.zero.map (·.cells.size), i.size, i.bytes)) = some (some 1, 1, 1) := by kernel_rfl
theorem u8_info : ∃ i z, Try.prog.info? 5 = some i ∧ i.zero = some z ∧ i.size = 1 ∧ z.cells.size = 1 ∧ i.bytes = 1 := by
  have h := u8Info
  cases hi : Try.prog.info? 5 with
  | none => rw [hi] at h; cases h
  | some i =>
    rw [hi] at h
    simp only [Option.map_some, Option.some.injEq, Prod.mk.injEq] at h
    cases hz : i.zero with
    | none => rw [hz] at h; simp at h
    | some z => rw [hz] at h; simp at h; exact ⟨i, z, rfl, hz, h.2.1, h.1, h.2.2⟩
theorem u64Info : (Try.prog.info? 24).map (fun i => (i.zero.map (·.cells.size), i.size, i.bytes)) = some (some 1, 1, 8) := by kernel_rfl
theorem u64_info : ∃ i z, Try.prog.info? 24 = some i ∧ i.zero = some z ∧ i.size = 1 ∧ z.cells.size = 1 ∧ i.bytes = 8 := by
  have h := u64Info
  cases hi : Try.prog.info? 24 with
  | none => rw [hi] at h; cases h
  | some i =>
    rw [hi] at h
    simp only [Option.map_some, Option.some.injEq, Prod.mk.injEq] at h
    cases hz : i.zero with
    | none => rw [hz] at h; simp at h
    | some z => rw [hz] at h; simp at h; exact ⟨i, z, rfl, hz, h.2.1, h.1, h.2.2⟩
theorem Sl.to9 {T : TypeId} {sz : Nat} {v : Value} {n n' : Nat} {xs xs' : List Value} {ob : List Blk} (h : Sl T sz v n xs ob) (e : n = n') (e' : xs = xs') : Sl T sz v n' xs' ob := by subst e; subst e'; exact h
theorem Sl.form9 {T sz n : Nat} {v : Value} {xs : List Value} {ob : List Blk} (h : Sl T sz v n xs ob) : ∃ A cap, v = .slice A n cap := by
  rcases h.2 with ⟨h1, h2, _⟩ | ⟨g, cap, cur, h1, _⟩
  · exact ⟨none, 0, by rw [h1, h2]⟩
  · exact ⟨_, _, h1⟩
theorem SlB.add {u : Value} {l : List UInt8} {x : UInt8} {ob : List Blk} (h : Sl 5 1 u (l.length + 1) (l.flatMap u8C ++ u8C x) ob) : SlB u (l ++ [x]) ob :=
  Sl.to9 h (by simp) (by simp)
theorem SlU.add {u : Value} {l : List UInt64} {x : UInt64} {ob : List Blk} (h : Sl 24 1 u (l.length + 1) (l.flatMap u64C ++ u64C x) ob) : SlU u (l ++ [x]) ob :=
  Sl.to9 h (by simp) (by simp)
theorem u8_flat (l : List UInt8) : l.flatMap u8C = l.map fun b => .int .u8 (b.toNat : Int) := by
  induction l with
  | nil => rfl
  | cons b l ih => rw [List.flatMap_cons, List.map_cons, ih]; rfl
theorem mkS_sz9 (t : List UInt8) : (mkS t).size = t.length := by unfold mkS; simp [ByteArray.size]
theorem mk_get9 (s : List UInt8) (k : Nat) (h : k < s.length) : (mkS s)[k]? = some s[k] := by
  have h1 : k < (mkS s).size := by rw [mkS_sz9]; exact h
  rw [getElem?_pos (mkS s) k h1]
  congr 1
section
variable {P : Program} {o : Oper}
theorem run_stridx9 {ρ : Operand → Value} {t : TypeId} {x y : Operand} {s : List UInt8} {k : IntKind} {j : Int} (ho : o.op = .index t x y) (hx : ρ x = .string (mkS s)) (hy : ρ y = .int k j)
    (hu : P.underlying t = some .string) (h0 : 0 ≤ j) (h1 : j.toNat < s.length) (w : World) : (execOp ρ o).run P w = .ok (.value (.int .u8 (s[j.toNat].toNat : Int))) w := by
  unfold execOp
  have e := mk_get9 s j.toNat h1
  simp [ho, hx, hy, Instr.index, Sem.run_bind, asIntOf, run_underlying hu, h0, e]
theorem run_bytes {src dst e : TypeId} {ρ : Operand → Value} {x : Operand} {A : Option Addr} {cap : Nat} {l : List UInt8} {w : World} (ho : o.op = .convert src dst x) (hx : ρ x = .slice A l.length cap) (hs : P.underlying src = some (.slice e)) (he : P.underlying e = some (.int .u8)) (hd : P.underlying dst = some .string) (h0 : 0 < l.length) {B : Nat} (hv : Reads u8C w B A l) : (execOp ρ o).run P w = .ok (.value (.string (mkS l))) w := by
  obtain ⟨b, off, rfl, _, hcell⟩ := hv h0
  have hr := run_convert_bytes_back (P := P) w src dst e ⟨b, off, none⟩ cap l hs he hd (fun j hj => by
    rw [add_off]
    refine hcell j _ ?_
    rw [u8_flat, List.getElem?_map, List.getElem?_eq_getElem hj]; rfl)
  unfold execOp
  simp only [ho, hx, Sem.run_bind, Sem.run_pure, Result.andThen_ok, hr]
  rfl
/-- A number of another kind, where it fits. -/
theorem run_toint {src dst : TypeId} {ρ : Operand → Value} {a : Operand} {k q : IntKind} {x : Int} (ho : o.op = .convert src dst a) (hx : ρ a = .int k x) (hs : (P.underlying src).isSome = true) (hd : P.underlying dst = some (.int q)) (hw : q.wrap x = x) (w : World) : (execOp ρ o).run P w = .ok (.value (.int q x)) w := by
  have hk : P.intKind dst = q := by unfold Program.intKind; rw [hd]
  have h := run_convert_int (P := P) w src dst k x hs (by rw [hk]; exact hd)
  rw [hk, hw] at h
  unfold execOp
  simp only [ho, hx, Sem.run_bind, h, Sem.run_pure, Result.andThen_ok]
end
theorem wrap_u64 {x : Int} (h0 : 0 ≤ x) (h1 : x < 18446744073709551616) : IntKind.u64.wrap x = x := by
  obtain ⟨n, rfl⟩ := Int.eq_ofNat_of_zero_le h0
  have h := wrap64_nat n
  rw [show n % 18446744073709551616 = n from by omega] at h
  exact h
theorem wrap_i64 {x : Int} (h0 : 0 ≤ x) (h1 : x < 9223372036854775808) : IntKind.i64.wrap x = x := by
  simp only [IntKind.wrap, IntKind.bits, IntKind.signed]
  first | omega | (simp; omega)
/-! ### Bits, as numbers -/
theorem shr_nat (x : UInt64) {n : Nat} (hn : n < 64) : (x >>> UInt64.ofNat n).toNat = x.toNat / 2 ^ n := by
  rw [UInt64.toNat_shiftRight, UInt64.toNat_ofNat', Nat.shiftRight_eq_div_pow, show n % 2 ^ 64 % 64 = n from by omega]
theorem nib_nat (x : UInt64) {i : Nat} (hi : i < 16) : ((x >>> UInt64.ofNat (4 * i)) &&& 15).toNat = x.toNat / 16 ^ i % 16 := by
  rw [UInt64.toNat_and, shr_nat x (by omega), show (2 : Nat) ^ (4 * i) = 16 ^ i from by rw [Nat.pow_mul], show (15 : UInt64).toNat = 2 ^ 4 - 1 from rfl, Nat.and_two_pow_sub_one_eq_mod]
theorem nib_add (n : UInt64) {d : Nat} (hd : d < 16) (h : n.toNat * 16 + d < 18446744073709551616) : (n <<< UInt64.ofNat 4 ||| UInt64.ofNat d).toNat = n.toNat * 16 + d := by
  rw [UInt64.toNat_or, UInt64.toNat_shiftLeft, UInt64.toNat_ofNat', UInt64.toNat_ofNat', show 4 % 2 ^ 64 % 64 = 4 from rfl, show d % 2 ^ 64 = d from by omega, Nat.shiftLeft_eq, show n.toNat * 2 ^ 4 % 2 ^ 64 = n.toNat * 2 ^ 4 from by omega, show n.toNat * 2 ^ 4 = 2 ^ 4 * n.toNat from by omega, ← Nat.two_pow_add_eq_or_of_lt (by omega)]
/-! ### A literal of bytes that is converted to its own type: its block is marked; the walk begins anew behind it -/
theorem freeze_at (w : World) (b n : Nat) {cs : Array Value} {T : TypeId} (h : w.heap[b]? = some (.cells cs T)) : (w.freeze ⟨b, n, none⟩ 1).heap[b]? = some (.cells cs T (n, n + 1)) := by
  unfold World.freeze
  rw [if_neg (by decide)]
  show (w.heap.modify b _)[b]? = _
  rw [Array.getElem?_modify, if_pos rfl, h]
  rfl
theorem freeze_off (w : World) (b n k : Nat) (h : ¬ b = k) : (w.freeze ⟨b, n, none⟩ 1).heap[k]? = w.heap[k]? := by
  unfold World.freeze
  rw [if_neg (by decide)]
  show (w.heap.modify b _)[k]? = _
  rw [Array.getElem?_modify, if_neg h]
theorem freeze_same (w : World) (b n : Nat) : (w.freeze ⟨b, n, none⟩ 1).heap.size = w.heap.size := by
  unfold World.freeze
  rw [if_neg (by decide)]
  show (w.heap.modify b _).size = _
  exact Array.size_modify
section
variable {P : Program} {n0 : Nat} {ops : Array Oper} {W : World} {Q : Exit → Act → World → Prop} {rest : List Oper} {o : Oper} {L0 : List Blk} {f : Nat → Value}
theorem s_mark {src e T : TypeId} {x : Operand} {b n cap : Nat} {cs : Array Value} (hw : want ops n0 f o = true) (ho : o.op = .convert src src x) (hs : P.underlying src = some (.slice e)) (he : P.underlying e = some (.int .u8)) (hx : ev n0 f x = .slice (some ⟨b, 0, none⟩) n cap)
    (h : ∀ w1, w1.heap[b]? = some (.cells cs T (cs.size, cs.size + 1)) → Below W.heap.size W w1 → W.heap.size ≤ w1.heap.size → Seg [] P n0 ops w1 Q rest [] (upd f o.dst (.slice (some ⟨b, 0, none⟩) n cap))) : Seg [] P n0 ops W Q (o :: rest) (⟨b, cs, T⟩ :: L0) f :=
  s_step hw fun w hO => by
    have hb := hO.held ⟨b, cs, T⟩ (List.mem_cons_self ..)
    have hbase : W.heap.size ≤ b := (hO.base ⟨b, cs, T⟩ (List.mem_cons_self ..)).elim id (fun q => by simp at q)
    have hsh : w.shape? b = some (T, cs.size) := by unfold World.shape?; rw [hb]
    have hB := hO.below
    have hz := freeze_same w b cs.size
    have hB2 : Below W.heap.size W (w.freeze ⟨b, cs.size, none⟩ 1) := by
      refine ⟨?_, ?_, ?_, by rw [hz]; exact hB.size, ?_, fun k hk => (freeze_off w b cs.size k (by omega)).trans (hB.block k hk)⟩
      · rw [← hB.os]; unfold World.freeze; rfl
      · rw [← hB.tape]; unfold World.freeze; rfl
      · rw [← hB.output]; unfold World.freeze; rfl
      · have q := hB.drawn; unfold World.freeze; exact q
    have hr : (convert src src (.slice (some ⟨b, 0, none⟩) n cap)).run P w = .ok (.slice (some ⟨b, 0, none⟩) n cap) (w.freeze ⟨b, cs.size, none⟩ 1) := by
      simp [convert, run_underlying hs, run_underlying he, markStringish, hsh]
    refine wp_val _ (w' := w.freeze ⟨b, cs.size, none⟩ 1) ?_ ((h _ (freeze_at w b cs.size hb) hB2 (by rw [hz]; exact hB.size)).go _ (Own.start [] _))
    unfold execOp
    simp only [ho, hx, Sem.run_bind, Sem.run_pure, Result.andThen_ok, hr]
end
/-- What a block of the call's own holds, read as a list. -/
theorem Reads.lit9 {α : Type} {g : α → List Value} {w : World} {b : Nat} {cs : Array Value} {T : TypeId} {l : List α} {fr : Nat × Nat} (h : w.heap[b]? = some (.cells cs T fr)) (e : cs.toList = l.flatMap g) : Reads g w w.heap.size (some ⟨b, 0, none⟩) l := fun _ =>
  ⟨b, 0, rfl, (Array.getElem?_eq_some_iff.1 h).1, fun k u hk => by
    rw [Nat.zero_add, cell_of_row w b k cs T fr h, ← Array.getElem?_toList, e]; exact hk⟩
theorem str_beq9 (a b : List UInt8) : ((mkS a).toList == (mkS b).toList) = decide (a = b) := by
  rw [Lib.toList_data, Lib.toList_data]
  have e : ∀ l : List UInt8, (mkS l).data.toList = l := fun l => by unfold mkS; simp
  rw [e, e]
  by_cases h : a = b
  · subst h; simp
  · rw [decide_eq_false h]; simpa using h
theorem run_streql9 {P : Program} {ρ : Operand → Value} {o : Oper} {t t' : TypeId} {x y : Operand} {a b : List UInt8} {r : Bool} (ho : o.op = .binOp .eql t x y t') (hx : ρ x = .string (mkS a)) (hy : ρ y = .string (mkS b)) (h : decide (a = b) = r) (w : World) : (execOp ρ o).run P w = .ok (.value (.bool r)) w := by
  have hg : ∀ (op : BinOp) (a b : ByteArray), (eqGuard op t x y (.string a) (.string b)).run P w = .ok () w := fun op a b => by cases op <;> simp [eqGuard]
  have hb : ∀ a b : ByteArray, binOp .eql t (.string a) (.string b) = pure (.bool (a.toList == b.toList)) := fun a b => by simp [binOp, Op.stringOp]
  unfold execOp
  simp only [ho, hx, hy, Sem.run_bind, hg, Result.andThen_ok, hb, Sem.run_pure, str_beq9, h]
section
variable {M : List Nat} {P : Program} {n0 : Nat} {ops : Array Oper} {W : World} {Q : Exit → Act → World → Prop} {rest : List Oper} {o : Oper} {L0 : List Blk} {f : Nat → Value}
/-- append of a slice that came in, onto nil: a copy. -/
theorem s_clone {α : Type} {g : α → List Value} {l : List α} {t T : TypeId} {s x : Operand} {i : TypeInfo} {z : Value} {sz : Nat} {A : Option Addr} {cap : Nat} (hw : want ops n0 f o = true) (ho : o.op = .call { callee := .builtin .append, args := #[s, x], argTypes := #[t, t] })
    (ht : P.underlying t = some (.slice T)) (hi : P.info? T = some i) (hz : i.zero = some z) (hsz : i.size = sz) (hzs : z.cells.size = sz)
    (hs : ev n0 f s = .slice none 0 0) (hx : ev n0 f x = .slice A l.length cap) (hg : ∀ y, (g y).length = sz) (hv : ∀ w, Own M W w L0 → Reads g w w.heap.size A l) (h1 : ∀ u ∈ l.flatMap g, u.oneCell' = true)
    (h63 : l.length ≤ maxLen) (hbytes : l.length * i.bytes ≤ 140737488355328)
    (h : ∀ v' ob', Sl T sz v' l.length (l.flatMap g) ob' → Seg M P n0 ops W Q rest (ob' ++ L0) (upd f o.dst v')) : Seg M P n0 ops W Q (o :: rest) L0 f :=
  s_step hw fun w hO => by
    have hlen : (l.flatMap g).length = l.length * sz := by
      clear hs hx hv h1 h63 hbytes h ho
      induction l with
      | nil => simp
      | cons y l ih => rw [List.flatMap_cons, List.length_append, hg, ih, List.length_cons, Nat.add_mul, Nat.one_mul, Nat.add_comm]
    by_cases h0 : 0 < l.length
    · obtain ⟨b, off, rfl, hlt, hcell⟩ := hv w hO h0
      obtain ⟨v', w', ob', hr, h2, h3⟩ := own_append (P := P) (ty := o.type) (a := ⟨b, off, none⟩) (c := cap) (E := []) (ob := []) (L0 := L0) (news := l.flatMap g) (m := l.length) (n := 0) (xs := []) ht hi hz hsz hzs (Sl.nil T sz) hO hlen (fun j u hj => by rw [add_off]; exact hcell j u hj) h1 (by omega) (by rw [Nat.zero_add]; exact hbytes)
      rw [Nat.zero_add, List.nil_append] at h2
      refine wp_val v' (w' := w') ?_ ((h v' ob' h2).go w' h3)
      unfold execOp
      simp only [ho, resolve, invoke, builtin, Sem.run_bind, Sem.run_pure, Result.andThen_ok, List.map_toArray, List.map_cons, List.map_nil, hs, hx, hr]
    · have e : l = [] := List.eq_nil_of_length_eq_zero (by omega)
      subst e
      have hr : (Builtin.append_ #[t, t] o.type #[.slice none 0 0, .slice A 0 cap]).run P w = .ok (.slice none 0 0) w := by
        cases A <;> simp [Builtin.append_, run_underlying ht, sizeOf, typeInfo, hi, Builtin.lenOf, Builtin.firstCells, loadCells, loadCellsFrom]
      refine wp_val (.slice none 0 0) (w' := w) ?_ ((h _ [] (Sl.nil T sz)).go w hO)
      unfold execOp
      simp only [ho, resolve, invoke, builtin, Sem.run_bind, Sem.run_pure, Result.andThen_ok, List.map_toArray, List.map_cons, List.map_nil, hs, hx, List.length_nil, hr]
end
theorem run_xor8b {P : Program} {ρ : Operand → Value} {o : Oper} {t t' : TypeId} {a b : Operand} {x y : UInt8} (ho : o.op = .binOp .xor t a b t') (hx : ρ a = .int .u8 (x.toNat : Int)) (hy : ρ b = .int .u8 (y.toNat : Int)) (w : World) : (execOp ρ o).run P w = .ok (.value (.int .u8 ((x ^^^ y).toNat : Int))) w := by
  have hb : binOp .xor t (.int .u8 (x.toNat : Int)) (.int .u8 (y.toNat : Int)) = pure (.int .u8 ((x ^^^ y).toNat : Int)) := by
    have e := u8_xor_nat _ _ x.toNat_lt y.toNat_lt
    rw [← UInt8.toNat_xor] at e
    rw [← e]
    simp [binOp, intBits_xor]
  have hg : eqGuard .xor t a b (.int .u8 (x.toNat : Int)) (.int .u8 (y.toNat : Int)) = pure () := rfl
  unfold execOp
  simp only [ho, hx, hy, Sem.run_bind, hg, hb, Sem.run_pure, Result.andThen_ok]
/-- One byte of an own slice, stored. -/
theorem store_byte {cur : Array Value} {l : List UInt8} {k : Nat} (hk : k < l.length) (hsz : l.length ≤ cur.size) (h : cur.toList.take (l.length * 1) = l.flatMap u8C) (c : UInt8) : (storeIn cur k (Value.int .u8 (c.toNat : Int)).cells).toList.take ((l.set k c).length * 1) = (l.set k c).flatMap u8C := by
  rw [Nat.mul_one] at h
  rw [u8_flat] at h ⊢
  rw [List.length_set, Nat.mul_one, List.map_set, ← h]
  have h2 : cur.toList.length = cur.size := by simp
  unfold storeIn
  apply List.ext_getElem?
  intro j
  show ((cur.toList.take k ++ [Value.int .u8 (c.toNat : Int)] ++ cur.toList.drop (k + 1)).take l.length)[j]? = _
  rw [List.getElem?_take, List.getElem?_set]
  by_cases hj : j < l.length
  · rw [if_pos hj, List.append_assoc]
    by_cases h3 : j < k
    · rw [List.getElem?_append_left (by simp; omega), if_neg (by omega), List.getElem?_take, if_pos h3, List.getElem?_take, if_pos hj]
    · rw [List.getElem?_append_right (by simp; omega)]
      have e : (List.take k cur.toList).length = k := by simp; omega
      rw [e]
      by_cases h4 : k = j
      · subst h4
        rw [if_pos rfl, Nat.sub_self, if_pos (by simp; omega)]; rfl
      · rw [if_neg h4, show j - k = (j - k - 1) + 1 by omega, List.cons_append, List.getElem?_cons_succ, List.nil_append, List.getElem?_drop, List.getElem?_take, if_pos hj, show k + 1 + (j - k - 1) = j by omega]
  · rw [if_neg hj, if_neg (by rintro rfl; exact hj hk), List.getElem?_take, if_neg hj]
end Go.Proofs.Ytjgmmeienchfnaa
