/-
  What the statement's proof leans on: the ways of walking, jY mathematics, and what the program's functions return; each theorem says on what conditions.
-/
import Derived.Shelf.Strings.Builder1
import Derived.Shelf.Strings.Builder2
import Derived.Shelf.Strings.OnBuilder
import Derived.Shelf.Strings.Trim
import Derived.Shelf.Small.Utf8
import Derived.Shelf.Small.Bits
import Derived.Shelf.Small.Strs
import Derived.Shelf.Small.Wraps
import Derived.Shelf.Strings.BuilderF
import Derived.Shelf.Strings.BuilderK
import Derived.Shelf.Strconv.Itoa0
import Derived.Shelf.Strconv.Itoa1
import Derived.Shelf.LaysM
import Derived.Shelf.Strconv.Itoa2
import Derived.Shelf.Strconv.Itoa3
import Derived.Shelf.Strconv.Clone
import Derived.Shelf.Strings.Search1
import Derived.Shelf.Strings.Search2
import Derived.Shelf.Strings.Search3
import Derived.Shelf.Strings.Cut
import Derived.Shelf.Strings.Count
import Derived.Shelf.Strings.Shaped
import Derived.Shelf.Strings.Prefix
import Derived.Shelf.Strings.Split
import Derived.Shelf.Strings.SplitShaped
import Derived.Shelf.Unicode.Decode
import Derived.Shelf.Strings.Runes
import Derived.Shelf.Strings.RuneCount
import Derived.Shelf.Strings.AsciiSet
import Derived.Shelf.Strings.Explode
import Derived.Shelf.Unicode.DecodeSlow
import Derived.Ground.SlgnProg
import Derived.Shelf.SlicesE.Clone
import Derived.Ground.SlgfProg
import Derived.Shelf.SlicesQ.IndexFunc
import Derived.Ground.SlsfProg
import Derived.Shelf.SlSortCmp.InsertionK
import Derived.Shelf.SlSortCmp.SiftDownK
import Derived.Shelf.SlSortCmp.HeapSortK
import Derived.Shelf.SlSortCmp.MedianK
import Derived.Shelf.SlSortCmp.PivotK
import Derived.Shelf.SlSortCmp.ReverseRangeK
import Derived.Shelf.SlSortCmp.PartialInsertionK
import Derived.Shelf.SlSortCmp.PartitionEqualK
import Derived.Shelf.SlSortCmp.PartitionK
import Derived.Shelf.SlSortCmp.PdqK
import Derived.Shelf.SlSortCmp.WholeK
import Derived.Shelf.SlSortCmp.NoneTotal
import Derived.Test.YtiekhkapgjdblaaGreatDoorProg
import Derived.WalkKit
import Derived.Below
import Derived.Deep.Draws
import Derived.Sort.Grow
import Derived.Laws.AppendOwn
import Derived.Lib.Strings
import Derived.Lib.Slices
import Derived.Lib.Walk
import Derived.Lib.Builder
import Derived.Lib.AppendStr
import Derived.Lib.UnsafeStr
import Derived.Laws.Externs
import Derived.Shelf.RegionOpenPlain
import Derived.Deep.Quiet
import Derived.BigQuiet
import Derived.Lib.Hide
import Derived.Laws.CopyRow
import Derived.Laws.Rows
import Derived.Deep.RegionHeld3
import Derived.Lib.ItoaNum
import Derived.Lib.ItoaMem
import Derived.Lib.MapLaws
import Derived.Lib.TrimUEq
import Derived.Lib.CutLaws
import Derived.IntWalk
import Derived.Outline
import Derived.Deep.LoopGhost
import Derived.Lib.Small
import Derived.Lib.OthersKept
import Derived.Lib.AppendIntMem
import Derived.Lib.ItoaLen
set_option maxRecDepth 1000000
set_option maxHeartbeats 8000000
set_option linter.unusedVariables false
set_option linter.unusedSimpArgs false
namespace Go.Proofs.YtiekhkapgjdblaaGreatDoor
open Go.RowKit

end Go.Proofs.YtiekhkapgjdblaaGreatDoor
section
namespace Go.Proofs
open Go.Shelf
def Tryz.lays161_ren : Go.Shelf.Ren := ⟨fun | 161 => 76 | 231 => 94 | 227 => 96 | 233 => 97 | 235 => 99 | 228 => 143 | 197 => 144 | 151 => 145 | 260 => 177 | 152 => 178 | 137 => 202 | 119 => 203 | 224 => 121 | 225 => 120 | 217 => 119 | 266 => 166 | n => n, fun | 9 => 9 | 4 => 4 | 3 => 3 | 5 => 5 | 117 => 137 | 116 => 136 | 0 => 0 | 124 => 140 | 105 => 167 | 21 => 21 | 119 => 207 | 46 => 152 | 139 => 210 | 138 => 209 | n => n, fun | 3 => 1 | 4 => 2 | n => n⟩
theorem Tryz.lays161 : Go.Proofs.Lays.n161 Tryz.prog Tryz.lays161_ren := {
  mixed := by kernel_rfl
  f119 := Tryz.func203.trans (congrArg some (by kernel_rfl))
  f137 := Tryz.func202.trans (congrArg some (by kernel_rfl))
  f151 := Tryz.func145.trans (congrArg some (by kernel_rfl))
  f152 := Tryz.func178.trans (congrArg some (by kernel_rfl))
  f161 := Tryz.func76.trans (congrArg some (by kernel_rfl))
  f197 := Tryz.func144.trans (congrArg some (by kernel_rfl))
  f217 := Tryz.func119.trans (congrArg some (by kernel_rfl))
  f224 := Tryz.func121.trans (congrArg some (by kernel_rfl))
  f225 := Tryz.func120.trans (congrArg some (by kernel_rfl))
  f227 := Tryz.func96.trans (congrArg some (by kernel_rfl))
  f228 := Tryz.func143.trans (congrArg some (by kernel_rfl))
  f231 := Tryz.func94.trans (congrArg some (by kernel_rfl))
  f233 := Tryz.func97.trans (congrArg some (by kernel_rfl))
  f235 := Tryz.func99.trans (congrArg some (by kernel_rfl))
  f260 := Tryz.func177.trans (congrArg some (by kernel_rfl))
  f266 := Tryz.func166.trans (congrArg some (by kernel_rfl))
  t0 := Tryz.underlying0
  a0 := Tryz.isAgg0
  z0 := Tryz.sizeOf0
  v0 := Tryz.zeroValue0
  t3 := Tryz.underlying3
  a3 := Tryz.isAgg3
  z3 := Tryz.sizeOf3
  v3 := Tryz.zeroValue3
  t4 := Tryz.underlying4
  a4 := Tryz.isAgg4
  z4 := Tryz.sizeOf4
  v4 := Tryz.zeroValue4
  t5 := Tryz.underlying5
  a5 := Tryz.isAgg5
  z5 := Tryz.sizeOf5
  v5 := Tryz.zeroValue5
  t9 := Tryz.underlying9
  a9 := Tryz.isAgg9
  z9 := Tryz.sizeOf9
  v9 := Tryz.zeroValue9
  t21 := Tryz.underlying21
  a21 := Tryz.isAgg21
  z21 := Tryz.sizeOf21
  v21 := Tryz.zeroValue21
  t46 := Tryz.underlying152
  a46 := Tryz.isAgg152
  z46 := Tryz.sizeOf152
  v46 := Tryz.zeroValue152
  t105 := Tryz.underlying167
  a105 := Tryz.isAgg167
  z105 := Tryz.sizeOf167
  v105 := Tryz.zeroValue167
  t116 := Tryz.underlying136
  a116 := Tryz.isAgg136
  z116 := Tryz.sizeOf136
  t117 := Tryz.underlying137
  a117 := Tryz.isAgg137
  z117 := Tryz.sizeOf137
  v117 := Tryz.zeroValue137
  t119 := Tryz.underlying207
  a119 := Tryz.isAgg207
  z119 := Tryz.sizeOf207
  t124 := Tryz.underlying140
  a124 := Tryz.isAgg140
  z124 := Tryz.sizeOf140
  v124 := Tryz.zeroValue140
  t138 := Tryz.underlying209
  a138 := Tryz.isAgg209
  z138 := Tryz.sizeOf209
  v138 := Tryz.zeroValue209
  t139 := Tryz.underlying210
  a139 := Tryz.isAgg210
  z139 := Tryz.sizeOf210
  v139 := Tryz.zeroValue210
  g3 := by kernel_rfl
  g4 := by kernel_rfl }
def Tryz.lays106_ren : Go.Shelf.Ren := ⟨fun | 106 => 225 | 213 => 235 | 265 => 241 | n => n, fun | 9 => 9 | 3 => 3 | n => n, fun | n => n⟩
theorem Tryz.lays106 : Go.Proofs.Lays.n106 Tryz.prog Tryz.lays106_ren := {
  mixed := by kernel_rfl
  f106 := Tryz.func225.trans (congrArg some (by kernel_rfl))
  f213 := Tryz.func235.trans (congrArg some (by kernel_rfl))
  f265 := Tryz.func241.trans (congrArg some (by kernel_rfl))
  t3 := Tryz.underlying3
  a3 := Tryz.isAgg3
  z3 := Tryz.sizeOf3
  v3 := Tryz.zeroValue3
  t9 := Tryz.underlying9
  a9 := Tryz.isAgg9
  z9 := Tryz.sizeOf9
  v9 := Tryz.zeroValue9 }
open Go.RowKit in
theorem Tryz.strings_Compare (a b : ByteArray) (w : World) :
    Calls Tryz.prog 225 #[.string a, .string b] w fun e w' => e = .returned (.int .i64 (Lib.compareBytes a.data.toList b.data.toList)) ∧ w' = w := Any.strings_Compare Tryz.lays106 a b w
def Tryz.lays122_ren : Go.Shelf.Ren := ⟨fun | 122 => 193 | 215 => 209 | n => n, fun | 3 => 3 | 4 => 4 | n => n, fun | n => n⟩
theorem Tryz.lays122 : Go.Proofs.Lays.n122 Tryz.prog Tryz.lays122_ren := {
  mixed := by kernel_rfl
  f122 := Tryz.func193.trans (congrArg some (by kernel_rfl))
  f215 := Tryz.func209.trans (congrArg some (by kernel_rfl))
  t3 := Tryz.underlying3
  a3 := Tryz.isAgg3
  z3 := Tryz.sizeOf3
  v3 := Tryz.zeroValue3
  t4 := Tryz.underlying4
  a4 := Tryz.isAgg4
  z4 := Tryz.sizeOf4
  v4 := Tryz.zeroValue4 }
open Go.RowKit in
theorem Tryz.cmp_Compare_int (x y : Int) (w : World) :
    Calls Tryz.prog 193 #[.int .i64 x, .int .i64 y] w fun e w' => e = .returned (.int .i64 (Lib.compareInt x y)) ∧ w' = w := Any.cmp_Compare_int Tryz.lays122 x y w
def Tryz.laysM171_ren : Go.Shelf.Ren := ⟨fun | 171 => 176 | 243 => 201 | 246 => 214 | 283 => 226 | 284 => 227 | 285 => 228 | 286 => 229 | 129 => 224 | 317 => 236 | 318 => 237 | 319 => 238 | 320 => 239 | 337 => 242 | 338 => 243 | n => n, fun | 3 => 3 | 9 => 9 | 2 => 2 | 4 => 4 | 171 => 225 | 0 => 0 | 53 => 206 | 37 => 35 | 5 => 5 | 173 => 227 | 212 => 236 | 51 => 183 | 20 => 20 | 213 => 237 | 46 => 152 | 232 => 241 | 233 => 242 | n => n, fun | 17 => 3 | 18 => 4 | 19 => 5 | n => n⟩
theorem Tryz.laysM171 : Go.Proofs.LaysM.n171 Tryz.prog Tryz.laysM171_ren := {
  mixed := by kernel_rfl
  f129 := Tryz.func224.trans (congrArg some (by kernel_rfl))
  f171 := Tryz.func176.trans (congrArg some (by kernel_rfl))
  f243 := Tryz.func201.trans (congrArg some (by kernel_rfl))
  f246 := Tryz.func214.trans (congrArg some (by kernel_rfl))
  f283 := Tryz.func226.trans (congrArg some (by kernel_rfl))
  f284 := Tryz.func227.trans (congrArg some (by kernel_rfl))
  f285 := Tryz.func228.trans (congrArg some (by kernel_rfl))
  f286 := Tryz.func229.trans (congrArg some (by kernel_rfl))
  f317 := Tryz.func236.trans (congrArg some (by kernel_rfl))
  f318 := Tryz.func237.trans (congrArg some (by kernel_rfl))
  f319 := Tryz.func238.trans (congrArg some (by kernel_rfl))
  f320 := Tryz.func239.trans (congrArg some (by kernel_rfl))
  f337 := Tryz.func242.trans (congrArg some (by kernel_rfl))
  f338 := Tryz.func243.trans (congrArg some (by kernel_rfl))
  t0 := Tryz.underlying0
  a0 := Tryz.isAgg0
  z0 := Tryz.sizeOf0
  v0 := Tryz.zeroValue0
  t2 := Tryz.underlying2
  a2 := Tryz.isAgg2
  z2 := Tryz.sizeOf2
  v2 := Tryz.zeroValue2
  t3 := Tryz.underlying3
  a3 := Tryz.isAgg3
  z3 := Tryz.sizeOf3
  v3 := Tryz.zeroValue3
  t4 := Tryz.underlying4
  a4 := Tryz.isAgg4
  z4 := Tryz.sizeOf4
  v4 := Tryz.zeroValue4
  t5 := Tryz.underlying5
  a5 := Tryz.isAgg5
  z5 := Tryz.sizeOf5
  v5 := Tryz.zeroValue5
  t9 := Tryz.underlying9
  a9 := Tryz.isAgg9
  z9 := Tryz.sizeOf9
  v9 := Tryz.zeroValue9
  t20 := Tryz.underlying20
  a20 := Tryz.isAgg20
  z20 := Tryz.sizeOf20
  v20 := Tryz.zeroValue20
  t37 := Tryz.underlying35
  a37 := Tryz.isAgg35
  z37 := Tryz.sizeOf35
  v37 := Tryz.zeroValue35
  t46 := Tryz.underlying152
  a46 := Tryz.isAgg152
  z46 := Tryz.sizeOf152
  v46 := Tryz.zeroValue152
  t51 := Tryz.underlying183
  a51 := Tryz.isAgg183
  z51 := Tryz.sizeOf183
  v51 := Tryz.zeroValue183
  t53 := Tryz.underlying206
  a53 := Tryz.isAgg206
  z53 := Tryz.sizeOf206
  v53 := Tryz.zeroValue206
  t171 := Tryz.underlying225
  a171 := Tryz.isAgg225
  z171 := Tryz.sizeOf225
  v171 := Tryz.zeroValue225
  t173 := Tryz.underlying227
  a173 := Tryz.isAgg227
  z173 := Tryz.sizeOf227
  v173 := Tryz.zeroValue227
  t212 := Tryz.underlying236
  a212 := Tryz.isAgg236
  z212 := Tryz.sizeOf236
  v212 := Tryz.zeroValue236
  t213 := Tryz.underlying237
  a213 := Tryz.isAgg237
  z213 := Tryz.sizeOf237
  t232 := Tryz.underlying241
  a232 := Tryz.isAgg241
  z232 := Tryz.sizeOf241
  v232 := Tryz.zeroValue241
  t233 := Tryz.underlying242
  a233 := Tryz.isAgg242
  z233 := Tryz.sizeOf242
  v233 := Tryz.zeroValue242
  g17 := by kernel_rfl
  g18 := by kernel_rfl
  g19 := by kernel_rfl
  i0 := by kernel_rfl
  i2 := by kernel_rfl
  i3 := by kernel_rfl
  i4 := by kernel_rfl
  i5 := by kernel_rfl
  i9 := by kernel_rfl
  i20 := by kernel_rfl
  i37 := by kernel_rfl
  i46 := by kernel_rfl
  i51 := by kernel_rfl
  i53 := by kernel_rfl
  i171 := by kernel_rfl
  i173 := by kernel_rfl
  i212 := by kernel_rfl
  i232 := by kernel_rfl
  i233 := by kernel_rfl
  m17 := by kernel_rfl
  m18 := by kernel_rfl
  m19 := by kernel_rfl }
open Go.RowKit Go.Sort Go.Lib in
theorem Tryz.strconv_Itoa (n : Int) (h0 : -9223372036854775808 ≤ n) (h1 : n ≤ 9223372036854775807) (w : World) (htab : Lib.TabIs Tryz.prog w "internal/strconv.uint64pow10" .u64 Lib.pow10Tab) :
    Calls Tryz.prog 176 #[.int .i64 n] w fun e w' => e = .returned (.string ⟨(Lib.itoa n).toArray⟩) ∧ ∃ k os, w' = grow (w.drewN k) os := Any.strconv_Itoa Tryz.laysM171 n h0 h1 w htab
def Tryz.lays219_ren : Go.Shelf.Ren := ⟨fun | 219 => 74 | 217 => 119 | 225 => 120 | 224 => 121 | 267 => 122 | 266 => 166 | 314 => 167 | n => n, fun | 9 => 9 | 3 => 3 | 4 => 4 | 5 => 5 | 46 => 152 | 146 => 184 | 51 => 183 | n => n, fun | 1 => 0 | n => n⟩
theorem Tryz.lays219 : Go.Proofs.Lays.n219 Tryz.prog Tryz.lays219_ren := {
  mixed := by kernel_rfl
  f217 := Tryz.func119.trans (congrArg some (by kernel_rfl))
  f219 := Tryz.func74.trans (congrArg some (by kernel_rfl))
  f224 := Tryz.func121.trans (congrArg some (by kernel_rfl))
  f225 := Tryz.func120.trans (congrArg some (by kernel_rfl))
  f266 := Tryz.func166.trans (congrArg some (by kernel_rfl))
  f267 := Tryz.func122.trans (congrArg some (by kernel_rfl))
  f314 := Tryz.func167.trans (congrArg some (by kernel_rfl))
  t3 := Tryz.underlying3
  a3 := Tryz.isAgg3
  z3 := Tryz.sizeOf3
  v3 := Tryz.zeroValue3
  t4 := Tryz.underlying4
  a4 := Tryz.isAgg4
  z4 := Tryz.sizeOf4
  v4 := Tryz.zeroValue4
  t5 := Tryz.underlying5
  a5 := Tryz.isAgg5
  z5 := Tryz.sizeOf5
  v5 := Tryz.zeroValue5
  t9 := Tryz.underlying9
  a9 := Tryz.isAgg9
  z9 := Tryz.sizeOf9
  v9 := Tryz.zeroValue9
  t46 := Tryz.underlying152
  a46 := Tryz.isAgg152
  z46 := Tryz.sizeOf152
  v46 := Tryz.zeroValue152
  t51 := Tryz.underlying183
  a51 := Tryz.isAgg183
  z51 := Tryz.sizeOf183
  v51 := Tryz.zeroValue183
  t146 := Tryz.underlying184
  a146 := Tryz.isAgg184
  z146 := Tryz.sizeOf184
  v146 := Tryz.zeroValue184
  g1 := by kernel_rfl }
open Go.RowKit Go.Lib in
theorem Tryz.stringslite_Index_one (s : ByteArray) (c : UInt8) (w : World) :
    Calls Tryz.prog 74 #[.string s, .string ⟨#[c]⟩] w fun e w' => e = .returned (.int .i64 (Lib.indexByte s.data.toList c)) ∧ w' = w := Any.stringslite_Index_one Tryz.lays219 s c w
def Tryz.lays145_ren : Go.Shelf.Ren := ⟨fun | 145 => 27 | 220 => 46 | 219 => 74 | 217 => 119 | 225 => 120 | 224 => 121 | 267 => 122 | 266 => 166 | 314 => 167 | n => n, fun | 9 => 9 | 4 => 4 | 59 => 54 | 3 => 3 | 5 => 5 | 46 => 152 | 146 => 184 | 51 => 183 | n => n, fun | 1 => 0 | n => n⟩
theorem Tryz.lays145 : Go.Proofs.Lays.n145 Tryz.prog Tryz.lays145_ren := {
  mixed := by kernel_rfl
  f145 := Tryz.func27.trans (congrArg some (by kernel_rfl))
  f217 := Tryz.func119.trans (congrArg some (by kernel_rfl))
  f219 := Tryz.func74.trans (congrArg some (by kernel_rfl))
  f220 := Tryz.func46.trans (congrArg some (by kernel_rfl))
  f224 := Tryz.func121.trans (congrArg some (by kernel_rfl))
  f225 := Tryz.func120.trans (congrArg some (by kernel_rfl))
  f266 := Tryz.func166.trans (congrArg some (by kernel_rfl))
  f267 := Tryz.func122.trans (congrArg some (by kernel_rfl))
  f314 := Tryz.func167.trans (congrArg some (by kernel_rfl))
  t3 := Tryz.underlying3
  a3 := Tryz.isAgg3
  z3 := Tryz.sizeOf3
  v3 := Tryz.zeroValue3
  t4 := Tryz.underlying4
  a4 := Tryz.isAgg4
  z4 := Tryz.sizeOf4
  v4 := Tryz.zeroValue4
  t5 := Tryz.underlying5
  a5 := Tryz.isAgg5
  z5 := Tryz.sizeOf5
  v5 := Tryz.zeroValue5
  t9 := Tryz.underlying9
  a9 := Tryz.isAgg9
  z9 := Tryz.sizeOf9
  v9 := Tryz.zeroValue9
  t46 := Tryz.underlying152
  a46 := Tryz.isAgg152
  z46 := Tryz.sizeOf152
  v46 := Tryz.zeroValue152
  t51 := Tryz.underlying183
  a51 := Tryz.isAgg183
  z51 := Tryz.sizeOf183
  v51 := Tryz.zeroValue183
  t59 := Tryz.underlying54
  a59 := Tryz.isAgg54
  z59 := Tryz.sizeOf54
  v59 := Tryz.zeroValue54
  t146 := Tryz.underlying184
  a146 := Tryz.isAgg184
  z146 := Tryz.sizeOf184
  v146 := Tryz.zeroValue184
  g1 := by kernel_rfl }
open Go.RowKit Go.Lib in
theorem Tryz.strings_Cut (s sep : ByteArray) (m : Int) (w : World) (hs : s.size < 4294967281) (hm : w.cell? ⟨0, 0, none⟩ = some (.int .i64 m)) :
    Calls Tryz.prog 27 #[.string s, .string sep] w fun e w' => e = .returned (.tuple #[.string ⟨(Lib.cut s.data.toList sep.data.toList).1.toArray⟩, .string ⟨(Lib.cut s.data.toList sep.data.toList).2.1.toArray⟩, .bool (Lib.cut s.data.toList sep.data.toList).2.2]) ∧ ∃ n, w' = w.drewN n := Any.strings_Cut Tryz.lays145 s sep m w hs hm
def Tryz.laysM143_ren : Go.Shelf.Ren := ⟨fun | 143 => 125 | 219 => 74 | 217 => 119 | 225 => 120 | 224 => 121 | 267 => 122 | 266 => 166 | 314 => 167 | n => n, fun | 9 => 9 | 3 => 3 | 4 => 4 | 5 => 5 | 46 => 152 | 146 => 184 | 51 => 183 | n => n, fun | 1 => 0 | n => n⟩
theorem Tryz.laysM143 : Go.Proofs.LaysM.n143 Tryz.prog Tryz.laysM143_ren := {
  mixed := by kernel_rfl
  f143 := Tryz.func125.trans (congrArg some (by kernel_rfl))
  f217 := Tryz.func119.trans (congrArg some (by kernel_rfl))
  f219 := Tryz.func74.trans (congrArg some (by kernel_rfl))
  f224 := Tryz.func121.trans (congrArg some (by kernel_rfl))
  f225 := Tryz.func120.trans (congrArg some (by kernel_rfl))
  f266 := Tryz.func166.trans (congrArg some (by kernel_rfl))
  f267 := Tryz.func122.trans (congrArg some (by kernel_rfl))
  f314 := Tryz.func167.trans (congrArg some (by kernel_rfl))
  t3 := Tryz.underlying3
  a3 := Tryz.isAgg3
  z3 := Tryz.sizeOf3
  v3 := Tryz.zeroValue3
  t4 := Tryz.underlying4
  a4 := Tryz.isAgg4
  z4 := Tryz.sizeOf4
  v4 := Tryz.zeroValue4
  t5 := Tryz.underlying5
  a5 := Tryz.isAgg5
  z5 := Tryz.sizeOf5
  v5 := Tryz.zeroValue5
  t9 := Tryz.underlying9
  a9 := Tryz.isAgg9
  z9 := Tryz.sizeOf9
  v9 := Tryz.zeroValue9
  t46 := Tryz.underlying152
  a46 := Tryz.isAgg152
  z46 := Tryz.sizeOf152
  v46 := Tryz.zeroValue152
  t51 := Tryz.underlying183
  a51 := Tryz.isAgg183
  z51 := Tryz.sizeOf183
  v51 := Tryz.zeroValue183
  t146 := Tryz.underlying184
  a146 := Tryz.isAgg184
  z146 := Tryz.sizeOf184
  v146 := Tryz.zeroValue184
  g1 := by kernel_rfl
  i3 := by kernel_rfl
  i4 := by kernel_rfl
  i5 := by kernel_rfl
  i9 := by kernel_rfl
  i46 := by kernel_rfl
  i51 := by kernel_rfl
  i146 := by kernel_rfl
  m1 := by kernel_rfl
  s1_3 := fun w h => Go.Proofs.cell_of_shapedOpen_int (zero := #[.int .i64 0]) (t := 3) h (of_decide_eq_true (by kernel_rfl)) (by kernel_rfl) rfl (by kernel_rfl) (by kernel_rfl) Tryz.underlying3 }
def Tryz.lays102_ren : Go.Shelf.Ren := ⟨fun | 102 => 78 | 209 => 128 | 207 => 170 | n => n, fun | 9 => 9 | 4 => 4 | 3 => 3 | n => n, fun | n => n⟩
theorem Tryz.lays102 : Go.Proofs.Lays.n102 Tryz.prog Tryz.lays102_ren := {
  mixed := by kernel_rfl
  f102 := Tryz.func78.trans (congrArg some (by kernel_rfl))
  f207 := Tryz.func170.trans (congrArg some (by kernel_rfl))
  f209 := Tryz.func128.trans (congrArg some (by kernel_rfl))
  t3 := Tryz.underlying3
  a3 := Tryz.isAgg3
  z3 := Tryz.sizeOf3
  v3 := Tryz.zeroValue3
  t4 := Tryz.underlying4
  a4 := Tryz.isAgg4
  z4 := Tryz.sizeOf4
  v4 := Tryz.zeroValue4
  t9 := Tryz.underlying9
  a9 := Tryz.isAgg9
  z9 := Tryz.sizeOf9
  v9 := Tryz.zeroValue9 }
open Go.RowKit Go.Lib in
theorem Tryz.strings_TrimSuffix (s p : ByteArray) (w : World) (hs : s.size ≤ 9223372036854775807) :
    Calls Tryz.prog 78 #[.string s, .string p] w fun e w' => e = .returned (.string ⟨(Lib.trimSuffix s.data.toList p.data.toList).toArray⟩) ∧ w' = w := Any.strings_TrimSuffix Tryz.lays102 s p w hs
def Tryz.lays146_ren : Go.Shelf.Ren := ⟨fun | 146 => 47 | 221 => 75 | 268 => 123 | 138 => 124 | 143 => 125 | 195 => 168 | 197 => 144 | 218 => 169 | 219 => 74 | 260 => 177 | 217 => 119 | 225 => 120 | 224 => 121 | 267 => 122 | 266 => 166 | 314 => 167 | n => n, fun | 9 => 9 | 31 => 83 | 3 => 3 | 4 => 4 | 0 => 0 | 105 => 167 | 21 => 21 | 5 => 5 | 46 => 152 | 119 => 207 | 139 => 210 | 138 => 209 | 146 => 184 | 51 => 183 | n => n, fun | 1 => 0 | 3 => 1 | 4 => 2 | n => n⟩
theorem Tryz.lays146 : Go.Proofs.Lays.n146 Tryz.prog Tryz.lays146_ren := {
  mixed := by kernel_rfl
  f138 := Tryz.func124.trans (congrArg some (by kernel_rfl))
  f143 := Tryz.func125.trans (congrArg some (by kernel_rfl))
  f146 := Tryz.func47.trans (congrArg some (by kernel_rfl))
  f195 := Tryz.func168.trans (congrArg some (by kernel_rfl))
  f197 := Tryz.func144.trans (congrArg some (by kernel_rfl))
  f217 := Tryz.func119.trans (congrArg some (by kernel_rfl))
  f218 := Tryz.func169.trans (congrArg some (by kernel_rfl))
  f219 := Tryz.func74.trans (congrArg some (by kernel_rfl))
  f221 := Tryz.func75.trans (congrArg some (by kernel_rfl))
  f224 := Tryz.func121.trans (congrArg some (by kernel_rfl))
  f225 := Tryz.func120.trans (congrArg some (by kernel_rfl))
  f260 := Tryz.func177.trans (congrArg some (by kernel_rfl))
  f266 := Tryz.func166.trans (congrArg some (by kernel_rfl))
  f267 := Tryz.func122.trans (congrArg some (by kernel_rfl))
  f268 := Tryz.func123.trans (congrArg some (by kernel_rfl))
  f314 := Tryz.func167.trans (congrArg some (by kernel_rfl))
  t0 := Tryz.underlying0
  a0 := Tryz.isAgg0
  z0 := Tryz.sizeOf0
  v0 := Tryz.zeroValue0
  t3 := Tryz.underlying3
  a3 := Tryz.isAgg3
  z3 := Tryz.sizeOf3
  v3 := Tryz.zeroValue3
  t4 := Tryz.underlying4
  a4 := Tryz.isAgg4
  z4 := Tryz.sizeOf4
  v4 := Tryz.zeroValue4
  t5 := Tryz.underlying5
  a5 := Tryz.isAgg5
  z5 := Tryz.sizeOf5
  v5 := Tryz.zeroValue5
  t9 := Tryz.underlying9
  a9 := Tryz.isAgg9
  z9 := Tryz.sizeOf9
  v9 := Tryz.zeroValue9
  t21 := Tryz.underlying21
  a21 := Tryz.isAgg21
  z21 := Tryz.sizeOf21
  v21 := Tryz.zeroValue21
  t31 := Tryz.underlying83
  a31 := Tryz.isAgg83
  z31 := Tryz.sizeOf83
  v31 := Tryz.zeroValue83
  t46 := Tryz.underlying152
  a46 := Tryz.isAgg152
  z46 := Tryz.sizeOf152
  v46 := Tryz.zeroValue152
  t51 := Tryz.underlying183
  a51 := Tryz.isAgg183
  z51 := Tryz.sizeOf183
  v51 := Tryz.zeroValue183
  t105 := Tryz.underlying167
  a105 := Tryz.isAgg167
  z105 := Tryz.sizeOf167
  v105 := Tryz.zeroValue167
  t119 := Tryz.underlying207
  a119 := Tryz.isAgg207
  z119 := Tryz.sizeOf207
  t138 := Tryz.underlying209
  a138 := Tryz.isAgg209
  z138 := Tryz.sizeOf209
  v138 := Tryz.zeroValue209
  t139 := Tryz.underlying210
  a139 := Tryz.isAgg210
  z139 := Tryz.sizeOf210
  v139 := Tryz.zeroValue210
  t146 := Tryz.underlying184
  a146 := Tryz.isAgg184
  z146 := Tryz.sizeOf184
  v146 := Tryz.zeroValue184
  g1 := by kernel_rfl
  g3 := by kernel_rfl
  g4 := by kernel_rfl }
open Go.RowKit Go.Lib in
theorem Tryz.strings_Split (s sep : ByteArray) (m : Int) (w : World) (hs : s.size < 4294967281) (hm : w.cell? ⟨0, 0, none⟩ = some (.int .i64 m)) (h1 : 1 ≤ sep.size) :
    Calls Tryz.prog 47 #[.string s, .string sep] w fun e w' =>
      e = .returned (.slice (some ⟨w.heap.size, 0, none⟩) (Lib.countB s sep + 1) (Lib.countB s sep + 1)) ∧ w' = w.alloc (.cells ((Lib.splitB sep 0 (Lib.countB s sep) s).map Value.string).toArray 9) := Any.strings_Split Tryz.lays146 (by kernel_rfl) s sep m w hs hm h1
end Go.Proofs
end
namespace Go.Proofs.YtiekhkapgjdblaaGreatDoor
open Go.RowKit
section
structure Below (B : Nat) (w w' : World) : Prop where
  os : w'.os = w.os
  tape : w'.tape = w.tape
  output : w'.output = w.output
  size : w.heap.size ≤ w'.heap.size
  drawn : w.drawn ≤ w'.drawn
  block : ∀ k, k < B → w'.heap[k]? = w.heap[k]?
theorem Below.old {B : Nat} {w w' : World} (h : Below B w w') : Go.RowKit.Below B w w' := ⟨h.os, h.tape, h.output, h.size, h.block⟩
theorem Below.refl (B : Nat) (w : World) : Below B w w := ⟨rfl, rfl, rfl, Nat.le_refl _, Nat.le_refl _, fun _ _ => rfl⟩
theorem Below.trans {B : Nat} {a b c : World} (h : Below B a b) (k : Below B b c) : Below B a c :=
  ⟨k.os.trans h.os, k.tape.trans h.tape, k.output.trans h.output, Nat.le_trans h.size k.size, Nat.le_trans h.drawn k.drawn, fun i hi => (k.block i hi).trans (h.block i hi)⟩
theorem Below.mono {B B' : Nat} {w w' : World} (h : Below B w w') (hB : B' ≤ B) : Below B' w w' := ⟨h.os, h.tape, h.output, h.size, h.drawn, fun k hk => h.block k (Nat.lt_of_lt_of_le hk hB)⟩
theorem Below.drew {B : Nat} {a w : World} (h : Below B a w) : Below B a w.drew := ⟨h.os, h.tape, h.output, h.size, Nat.le_succ_of_le h.drawn, h.block⟩
theorem Below.heap_alloc (w : World) (o : Obj) (k : Nat) (h : k < w.heap.size) : (w.alloc o).heap[k]? = w.heap[k]? := Go.RowKit.Below.heap_alloc w o k h
theorem Below.heap_setCell (w : World) (a : Addr) (u : Value) (k : Nat) (h : k ≠ a.block) : (w.setCell a u).heap[k]? = w.heap[k]? := Go.RowKit.Below.heap_setCell w a u k h
theorem Below.alloc {B : Nat} {a w : World} (h : Below B a w) (hB : B ≤ w.heap.size) (o : Obj) : Below B a (w.alloc o) :=
  h.trans ⟨rfl, rfl, rfl, by simp, Nat.le_refl _, fun k hk => Below.heap_alloc _ _ _ (by omega)⟩
theorem Below.setCell {B : Nat} {a w : World} (h : Below B a w) {p : Addr} (hp : B ≤ p.block) (u : Value) : Below B a (w.setCell p u) :=
  h.trans ⟨rfl, rfl, rfl, by simp [World.setCell], Nat.le_refl _, fun k hk => Below.heap_setCell _ _ _ _ (by omega)⟩
theorem Below.cell {B : Nat} {w w' : World} (h : Below B w w') {p : Addr} (hp : p.block < B) : w'.cell? p = w.cell? p := h.old.cell hp
theorem Below.frame {W w' : World} (h : Below W.heap.size W w') (may : MemPlace → Prop) : W.keptBut w' may := h.old.frame may
theorem tN {α : Type} : ∀ (k : Ask α) (w : World), w.drawn ≤ (w.ask k).2.drawn
  | .done a, w => Nat.le_refl _
  | .ask what range k, w => by
    unfold World.ask
    dsimp only
    split
    · exact tN (k 0) w
    · exact Nat.le_trans (Nat.le_succ _) (tN (k ((Question.extern what range).cut (w.tape w.drawn (Question.extern what range)))) { w with drawn := w.drawn + 1 })
theorem sys_drawn (w : World) (c : Sys) : w.drawn ≤ (w.sys c).2.drawn := by
  unfold World.sys
  have h := tN (Kernel.perform c w.os) w
  split
  · exact Nat.le_refl _
  · rename_i r os w1 heq
    rw [heq] at h; exact h
theorem farStore_drawn {p : Program} {w w1 : World} {a : Addr} {v : Value} {b : Bool} {l : List Addr} (h : w.farStore p a v b = .ok (w1, l)) : w1.drawn = w.drawn := by
  unfold World.farStore at h
  split at h
  · split at h
    · rename_i r hr
      obtain rfl := Except.ok.inj h
      unfold World.viewStore at hr
      simp only [bind, Except.bind, pure, Except.pure] at hr
      repeat' (first | (cases hr; done) | (cases hr; rfl) | split at hr)
    · cases h
  · cases h
theorem run_drawn {α : Type} (p : Program) (s : Sem α) : ∀ (w : World) {a : α} {w' : World}, s.run p w = .ok a w' → w.drawn ≤ w'.drawn := by
  induction s with
  | pure a => intro w _ _ h; cases h; exact Nat.le_refl _
  | load m a k ih =>
    intro w a' w' h
    rw [Sem.run] at h
    split at h
    · exact ih _ _ h
    · split at h
      · exact ih _ _ h
      · cases h
  | store m a v k ih =>
    intro w a' w' h
    have h : (match w.cell? a with
      | some _ => if w.frozen? a then Result.halt (.unsupported (.unsafePointer "a write to bytes that a string shares")) w else k.run p (w.setCell a v)
      | none => match World.farStore p w a v (m == Mode.atomic) with
        | .ok (w, _) => k.run p w
        | .error h => Result.halt h w) = .ok a' w' := by cases v <;> first | exact h | cases h
    split at h
    · split at h
      · cases h
      · exact ih (w.setCell a v) h
    · split at h
      · rename_i w1 l hf
        have := ih w1 h
        rw [farStore_drawn hf] at this; exact this
      · cases h
  | new o k ih => intro w a' w' h; exact ih w.heap.size { w with heap := w.heap.push o } h
  | shape r k ih => intro w a' w' h; exact ih _ _ h
  | freeze a n k ih =>
    intro w a' w' h
    have := ih (w.freeze a n) h
    unfold World.freeze at this
    split at this <;> exact this
  | frozen a k ih => intro w a' w' h; exact ih _ _ h
  | getObj r k ih =>
    intro w a' w' h
    rw [Sem.run] at h
    split at h
    · cases h
    · exact ih _ _ h
    · cases h
  | setObj r o k ih =>
    intro w a' w' h
    have h : (match w.heap[r]? with | some (.cells ..) => Result.halt (.stuck "setObj: a row of cells") w | some _ => k.run p { w with heap := w.heap.setIfInBounds r o } | none => Result.halt (.stuck "setObj: no such block") w) = .ok a' w' := h
    split at h
    · cases h
    · exact ih { w with heap := w.heap.setIfInBounds r o } h
    · cases h
  | choose q k ih =>
    intro w a' w' h
    have h : (if q.forced then (k 0).run p w else (k (q.cut (w.tape w.drawn q))).run p { w with drawn := w.drawn + 1 }) = .ok a' w' := h
    split at h
    · exact ih _ _ h
    · exact Nat.le_trans (Nat.le_succ _) (ih _ { w with drawn := w.drawn + 1 } h)
  | sys c k ih => intro w a' w' h; exact Nat.le_trans (sys_drawn w c) (ih _ _ h)
  | program k ih => intro w a' w' h; exact ih _ _ h
  | mark m k ih => intro w a' w' h; exact ih _ h
  | halt e => intro w a' w' h; cases h
structure GrownD (w w' : World) (row : Option Nat) : Prop where
  old : w.grownBy w' row
  drawn : w.drawn ≤ w'.drawn
theorem Below.grown {B : Nat} {a w w' : World} {row : Option Nat} (h : Below B a w) (hg : GrownD w w' row) (hB : B ≤ w.heap.size) (hr : ∀ k, row = some k → B ≤ k) : Below B a w' :=
  have h2 := h.old.grown hg.old hB hr
  ⟨h2.os, h2.tape, h2.output, h2.size, Nat.le_trans h.drawn hg.drawn, h2.block⟩
theorem gW {P : Program} (w : World) {ops : Array Oper} {rest : List Oper} {o : Oper} {a : Act} {Q : Exit → Act → World → Prop} (hgd : o.guard = none) (s x : Operand) (t : TypeId)
    (ho : o.op = .call { callee := .builtin .append, args := #[s, x], argTypes := #[t, t] })
    (base : Nat) (e : TypeId) (i : TypeInfo) (z : Value) (size bytes : Nat) (ht : P.underlying t = some (.slice e)) (hi : P.info? e = some i) (hz : i.zero = some z)
    (hsize : i.size = size) (hby : i.bytes = bytes) (hzs : z.cells.size = size) (hsz : 0 < size)
    (v : Value) (n : Nat) (xs : List Value) (hs : a.eval s = v) (hown : w.ownsRow base e size v n xs)
    (ad : Addr) (m c : Nat) (news : List Value) (hx : a.eval x = .slice (some ad) m c) (hl : news.length = m * size) (hnews : ∀ j u, news[j]? = some u → w.cell? (ad.add j) = some u) (h1 : ∀ u ∈ news, u.oneCell' = true)
    (h63 : n + m ≤ maxLen) (hbytes : (n + m) * bytes ≤ 140737488355328) (hbase : base ≤ w.heap.size)
    (h : ∀ v' w', w'.ownsRow base e size v' (n + m) (xs ++ news) → GrownD w w' v.ownBlock → (v' = .slice none 0 0 ↔ v = .slice none 0 0 ∧ m = 0) → wpList P ops Q rest (a.put o.dst v') w') : wpList P ops Q (o :: rest) a w := by
  refine wpList_plain hgd fun K hK => ?_
  obtain ⟨v', w', hr, h2, h3, h4⟩ := run_append_own (P := P) w base t o.type e i z size bytes ht hi hz hsize hby hzs hsz v n xs hown ad m c news hl hnews h1 h63 hbytes hbase
  have hd := run_drawn P _ _ hr
  unfold Oper.wp execOp
  simp only [ho, resolve, invoke, builtin, Sem.run_bind, Sem.run_pure, Result.andThen_ok, List.map_toArray, List.map_cons, List.map_nil, hs, hx, hr]
  exact hK _ _ (h v' w' h2 ⟨h3, hd⟩ h4)
end
section
theorem pK (w : World) (a : Addr) (m : Nat) : (w.freeze a m).drawn = w.drawn := by unfold World.freeze; split <;> rfl
theorem wp_append_text {P : Program} {w : World} {ops : Array Oper} {rest : List Oper} {o : Oper} {a : Act} {Q : Exit → Act → World → Prop} (hgd : o.guard = none) (sl x : Operand) (t u : TypeId)
    (ho : o.op = .call { callee := .builtin .append, args := #[sl, x], argTypes := #[t, u] })
    (B : Nat) (e : TypeId) (i : TypeInfo) (ht : P.underlying t = some (.slice e)) (hu : P.underlying u = some .string) (hi : P.info? e = some i) (hz : i.zero = some (.int .u8 0)) (h1 : i.size = 1) (h2 : i.bytes = 1)
    (v : Value) (n : Nat) (xs : List Value) (hs : a.eval sl = v) (hown : w.ownsRow B e 1 v n xs) (s : ByteArray) (hx : a.eval x = .string s) (h63 : n + s.size ≤ maxLen) (hb : n + s.size ≤ 140737488355328) (hB : B ≤ w.heap.size)
    (h : ∀ v' w', w'.ownsRow B e 1 v' (n + s.size) (xs ++ Lib.strCells s) → GrownD w w' v.ownBlock → wpList P ops Q rest (a.put o.dst v') w') : wpList P ops Q (o :: rest) a w :=
  wpList_plain hgd fun K hK => by
    obtain ⟨v', w', hr, k2, k3, _⟩ := Lib.run_append_own_string (P := P) (w := w) B t u o.type e i ht hu hi hz h1 h2 v n xs hown s h63 hb hB
    unfold Oper.wp execOp
    simp only [ho, resolve, invoke, builtin, Sem.run_bind, Sem.run_pure, Result.andThen_ok, List.map_toArray, List.map_cons, List.map_nil, hs, hx, hr]
    exact hK _ _ (h v' w' k2 ⟨k3, run_drawn P _ _ hr⟩)
theorem tV : (Tryz.prog.info? 44).map (·.size) = some 2 := by kernel_rfl
theorem liesBuilder : liesAt Tryz.prog Tryz.prog.depth 44 (2 / Tryz.prog.cellsOf 44) 0 44 1 = true := by kernel_rfl
theorem infoByte : (Tryz.prog.info? 5).map (fun i => (i.zero, i.size, i.bytes)) = some (some (.int .u8 0), 1, 1) := by kernel_rfl
theorem fJ (b : Nat) (w : World) (h0 : w.cell? ⟨b, 0, none⟩ = some (.pointer (some ⟨b, 0, none⟩))) :
    Calls Tryz.prog 42 #[.pointer (some ⟨b, 0, none⟩)] w fun e w' => e = .returned (.tuple #[]) ∧ w' = w := by
  obtain ⟨j, hj, _⟩ := Option.map_eq_some_iff.1 tV
  go_enter Tryz.func42, Tryz.ntmps42
  go_wp2
  rw [Lib.run_neq_ptr_same w _ Tryz.underlying42 hj]
  go_wp2
  go_end0
  exact ⟨rfl, rfl⟩
theorem copyCheck_fresh (b : Nat) (w : World) (h0 : w.cell? ⟨b, 0, none⟩ = some (.pointer none)) (hsh : w.shape? b = some (44, 2)) (hfz : w.frozen? ⟨b, 0, none⟩ = false) :
    Calls Tryz.prog 42 #[.pointer (some ⟨b, 0, none⟩)] w fun e w' => e = .returned (.tuple #[]) ∧ w' = w.setCell ⟨b, 0, none⟩ (.pointer (some ⟨b, 0, none⟩)) := by
  obtain ⟨j, hj, hjs⟩ := Option.map_eq_some_iff.1 tV
  go_enter Tryz.func42, Tryz.ntmps42
  go_wp2
  rw [Lib.run_to_unsafe w ⟨b, 0, none⟩ Tryz.underlying42 Tryz.underlying108 hj (by rw [hjs]; decide) hsh (Nat.zero_lt_succ 1)]
  simp only [Result.andThen]
  rw [Oper.upon_value]
  go_wp2
  rw [run_callFunc_extern Tryz.func70 (by kernel_rfl) (by kernel_rfl) (by kernel_rfl) (e := Extern.AbiNoEscape.same) (by kernel_rfl)]
  rw [Lib.run_noEscape]
  simp only [Result.andThen]
  rw [Oper.upon_value]
  go_wp2
  rw [Lib.run_from_unsafe w ⟨b, 0, none⟩ Tryz.underlying108 Tryz.underlying42 hj hsh liesBuilder]
  simp only [Result.andThen]
  rw [Oper.upon_value]
  go_wp2
  go_end0
  exact ⟨rfl, rfl⟩
theorem mF (B b : Nat) (bs : List Value) (w : World) (h : Lib.IsBuilder 44 5 B b bs w) :
    Calls Tryz.prog 42 #[.pointer (some ⟨b, 0, none⟩)] w fun e w' => e = .returned (.tuple #[]) ∧ (Lib.BuilderAt 44 5 B b (.pointer (some ⟨b, 0, none⟩)) bs w' ∧ Below B w w') := by
  rcases h with h | h
  · refine (copyCheck_fresh b w h.cell0 h.shape h.frozen0).mono ?_
    rintro e w' ⟨rfl, rfl⟩
    exact ⟨rfl, h.used _, (Below.refl B w).setCell (p := ⟨b, 0, none⟩) h.1 _⟩
  · refine (fJ b w h.cell0).mono ?_
    rintro e w' ⟨rfl, rfl⟩
    exact ⟨rfl, h, Below.refl B _⟩
theorem writeByte_any (B b : Nat) (bs : List Value) (c : Int) (w : World) (h : Lib.IsBuilder 44 5 B b bs w) (hlen : bs.length + 1 ≤ 140737488355328) (hBw : B ≤ w.heap.size) :
    Calls Tryz.prog 69 #[.pointer (some ⟨b, 0, none⟩), .int .u8 c] w fun e w' => e = .returned .nilIface ∧ (Lib.BuilderAt 44 5 B b (.pointer (some ⟨b, 0, none⟩)) (bs ++ [.int .u8 c]) w' ∧ Below B w w') := by
  obtain ⟨i0, hi, hz0, hz1, hz2⟩ := info_parts infoByte
  go_enter Tryz.func69, Tryz.ntmps69
  go_wp2_with (go_at_call 42; refine (mF B b bs _ h).mono ?_)
  rintro e w1 ⟨rfl, h1, hb1⟩
  obtain ⟨hB, v, hbk, hown, hne⟩ := h1
  have c0 : w1.cell? ⟨b, 0, none⟩ = some (.pointer (some ⟨b, 0, none⟩)) := by rw [Lib.cell_of_heap hbk]; rfl
  have c1 : w1.cell? ⟨b, 1, none⟩ = some v := by rw [Lib.cell_of_heap hbk]; rfl
  go_wp2_with (at_builtin; refine gW _ rfl _ _ 35 rfl B 5 i0 (.int .u8 0) 1 1 Tryz.underlying35 hi hz0 hz1 hz2 rfl (by decide) _ _ _ rfl (hown.alloc _) ⟨w1.heap.size, 0, none⟩ 1 1 [.int .u8 c] rfl rfl ?c1 ?c2 ?c3 ?c4 ?c5 ?_)
  case c1 =>
    intro j u hj
    match j, hj with
    | 0, hj => simp at hj; subst hj; simp [Addr.add]
  case c2 => intro u hu; simp at hu; subst hu; rfl
  case c3 => unfold maxLen; omega
  case c4 => omega
  case c5 => have := hb1.size; simp; omega
  intro v' w2 hown' hgrow _
  have hlt : b < w1.heap.size := by
    rcases Nat.lt_or_ge b w1.heap.size with h' | h'
    · exact h'
    · simp [Array.getElem?_eq_none h'] at hbk
  have hb2 : w2.heap[b]? = some (.cells #[.pointer (some ⟨b, 0, none⟩), v] 44 (0, 0)) := by
    rw [hgrow.old.block b (by simp; omega) (fun e => hne e.symm), Lib.alloc_old w1 _ b hlt]
    exact hbk
  have d0 : w2.cell? ⟨b, 0, none⟩ = some (.pointer (some ⟨b, 0, none⟩)) := by rw [Lib.cell_of_heap hb2]; rfl
  have d1 : w2.cell? ⟨b, 1, none⟩ = some v := by rw [Lib.cell_of_heap hb2]; rfl
  have f1 : w2.frozen? ⟨b, 1, none⟩ = false := Lib.frozen_of_heap hb2 1
  obtain ⟨g, cap, rfl⟩ : ∃ g cap, v' = .slice (some ⟨g, 0, none⟩) (bs.length + 1) cap := by
    rcases hown'.2 with ⟨_, h0⟩ | ⟨g, cap, cur, hv, _⟩
    · omega
    · exact ⟨g, cap, hv⟩
  go_wp2
  go_ret
  refine ⟨rfl, ?_, ?_⟩
  · exact Lib.BuilderAt.put (T := 44) (e := 5) hB hb2 (bs' := bs ++ [.int .u8 c]) (by simpa using hown') (by decide)
  · exact ((hb1.alloc (by have := hb1.size; omega) _).grown hgrow (by have := hb1.size; simp; omega) (fun k hk => (hown.lt k hk).1)).setCell (p := ⟨b, 1, none⟩) hB _
theorem dP (B b : Nat) (bs : List Value) (s : ByteArray) (w : World) (h : Lib.IsBuilder 44 5 B b bs w) (hlen : bs.length + s.size ≤ 140737488355328) (hBw : B ≤ w.heap.size) :
    Calls Tryz.prog 23 #[.pointer (some ⟨b, 0, none⟩), .string s] w fun e w' => e = .returned (.tuple #[.int .i64 s.size, .nilIface]) ∧ (Lib.BuilderAt 44 5 B b (.pointer (some ⟨b, 0, none⟩)) (bs ++ Lib.strCells s) w' ∧ Below B w w') := by
  obtain ⟨i0, hi, hz0, hz1, hz2⟩ := info_parts infoByte
  go_enter Tryz.func23, Tryz.ntmps23
  go_wp2_with (go_at_call 42; refine (mF B b bs _ h).mono ?_)
  rintro e w1 ⟨rfl, h1, hb1⟩
  obtain ⟨hB, v, hbk, hown, hne⟩ := h1
  have c0 : w1.cell? ⟨b, 0, none⟩ = some (.pointer (some ⟨b, 0, none⟩)) := by rw [Lib.cell_of_heap hbk]; rfl
  have c1 : w1.cell? ⟨b, 1, none⟩ = some v := by rw [Lib.cell_of_heap hbk]; rfl
  go_wp2_with (at_builtin; refine wp_append_text rfl _ _ 35 9 rfl B 5 i0 Tryz.underlying35 Tryz.underlying9 hi hz0 hz1 hz2 _ _ _ rfl hown s rfl ?c3 ?c4 ?c5 ?_)
  case c3 => unfold maxLen; omega
  case c4 => omega
  case c5 => have := hb1.size; omega
  intro v' w2 hown' hgrow
  have hlt : b < w1.heap.size := by
    rcases Nat.lt_or_ge b w1.heap.size with h' | h'
    · exact h'
    · simp [Array.getElem?_eq_none h'] at hbk
  have hb2 : w2.heap[b]? = some (.cells #[.pointer (some ⟨b, 0, none⟩), v] 44 (0, 0)) := by
    rw [hgrow.old.block b hlt (fun e => hne e.symm)]
    exact hbk
  have d0 : w2.cell? ⟨b, 0, none⟩ = some (.pointer (some ⟨b, 0, none⟩)) := by rw [Lib.cell_of_heap hb2]; rfl
  have d1 : w2.cell? ⟨b, 1, none⟩ = some v := by rw [Lib.cell_of_heap hb2]; rfl
  have f1 : w2.frozen? ⟨b, 1, none⟩ = false := Lib.frozen_of_heap hb2 1
  obtain ⟨ao, n', cap, rfl⟩ : ∃ ao n' cap, v' = .slice ao n' cap := by
    rcases hown'.2 with ⟨hv, _⟩ | ⟨g, cap, cur, hv, _⟩
    · exact ⟨_, _, _, hv⟩
    · exact ⟨_, _, _, hv⟩
  go_wp2
  go_ret2
  refine ⟨rfl, ?_, ?_⟩
  · exact Lib.BuilderAt.put (T := 44) (e := 5) hB hb2 (bs' := bs ++ Lib.strCells s) (by simpa [Lib.strCells_length] using hown') (by decide)
  · exact (hb1.grown hgrow (by have := hb1.size; omega) (fun k hk => (hown.lt k hk).1)).setCell (p := ⟨b, 1, none⟩) hB _
theorem pP {l : List UInt8} (h : l ≠ []) : (Lib.byteCells l).length ≠ 0 := by
  rw [Lib.byteCells_length]; exact fun e => h (List.eq_nil_of_length_eq_zero e)
theorem string_any (B b : Nat) (l : List UInt8) (w : World) (h : Lib.IsBuilder 44 5 B b (Lib.byteCells l) w) (h0 : l ≠ []) :
    Calls Tryz.prog 24 #[.pointer (some ⟨b, 0, none⟩)] w fun e w' => e = .returned (.string ⟨l.toArray⟩) ∧ Below B w w' := by
  obtain ⟨p, hB, v, hbk, hown, hne⟩ : ∃ p, Lib.BuilderAt 44 5 B b p (Lib.byteCells l) w := h.elim (fun q => ⟨_, q⟩) (fun q => ⟨_, q⟩)
  rcases hown.2 with ⟨_, hz⟩ | ⟨g, cap, cur, rfl, hbg, hg, hnc, hcm, hcs, htake⟩
  · exact absurd hz (pP h0)
  rw [Lib.byteCells_length] at hown hnc hbk htake
  have hl0 : l.length ≠ 0 := fun e => h0 (List.eq_nil_of_length_eq_zero e)
  have hg' : w.drew.heap[g]? = some (.cells cur 5 (0, 0)) := hg
  have c1 : w.drew.cell? ⟨b, 1, none⟩ = some (.slice (some ⟨g, 0, none⟩) l.length cap) := by
    rw [Lib.cell_of_heap (show w.drew.heap[b]? = _ from hbk)]; rfl
  have hSD := Lib.run_unsafeSliceData_row (P := Tryz.prog) w.drew #[35] 81 ⟨g, 0, none⟩ l.length cap (by omega)
  have hUS := Lib.run_unsafeString_row (P := Tryz.prog) w.drew 81 3 9 5 Tryz.underlying81 (by kernel_rfl) g cur.size (by unfold World.shape?; rw [hg']) l h0 (by omega) (by unfold maxLen at hcm; omega)
    (fun j x hx => hown.cells (g := g) rfl j (.int .u8 x.toNat) (by simp [Lib.byteCells, hx]))
  go_enter Tryz.func24, Tryz.ntmps24
  go_wp2
  have mixed : Tryz.prog.follows .mixedOrders = true := by kernel_rfl
  go_region_o
  all_goals
    go_wp2
    go_ret
    have hf := Lib.below_freeze (Go.RowKit.Below.drew (Go.RowKit.Below.refl B w)) (p := ⟨g, 0, none⟩) hbg l.length
    exact ⟨rfl, hf.os, hf.tape, hf.output, hf.size, by rw [pK]; exact Nat.le_succ _, hf.block⟩
end
section
structure Blk where
  b : Nat
  cs : Array Value
  ty : TypeId
structure Own (M : List Nat) (W w : World) (L : List Blk) : Prop where
  os : w.os = W.os
  tape : w.tape = W.tape
  output : w.output = W.output
  size : W.heap.size ≤ w.heap.size
  drawn : W.drawn ≤ w.drawn
  kept : ∀ k, k < W.heap.size → k ∉ M → w.heap[k]? = W.heap[k]?
  held : ∀ x ∈ L, w.heap[x.b]? = some (.cells x.cs x.ty)
  base : ∀ x ∈ L, W.heap.size ≤ x.b ∨ x.b ∈ M
  apart : (L.map Blk.b).Nodup
theorem Own.below {W w : World} {L : List Blk} (h : Own [] W w L) : Below W.heap.size W w := ⟨h.os, h.tape, h.output, h.size, h.drawn, fun k hk => h.kept k hk (by simp)⟩
theorem Own.start (M : List Nat) (W : World) : Own M W W [] := ⟨rfl, rfl, rfl, Nat.le_refl _, Nat.le_refl _, fun _ _ _ => rfl, by simp, by simp, by simp⟩
theorem Own.lt {M : List Nat} {W w : World} {L : List Blk} (h : Own M W w L) {x : Blk} (hx : x ∈ L) : x.b < w.heap.size := (Array.getElem?_eq_some_iff.1 (h.held x hx)).1
theorem Own.on {M : List Nat} {W w w' : World} {L : List Blk} (h : Own M W w L) (hb : Below w.heap.size w w') : Own M W w' L :=
  ⟨hb.os.trans h.os, hb.tape.trans h.tape, hb.output.trans h.output, Nat.le_trans h.size hb.size, Nat.le_trans h.drawn hb.drawn, fun k hk hm => (hb.block k (Nat.lt_of_lt_of_le hk h.size)).trans (h.kept k hk hm), fun x hx => (hb.block x.b (h.lt hx)).trans (h.held x hx), h.base, h.apart⟩
theorem Own.drew {M : List Nat} {W w : World} {L : List Blk} (h : Own M W w L) : Own M W { w with drawn := w.drawn + 1 } L := ⟨h.os, h.tape, h.output, h.size, Nat.le_succ_of_le h.drawn, h.kept, h.held, h.base, h.apart⟩
theorem Own.get {M : List Nat} {W w : World} {L : List Blk} (h : Own M W w L) {i : Nat} {x : Blk} (hi : L[i]? = some x) : w.heap[x.b]? = some (.cells x.cs x.ty) := h.held x (List.mem_of_getElem? hi)
theorem Own.alloc {M : List Nat} {W w : World} {L : List Blk} (h : Own M W w L) (cs : Array Value) (T : TypeId) : Own M W (w.alloc (.cells cs T)) (⟨w.heap.size, cs, T⟩ :: L) := by
  refine ⟨h.os, h.tape, h.output, Nat.le_trans h.size (by simp), h.drawn, fun k hk hm => ?_, fun x hx => ?_, fun x hx => ?_, ?_⟩
  · rw [Below.heap_alloc w _ k (Nat.lt_of_lt_of_le hk h.size)]; exact h.kept k hk hm
  · rcases List.mem_cons.1 hx with rfl | hx
    · exact heap_alloc_new w _
    · exact (Below.heap_alloc w _ x.b (h.lt hx)).trans (h.held x hx)
  · rcases List.mem_cons.1 hx with rfl | hx
    · exact .inl h.size
    · exact h.base x hx
  · rw [List.map_cons, List.nodup_cons]
    refine ⟨fun hm => ?_, h.apart⟩
    obtain ⟨y, hy, he⟩ := List.mem_map.1 hm
    have := h.lt hy
    rw [he] at this
    exact absurd this (Nat.lt_irrefl _)
theorem map_set_b (L : List Blk) (i : Nat) (x y : Blk) (hi : L[i]? = some x) (hb : y.b = x.b) : (L.set i y).map Blk.b = L.map Blk.b := by
  rw [List.map_set, hb]
  have : (L.map Blk.b)[i]? = some x.b := by rw [List.getElem?_map, hi]; rfl
  obtain ⟨hlt, he⟩ := List.getElem?_eq_some_iff.1 this
  rw [← he, List.set_getElem_self]
theorem nodup_at {α : Type} {l : List α} (h : l.Nodup) {i j : Nat} {x : α} (hi : l[i]? = some x) (hj : l[j]? = some x) : i = j := by
  obtain ⟨a, ha⟩ := List.getElem?_eq_some_iff.1 hi
  obtain ⟨b, hb⟩ := List.getElem?_eq_some_iff.1 hj
  exact (List.getElem_inj h).1 (ha.trans hb.symm)
theorem Own.put {M : List Nat} {W w : World} {L : List Blk} (h : Own M W w L) {i : Nat} {x : Blk} (hi : L[i]? = some x) (cs : Array Value) : Own M W (w.setRow x.b cs) (L.set i ⟨x.b, cs, x.ty⟩) := by
  have hx := List.mem_of_getElem? hi
  have hm := map_set_b L i x ⟨x.b, cs, x.ty⟩ hi rfl
  have hsz : (w.setRow x.b cs).heap.size = w.heap.size := size_setRow w x.b cs
  refine ⟨h.os, h.tape, h.output, by rw [hsz]; exact h.size, h.drawn, fun k hk hkm => ?_, fun y hy => ?_, fun y hy => ?_, by rw [hm]; exact h.apart⟩
  · rw [setRow_other w x.b k cs (fun e => by
      rcases h.base x hx with h1 | h1
      · omega
      · exact hkm (e ▸ h1))]
    exact h.kept k hk hkm
  · obtain ⟨j, hj⟩ := List.mem_iff_getElem?.1 hy
    rw [List.getElem?_set] at hj
    split at hj
    · rename_i hij
      split at hj
      · obtain rfl := Option.some.inj hj
        exact setRow_heap w x.b x.cs cs x.ty _ (h.held x hx)
      · cases hj
    · rename_i hij
      have hyL := List.mem_of_getElem? hj
      have hne : y.b ≠ x.b := fun e => hij (by
        have h1 : (L.map Blk.b)[i]? = some x.b := by rw [List.getElem?_map, hi]; rfl
        have h2 : (L.map Blk.b)[j]? = some x.b := by rw [List.getElem?_map, hj, ← e]; rfl
        exact nodup_at h.apart h1 h2)
      rw [setRow_other w x.b y.b cs hne]
      exact h.held y hyL
  · have : y.b ∈ (L.set i ⟨x.b, cs, x.ty⟩).map Blk.b := List.mem_map.2 ⟨y, hy, rfl⟩
    rw [hm] at this
    obtain ⟨z, hz, he⟩ := List.mem_map.1 this
    rw [← he]; exact h.base z hz
def upd (f : Nat → Value) : Option Tmp → Value → Nat → Value
  | some d, v => fun t => bif Nat.beq t d then v else f t
  | none, _ => f
def Fr (n : Nat) (f : Nat → Value) : Act := { tmps := Array.ofFn (n := n) fun i => f i.val, defers := [] }
def ev (n : Nat) (f : Nat → Value) : Operand → Value
  | .tmp t => bif Nat.blt t n then f t else undef
  | .const v => v
  | .global g => .pointer (some ⟨g, 0, none⟩)
  | .func g => .func (.func g) #[] #[]
theorem blt_t {t n : Nat} (h : t < n) : Nat.blt t n = true := Nat.ble_eq_true_of_le h
theorem blt_f {t n : Nat} (h : ¬ t < n) : Nat.blt t n = false := Bool.eq_false_iff.2 fun e => h (Nat.le_of_ble_eq_true e)
theorem vW (n : Nat) (f : Nat → Value) (t : Nat) : (Array.ofFn (n := n) fun i => f i.val).getD t undef = bif Nat.blt t n then f t else undef := by
  rw [Array.getD_eq_getD_getElem?, Array.getElem?_ofFn]
  by_cases h : t < n
  · rw [dif_pos h, blt_t h]; rfl
  · rw [dif_neg h, blt_f h]; rfl
theorem vP (n : Nat) (f : Nat → Value) : (Fr n f).eval = ev n f := by
  funext x
  cases x with
  | tmp t => exact vW n f t
  | _ => rfl
theorem wH (n : Nat) (f : Nat → Value) (d : Option Tmp) (v : Value) : (Fr n f).put d v = Fr n (upd f d v) := by
  cases d with
  | none => rfl
  | some d =>
    show ({ tmps := (Array.ofFn (n := n) fun i => f i.val).setIfInBounds d v, defers := [] } : Act) = { tmps := Array.ofFn (n := n) fun i => upd f (some d) v i.val, defers := [] }
    have key : (Array.ofFn (n := n) fun i => f i.val).setIfInBounds d v = Array.ofFn (n := n) fun i => upd f (some d) v i.val := by
     apply Array.ext_getElem?
     intro i
     rw [Array.getElem?_setIfInBounds, Array.getElem?_ofFn, Array.getElem?_ofFn]
     by_cases h : i < n
     · rw [dif_pos h, dif_pos h]
       by_cases hd : d = i
       · subst hd
         simp [upd, h]
       · have : Nat.beq i d = false := by rw [Bool.eq_false_iff]; intro e; exact hd (Nat.eq_of_beq_eq_true e).symm
         rw [if_neg hd]; simp [upd, this]
     · rw [dif_neg h, dif_neg h]
       by_cases hd : d = i
       · subst hd; simp [h]
       · rw [if_neg hd]
    rw [key]
def asB : Value → Option Bool
  | .bool b => some b
  | _ => none
def yl (ops : Array Oper) (n : Nat) (f : Nat → Value) (j : Nat) : Option Bool :=
  match (ops[j]?).bind (·.dst) with
  | some d => bif Nat.blt d n then asB (f d) else none
  | none => none
theorem Fr_yielded (ops : Array Oper) (n : Nat) (f : Nat → Value) : yielded ops (Fr n f).tmps = yl ops n f := by
  funext j
  unfold yielded yl
  cases h : (ops[j]?).bind (·.dst) with
  | none => rfl
  | some d =>
    show (match (Array.ofFn (n := n) fun i => f i.val)[d]? with | some (.bool b) => some b | _ => none) = _
    rw [Array.getElem?_ofFn]
    by_cases hd : d < n
    · rw [dif_pos hd]
      dsimp only
      rw [blt_t hd]
      cases f d <;> rfl
    · rw [dif_neg hd]
      dsimp only
      rw [blt_f hd]; rfl
def xD (ops : Array Oper) (n : Nat) (f : Nat → Value) (o : Oper) : Bool := Region.wanted o (yl ops n f)
section
variable {M : List Nat} {P : Program} {n : Nat} {ops : Array Oper} {W : World} {Q : Exit → Act → World → Prop} {rest : List Oper} {o : Oper} {L : List Blk} {f : Nat → Value}
structure Seg (M : List Nat) (P : Program) (n : Nat) (ops : Array Oper) (W : World) (Q : Exit → Act → World → Prop) (rest : List Oper) (L : List Blk) (f : Nat → Value) : Prop where
  go : ∀ w, Own M W w L → wpList P ops Q rest (Fr n f) w
structure Fin (M : List Nat) (n : Nat) (W : World) (Q : Exit → Act → World → Prop) (e : Exit) (L : List Blk) (f : Nat → Value) : Prop where
  go : ∀ w, Own M W w L → Q e (Fr n f) w
structure Ok (M : List Nat) (P : Program) (n : Nat) (W : World) (Q : Exit → Act → World → Prop) (c : Code) (L : List Blk) (f : Nat → Value) : Prop where
  go : ∀ w, Own M W w L → c.wp P Q (Fr n f) w
structure vO (M : List Nat) (P : Program) (n : Nat) (ops : Array Oper) (W : World) (Qe : List Blk → (Nat → Value) → Prop) (rest : List Oper) (L : List Blk) (f : Nat → Value) : Prop where
  go : wpQuiet P ops (fun w => Own M W w L) (fun a => ∃ f', a = Fr n f' ∧ Qe L f') rest (Fr n f)
theorem wL (ops : Array Oper) (n : Nat) (f : Nat → Value) (o : Oper) : Region.wanted o (yielded ops (Fr n f).tmps) = xD ops n f o := by rw [Fr_yielded]; rfl
theorem zL (h : Fin M n W Q .normal L f) : Seg M P n ops W Q [] L f := ⟨h.go⟩
theorem s_skip (hw : xD ops n f o = false) (h : Seg M P n ops W Q rest L (upd f o.dst undef)) : Seg M P n ops W Q (o :: rest) L f := ⟨fun w hO => by
  have := h.go w hO
  unfold wpList
  rw [wL, hw, if_neg Bool.false_ne_true, wH]
  exact this⟩
theorem Zk (h : Seg M P n ops W Q rest L (upd f o.dst undef)) (hw : xD ops n f o = false := by kernel_rfl) : Seg M P n ops W Q (o :: rest) L f := s_skip hw h
theorem qO (hw : xD ops n f o = true) (h : ∀ w, Own M W w L → o.wp P (Fr n f) w (wpList P ops Q rest) Q) : Seg M P n ops W Q (o :: rest) L f := ⟨fun w hO => by
  unfold wpList
  rw [wL, hw, if_pos rfl]
  exact .inl (h w hO)⟩
theorem qN {K : Act → World → Prop} {w w' : World} (v : Value) (hr : (execOp (ev n f) o).run P w = .ok (.value v) w') (h : K (Fr n (upd f o.dst v)) w') : o.wp P (Fr n f) w K Q := by
  unfold Oper.wp
  rw [vP, hr]
  show K ((Fr n f).put o.dst v) w'
  rw [wH]; exact h
theorem zK (v : Value) (hw : xD ops n f o = true) (hr : ∀ w, (execOp (ev n f) o).run P w = .ok (.value v) w) (h : Seg M P n ops W Q rest L (upd f o.dst v)) : Seg M P n ops W Q (o :: rest) L f :=
  qO hw fun w hO => qN v (hr w) (h.go w hO)
theorem Zv (v : Value) (h : Seg M P n ops W Q rest L (upd f o.dst v)) (hw : xD ops n f o = true := by kernel_rfl) (hr : ∀ w, (execOp (ev n f) o).run P w = .ok (.value v) w := by intro _; kernel_rfl) : Seg M P n ops W Q (o :: rest) L f := zK v hw hr h
theorem s_read (v : Value) (hw : xD ops n f o = true) (hr : ∀ w, Own M W w L → (execOp (ev n f) o).run P w = .ok (.value v) w) (h : Seg M P n ops W Q rest L (upd f o.dst v)) : Seg M P n ops W Q (o :: rest) L f :=
  qO hw fun w hO => qN v (hr w hO) (h.go w hO)
theorem nQ {K : Act → World → Prop} {w : World} {k : FuncId} {args : Array Value} (he : (execOp (ev n f) o).run P w = .ok (.enter k args) w)
    (hc : Calls P k args w fun e w' => ∃ v, e = .returned v ∧ K (Fr n (upd f o.dst v)) w') : o.wp P (Fr n f) w K Q := by
  unfold Oper.wp
  rw [vP, he]
  show Calls P k args w _
  refine hc.mono fun e w' ⟨v, e1, e2⟩ => ?_
  subst e1
  show K ((Fr n f).put o.dst v) w'
  rw [wH]; exact e2
theorem pW {k : FuncId} {args : Array Value} (v : Value) (hw : xD ops n f o = true) (he : ∀ w, (execOp (ev n f) o).run P w = .ok (.enter k args) w)
    (hc : ∀ w, Own M W w L → Calls P k args w fun e w' => e = .returned v ∧ Below w.heap.size w w') (h : Seg M P n ops W Q rest L (upd f o.dst v)) : Seg M P n ops W Q (o :: rest) L f :=
  qO hw fun w hO => nQ (he w) ((hc w hO).mono fun e w' ⟨e1, e2⟩ => ⟨v, e1, h.go w' (hO.on e2)⟩)
theorem Zc {k : FuncId} {args : Array Value} (v : Value) (hc : ∀ w, Own M W w L → Calls P k args w fun e w' => e = .returned v ∧ Below w.heap.size w w') (h : Seg M P n ops W Q rest L (upd f o.dst v)) (hw : xD ops n f o = true := by kernel_rfl) (he : ∀ w, (execOp (ev n f) o).run P w = .ok (.enter k args) w := by intro _; kernel_rfl) : Seg M P n ops W Q (o :: rest) L f := pW v hw he hc h
def m8 : TypeDesc → Bool
  | .struct _ | .array _ _ => true
  | _ => false
def kA (P : Program) (ty : TypeId) (cs : Array Value) (off : Nat) : Option Value :=
  match P.underlying ty, P.info? ty with
  | some (.struct _), some i => if off + i.size ≤ cs.size then some (.agg (cs.toList.drop off |>.take i.size).toArray) else none
  | some (.array _ _), some i => if off + i.size ≤ cs.size then some (.agg (cs.toList.drop off |>.take i.size).toArray) else none
  | some _, some _ => cs[off]?
  | _, _ => none
theorem yM (b o j : Nat) : (⟨b, o, none⟩ : Addr).add j = ⟨b, o + j, none⟩ := by unfold Addr.add; split <;> simp_all
theorem run_agg_at {ty : TypeId} {d : TypeDesc} {i : TypeInfo} {cs : Array Value} {w : World} {b off : Nat} {T : TypeId} (hu : P.underlying ty = some d) (hd : m8 d = true) (hi : P.info? ty = some i)
    (hg : w.heap[b]? = some (.cells cs T)) (hle : off + i.size ≤ cs.size) : (loadVar ty ⟨b, off, none⟩).run P w = .ok (.agg (cs.toList.drop off |>.take i.size).toArray) w := by
  have hlen : ((cs.toList.drop off).take i.size).length = i.size := by simp; omega
  have hl := run_loadCells_list (P := P) w ⟨b, off, none⟩ ((cs.toList.drop off).take i.size) (fun j v hv => by
    rw [yM, cell_of_row w b (off + j) cs T _ hg]
    have hj : j < i.size := by have := (List.getElem?_eq_some_iff.1 hv).1; rw [hlen] at this; exact this
    rw [List.getElem?_take, if_pos hj, List.getElem?_drop] at hv
    simpa using hv)
  rw [hlen] at hl
  have hagg : (isAgg ty).run P w = .ok true w := by
    unfold isAgg
    rw [Sem.run_bind, run_underlying hu w]
    cases d <;> simp_all [m8]
  simp [loadVar, Sem.run_bind, hagg, sizeOf, typeInfo, hi, hl]
theorem qB {ty : TypeId} {cs : Array Value} {off : Nat} {v : Value} (h : kA P ty cs off = some v) {w : World} {b : Nat} {T : TypeId} (hg : w.heap[b]? = some (.cells cs T)) :
    (loadVar ty ⟨b, off, none⟩).run P w = .ok v w := by
  unfold kA at h
  cases hu : P.underlying ty with
  | none => rw [hu] at h; simp at h
  | some d =>
    cases hi : P.info? ty with
    | none => rw [hu, hi] at h; cases d <;> simp at h
    | some i =>
      rw [hu, hi] at h
      by_cases hd : m8 d = true
      · have h2 : (if off + i.size ≤ cs.size then some (Value.agg (cs.toList.drop off |>.take i.size).toArray) else none) = some v := by
          cases d <;> first | exact h | (simp [m8] at hd)
        split at h2
        · rename_i hle
          obtain rfl := Option.some.inj h2
          exact run_agg_at hu hd hi hg hle
        · cases h2
      · have h2 : cs[off]? = some v := by cases d <;> first | exact h | (simp [m8] at hd)
        have hagg : (isAgg ty).run P w = .ok false w := by
          unfold isAgg
          rw [Sem.run_bind, run_underlying hu w]
          cases d <;> simp_all [m8]
        have hc : w.cell? ⟨b, off, none⟩ = some v := (cell_of_row w b off cs T _ hg).trans h2
        simp [loadVar, Sem.run_bind, hagg, run_load, hc, Result.andThen]
theorem gH {ty : TypeId} {x : Operand} {a : Addr} {v : Value} {w : World} (ho : o.op = .load ty x) (hx : ev n f x = .pointer (some a)) (hl : (loadVar ty a).run P w = .ok v w) : (execOp (ev n f) o).run P w = .ok (.value v) w := by
  unfold execOp
  simp only [ho, hx, Instr.loadAt, Instr.sureAddr, Sem.run_bind, Sem.run_pure, Result.andThen_ok, hl]
theorem s_load (i : Nat) (x : Blk) {ty : TypeId} {p : Operand} {off : Nat} (v : Value) (hw : xD ops n f o = true) (ho : o.op = .load ty p) (hL : L[i]? = some x) (hp : ev n f p = .pointer (some ⟨x.b, off, none⟩)) (hv : kA P ty x.cs off = some v)
    (h : Seg M P n ops W Q rest L (upd f o.dst v)) : Seg M P n ops W Q (o :: rest) L f :=
  s_read v hw (fun _ hO => gH ho hp (qB hv (hO.get hL))) h
theorem Zl (i : Nat) (x : Blk) {ty : TypeId} {p : Operand} {off : Nat} (v : Value) (h : Seg M P n ops W Q rest L (upd f o.dst v)) (ho : o.op = .load ty p := by rfl) (hw : xD ops n f o = true := by kernel_rfl) (hL : L[i]? = some x := by rfl) (hp : ev n f p = .pointer (some ⟨x.b, off, none⟩) := by kernel_rfl) (hv : kA P ty x.cs off = some v := by kernel_rfl) : Seg M P n ops W Q (o :: rest) L f := s_load i x v hw ho hL hp hv h
theorem s_old {ty : TypeId} {p : Operand} {a : Addr} (v : Value) (hw : xD ops n f o = true) (ho : o.op = .load ty p) (hp : ev n f p = .pointer (some a)) (hv : ∀ w, Own M W w L → (loadVar ty a).run P w = .ok v w)
    (h : Seg M P n ops W Q rest L (upd f o.dst v)) : Seg M P n ops W Q (o :: rest) L f :=
  s_read v hw (fun w hO => gH ho hp (hv w hO)) h
theorem Zo {ty : TypeId} {p : Operand} {a : Addr} (v : Value) (hv : ∀ w, Own M W w L → (loadVar ty a).run P w = .ok v w) (h : Seg M P n ops W Q rest L (upd f o.dst v)) (ho : o.op = .load ty p := by rfl) (hw : xD ops n f o = true := by kernel_rfl) (hp : ev n f p = .pointer (some a) := by kernel_rfl) : Seg M P n ops W Q (o :: rest) L f := s_old v hw ho hp hv h
theorem s_alloc {T : TypeId} {i : TypeInfo} (z : Value) (hw : xD ops n f o = true) (ho : o.op = .alloc T) (hi : P.info? T = some i) (hz : i.zero = some z)
    (h : ∀ b, Seg M P n ops W Q rest (⟨b, z.cells, T⟩ :: L) (upd f o.dst (.pointer (some ⟨b, 0, none⟩)))) : Seg M P n ops W Q (o :: rest) L f :=
  qO hw fun w hO => by
    refine qN (.pointer (some ⟨w.heap.size, 0, none⟩)) (w' := w.alloc (.cells z.cells T)) ?_ ((h w.heap.size).go _ (hO.alloc _ _))
    unfold execOp
    simp [ho, Instr.alloc, zeroValue, typeInfo, hi, hz, newVar, newRow, Sem.run_bind]
theorem s_box {T : TypeId} {x : Operand} (v : Value) (hw : xD ops n f o = true) (ho : o.op = .box T x) (hx : ev n f x = v)
    (h : ∀ b, Seg M P n ops W Q rest (⟨b, v.cells, T⟩ :: L) (upd f o.dst (.pointer (some ⟨b, 0, none⟩)))) : Seg M P n ops W Q (o :: rest) L f :=
  qO hw fun w hO => by
    refine qN (.pointer (some ⟨w.heap.size, 0, none⟩)) (w' := w.alloc (.cells v.cells T)) ?_ ((h w.heap.size).go _ (hO.alloc _ _))
    unfold execOp
    simp [ho, hx, Instr.box, newVar, newRow, Sem.run_bind]
theorem Zb {T : TypeId} {x : Operand} (v : Value) (h : ∀ b, Seg M P n ops W Q rest (⟨b, v.cells, T⟩ :: L) (upd f o.dst (.pointer (some ⟨b, 0, none⟩)))) (ho : o.op = .box T x := by rfl) (hw : xD ops n f o = true := by kernel_rfl) (hx : ev n f x = v := by kernel_rfl) : Seg M P n ops W Q (o :: rest) L f := s_box v hw ho hx h
def kF (cs : Array Value) (off : Nat) (vs : Array Value) : Array Value := (cs.toList.take off ++ vs.toList ++ cs.toList.drop (off + vs.size)).toArray
theorem s_store (i : Nat) (x : Blk) {T : TypeId} {t : TypeInfo} {p q : Operand} {off : Nat} (v : Value) (hw : xD ops n f o = true) (ho : o.op = .store T p q) (hd : o.dst = none) (hL : L[i]? = some x)
    (hp : ev n f p = .pointer (some ⟨x.b, off, none⟩)) (hq : ev n f q = v) (hi : P.info? T = some t) (hs : v.cells.size = t.size) (hle : off + t.size ≤ x.cs.size) (h1 : ∀ u ∈ v.cells.toList, u.oneCell' = true)
    (h : Seg M P n ops W Q rest (L.set i ⟨x.b, kF x.cs off v.cells, x.ty⟩) f) : Seg M P n ops W Q (o :: rest) L f :=
  qO hw fun w hO => by
    have hst := run_storeCells_at (P := P) x.b off x.ty v.cells.toList 0 x.cs w (hO.get hL) (by simp; omega) h1
    unfold Oper.wp
    rw [vP]
    have hr : (execOp (ev n f) o).run P w = .ok .skip (w.setRow x.b (kF x.cs off v.cells)) := by
      unfold execOp
      simp only [ho, hp, hq, Instr.storeAt, Instr.sureAddr, Sem.run_bind, Sem.run_pure, Result.andThen_ok, storeVar, sizeOf, typeInfo, hi, hs, run_program]
      simp only [ne_eq, not_true_eq_false, if_false]
      have : (storeCells ⟨x.b, off, none⟩ v.cells.toList).run P w = .ok () (w.setRow x.b (kF x.cs off v.cells)) := by
        rw [hst]; unfold kF; simp
      simp [this]
    rw [hr]
    show wpList P ops Q rest ((Fr n f).put o.dst undef) _
    rw [wH, hd]
    exact h.go _ (hO.put hL _)
theorem xP {Qe : List Blk → (Nat → Value) → Prop} (h : Qe L f) : vO M P n ops W Qe [] L f := ⟨⟨f, rfl, h⟩⟩
theorem q_skip {Qe : List Blk → (Nat → Value) → Prop} (hw : xD ops n f o = false) (h : vO M P n ops W Qe rest L (upd f o.dst undef)) : vO M P n ops W Qe (o :: rest) L f := by
  refine ⟨?_⟩
  replace h := h.go
  refine BigFrame.wpQuiet_skip (by rw [wL]; exact hw) ?_
  rw [wH]; exact h
theorem Zj {Qe : List Blk → (Nat → Value) → Prop} (h : vO M P n ops W Qe rest L (upd f o.dst undef)) (hw : xD ops n f o = false := by kernel_rfl) : vO M P n ops W Qe (o :: rest) L f := q_skip hw h
theorem q_read {Qe : List Blk → (Nat → Value) → Prop} (v : Value) (hw : xD ops n f o = true) (hr : ∀ w, Own M W w L → (execOp (ev n f) o).run P w = .ok (.value v) w) (h : vO M P n ops W Qe rest L (upd f o.dst v)) : vO M P n ops W Qe (o :: rest) L f := by
  refine ⟨?_⟩
  replace h := h.go
  refine BigFrame.wpQuiet_want (by rw [wL]; exact hw) fun K hK => ⟨v, fun w hO => ?_, hK _ ?_⟩
  · unfold Oper.quietAt
    rw [vP, hr w hO]
    exact ⟨rfl, rfl⟩
  · rw [wH]; exact h
theorem kL {Qe : List Blk → (Nat → Value) → Prop} (v : Value) (hw : xD ops n f o = true) (hr : ∀ w, (execOp (ev n f) o).run P w = .ok (.value v) w) (h : vO M P n ops W Qe rest L (upd f o.dst v)) : vO M P n ops W Qe (o :: rest) L f :=
  q_read v hw (fun w _ => hr w) h
theorem Zw {Qe : List Blk → (Nat → Value) → Prop} (v : Value) (h : vO M P n ops W Qe rest L (upd f o.dst v)) (hw : xD ops n f o = true := by kernel_rfl) (hr : ∀ w, (execOp (ev n f) o).run P w = .ok (.value v) w := by intro _; kernel_rfl) : vO M P n ops W Qe (o :: rest) L f := kL v hw hr h
theorem q_call {Qe : List Blk → (Nat → Value) → Prop} {k : FuncId} {args : Array Value} (v : Value) (hw : xD ops n f o = true) (he : ∀ w, (execOp (ev n f) o).run P w = .ok (.enter k args) w)
    (hc : ∀ w, Own M W w L → Calls P k args w fun e w' => e = .returned v ∧ Below w.heap.size w w') (h : vO M P n ops W Qe rest L (upd f o.dst v)) : vO M P n ops W Qe (o :: rest) L f := by
  refine ⟨?_⟩
  replace h := h.go
  refine BigFrame.wpQuiet_want (by rw [wL]; exact hw) fun K hK => ⟨v, fun w hO => ?_, hK _ ?_⟩
  · unfold Oper.quietAt
    rw [vP, he w]
    exact ⟨rfl, (hc w hO).mono fun e w' ⟨e1, e2⟩ => ⟨e1, hO.on e2⟩⟩
  · rw [wH]; exact h
theorem Zq {Qe : List Blk → (Nat → Value) → Prop} {k : FuncId} {args : Array Value} (v : Value) (hc : ∀ w, Own M W w L → Calls P k args w fun e w' => e = .returned v ∧ Below w.heap.size w w') (h : vO M P n ops W Qe rest L (upd f o.dst v)) (hw : xD ops n f o = true := by kernel_rfl) (he : ∀ w, (execOp (ev n f) o).run P w = .ok (.enter k args) w := by intro _; kernel_rfl) : vO M P n ops W Qe (o :: rest) L f := q_call v hw he hc h
theorem jX {Qe : List Blk → (Nat → Value) → Prop} (i : Nat) (x : Blk) {ty : TypeId} {p : Operand} {off : Nat} (v : Value) (hw : xD ops n f o = true) (ho : o.op = .load ty p) (hL : L[i]? = some x) (hp : ev n f p = .pointer (some ⟨x.b, off, none⟩)) (hv : kA P ty x.cs off = some v)
    (h : vO M P n ops W Qe rest L (upd f o.dst v)) : vO M P n ops W Qe (o :: rest) L f :=
  q_read v hw (fun _ hO => gH ho hp (qB hv (hO.get hL))) h
theorem Zm {Qe : List Blk → (Nat → Value) → Prop} (i : Nat) (x : Blk) {ty : TypeId} {p : Operand} {off : Nat} (v : Value) (h : vO M P n ops W Qe rest L (upd f o.dst v)) (ho : o.op = .load ty p := by rfl) (hw : xD ops n f o = true := by kernel_rfl) (hL : L[i]? = some x := by kernel_rfl) (hp : ev n f p = .pointer (some ⟨x.b, off, none⟩) := by kernel_rfl) (hv : kA P ty x.cs off = some v := by kernel_rfl) : vO M P n ops W Qe (o :: rest) L f := jX i x v hw ho hL hp hv h
theorem p6 {Qe : List Blk → (Nat → Value) → Prop} {ty : TypeId} {p : Operand} {a : Addr} (v : Value) (hw : xD ops n f o = true) (ho : o.op = .load ty p) (hp : ev n f p = .pointer (some a)) (hv : ∀ w, Own M W w L → (loadVar ty a).run P w = .ok v w)
    (h : vO M P n ops W Qe rest L (upd f o.dst v)) : vO M P n ops W Qe (o :: rest) L f :=
  q_read v hw (fun w hO => gH ho hp (hv w hO)) h
theorem z8 {x y : Code} (h : Ok M P n W (Exit.then (Code.wp P y Q) Q) x L f) : Ok M P n W Q (.seq x y) L f := ⟨fun w hO => wp_seq (h.go w hO)⟩
theorem zA {id : Nat} {l : List Oper} (h : Seg M P n l.toArray W Q l L f) : Ok M P n W Q (.region id l.toArray false) L f := ⟨fun w hO => wp_region_lit (h.go w hO)⟩
theorem g7 {id : Nat} {l : List Oper} (hm : P.follows .mixedOrders = true) (hB : Region.lexB .any l.toArray = true) (h : vO M P n l.toArray W (Fin M n W Q .normal) l L f) : Ok M P n W Q (.region id l.toArray true) L f := ⟨fun w hO =>
  wp_region_quiet (C := fun w => Own M W w L) hm hB hO.drew (by
    have e : l.toArray.toList = l := by simp
    rw [e]
    have key : ∀ (r : List Oper) (a : Act), wpQuiet P l.toArray (fun w => Own M W w L) (fun a => ∃ f', a = Fr n f' ∧ Fin M n W Q .normal L f') r a → wpQuiet P l.toArray (fun w => Own M W w L) (fun a' => ∀ w', Own M W w' L → Q .normal a' w') r a := by
      intro r
      induction r with
      | nil => rintro a ⟨f', rfl, h⟩; exact h.go
      | cons o r ih =>
        intro a h
        unfold wpQuiet at h ⊢
        split
        · rename_i hw; rw [if_pos hw] at h; exact Oper.quiet_mono ih h
        · rename_i hw; rw [if_neg hw] at h; exact ih _ h
    exact key l _ h.go)⟩
theorem ok_true {c : Operand} {x y : Code} (hc : ev n f c = .bool true) (h : Ok M P n W Q x L f) : Ok M P n W Q (.cond c x y) L f := ⟨fun w hO => wp_cond_true (by rw [vP]; exact hc) (h.go w hO)⟩
theorem Zt {c : Operand} {x y : Code} (h : Ok M P n W Q x L f) (hc : ev n f c = .bool true := by kernel_rfl) : Ok M P n W Q (.cond c x y) L f := ok_true hc h
theorem ok_false {c : Operand} {x y : Code} (hc : ev n f c = .bool false) (h : Ok M P n W Q y L f) : Ok M P n W Q (.cond c x y) L f := ⟨fun w hO => wp_cond_false (by rw [vP]; exact hc) (h.go w hO)⟩
theorem Zf {c : Operand} {x y : Code} (h : Ok M P n W Q y L f) (hc : ev n f c = .bool false := by kernel_rfl) : Ok M P n W Q (.cond c x y) L f := ok_false hc h
theorem zX {id : Nat} {c : Code} (h : Ok M P n W (Exit.inBlock id Q) c L f) : Ok M P n W Q (.block id c) L f := ⟨fun w hO => wp_block (h.go w hO)⟩
theorem xQ {id : Nat} (h : Fin M n W Q (.exit id) L f) : Ok M P n W Q (.exit id) L f := ⟨fun w hO => wp_exit (h.go w hO)⟩
theorem yT (h : Fin M n W Q .normal L f) : Ok M P n W Q .skip L f := ⟨fun w hO => wp_skip (h.go w hO)⟩
theorem zB (h : Fin M n W Q .ret L f) : Ok M P n W Q .ret L f := ⟨fun w hO => wp_ret (h.go w hO)⟩
theorem z7 {y : Code} (h : Ok M P n W Q y L f) : Fin M n W (Exit.then (Code.wp P y Q) Q) .normal L f := ⟨h.go⟩
theorem ZN {y : Code} (h : Ok M P n W Q y L f) : Seg M P n ops W (Exit.then (Code.wp P y Q) Q) [] L f := zL (z7 h)
theorem ZO {y : Code} {id : Nat} {l : List Oper} (h : Seg M P n l.toArray W (Exit.then (Code.wp P y Q) Q) l L f) : Ok M P n W Q (.seq (.region id l.toArray false) y) L f := z8 (zA h)
theorem ZR {y : Code} {id : Nat} {l : List Oper} (h : Seg M P n l.toArray W (Exit.then (Code.wp P y Q) Q) l L f) : Seg M P n ops W (Exit.then (Code.wp P (.seq (.region id l.toArray false) y) Q) Q) [] L f := ZN (ZO h)
theorem ZY {c : Operand} {x y : Code} (h : Ok M P n W Q x L f) (hc : ev n f c = .bool true := by kernel_rfl) : Seg M P n ops W (Exit.then (Code.wp P (.cond c x y) Q) Q) [] L f := ZN (ok_true hc h)
theorem ZX {c : Operand} {x y : Code} (h : Ok M P n W Q y L f) (hc : ev n f c = .bool false := by kernel_rfl) : Seg M P n ops W (Exit.then (Code.wp P (.cond c x y) Q) Q) [] L f := ZN (ok_false hc h)
theorem ZB {y : Code} (h : Ok M P n W Q y L f) : Ok M P n W (Exit.then (Code.wp P y Q) Q) .skip L f := yT (z7 h)
theorem z6 {K : Act → World → Prop} (h : Fin M n W Q .ret L f) : Fin M n W (Exit.then K Q) .ret L f := ⟨h.go⟩
theorem yA {K : Act → World → Prop} {id : Nat} (h : Fin M n W Q (.exit id) L f) : Fin M n W (Exit.then K Q) (.exit id) L f := ⟨h.go⟩
theorem zR {id : Nat} (h : Fin M n W Q .normal L f) : Fin M n W (Exit.inBlock id Q) .normal L f := ⟨h.go⟩
theorem zD {id : Nat} (h : Fin M n W Q .ret L f) : Fin M n W (Exit.inBlock id Q) .ret L f := ⟨h.go⟩
theorem zW {id : Nat} (h : Fin M n W Q .normal L f) : Fin M n W (Exit.inBlock id Q) (.exit id) L f := ⟨fun w hO => by
  show if id = id then _ else _
  rw [if_pos rfl]; exact h.go w hO⟩
theorem fin_block_other {id id' : Nat} (hne : id' ≠ id) (h : Fin M n W Q (.exit id') L f) : Fin M n W (Exit.inBlock id Q) (.exit id') L f := ⟨fun w hO => by
  show if id' = id then _ else _
  rw [if_neg hne]; exact h.go w hO⟩
def Round (M : List Nat) (n : Nat) (W : World) (Inv : List Blk → (Nat → Value) → Nat → Prop) (m : Nat) (Q : Exit → Act → World → Prop) : Exit → Act → World → Prop :=
  Exit.then (fun a w => ∃ L f m', m' < m ∧ Inv L f m' ∧ Own M W w L ∧ a = Fr n f) Q
theorem kH {c : Code} (Inv : List Blk → (Nat → Value) → Nat → Prop) (m : Nat) (h0 : Inv L f m) (h : ∀ L f m, Inv L f m → Ok M P n W (Round M n W Inv m Q) c L f) : Ok M P n W Q (.loop c) L f := ⟨fun w hO => by
  intro b k cs
  have run : ∀ (m : Nat) (L : List Blk) (f : Nat → Value) (w : World), Inv L f m → Own M W w L → ∃ e a' w', Q e a' w' ∧ Arrives P (lone (b.at (Fr n f) (.code c :: .inLoop c :: k)) cs w) b k cs e a' w' := by
    intro m
    induction m using Nat.strongRecOn with
    | _ m ih =>
      intro L f w hI hO
      obtain ⟨e, a₁, w₁, hq, harr⟩ := (h L f m hI).go w hO b (.inLoop c :: k) cs
      cases e with
      | normal =>
        obtain ⟨L', f', m', hlt, hI', hO', rfl⟩ := hq
        obtain ⟨e₂, a₂, w₂, hq₂, harr₂⟩ := ih m' hlt L' f' w₁ hI' hO'
        exact ⟨e₂, a₂, w₂, hq₂, .of_steps (Steps.trans harr (.one step_inLoop)) harr₂⟩
      | exit id => exact ⟨_, a₁, w₁, hq, .pass (x := .inLoop c) rfl (fun _ _ => .inl (by simp)) harr⟩
      | goto l => exact ⟨_, a₁, w₁, hq, .pass (x := .inLoop c) rfl (fun _ _ => .inl (by simp)) harr⟩
      | ret => exact ⟨_, a₁, w₁, hq, .pass (x := .inLoop c) rfl (fun _ _ => .inl (by simp)) harr⟩
      | panic ch => exact ⟨_, a₁, w₁, hq, .pass (x := .inLoop c) rfl (fun _ _ => .inl (by simp)) harr⟩
      | outgrown => exact ⟨_, a₁, w₁, hq, .pass (x := .inLoop c) rfl (fun _ _ => .inl (by simp)) harr⟩
  obtain ⟨e, a', w', hq, harr⟩ := run m L f w h0 hO
  exact ⟨e, a', w', hq, .of_steps (.one step_loop) harr⟩⟩
theorem zY {Inv : List Blk → (Nat → Value) → Nat → Prop} {m m' : Nat} (hlt : m' < m) (hI : Inv L f m') : Fin M n W (Round M n W Inv m Q) .normal L f := ⟨fun w hO => ⟨L, f, m', hlt, hI, hO, rfl⟩⟩
theorem yG {Inv : List Blk → (Nat → Value) → Nat → Prop} {m : Nat} (h : Fin M n W Q .ret L f) : Fin M n W (Round M n W Inv m Q) .ret L f := ⟨h.go⟩
theorem y5 {Inv : List Blk → (Nat → Value) → Nat → Prop} {m id : Nat} (h : Fin M n W Q (.exit id) L f) : Fin M n W (Round M n W Inv m Q) (.exit id) L f := ⟨h.go⟩
theorem upd_self {f : Nat → Value} {d : Nat} {v : Value} (h : f d = v) : f = upd f (some d) v := by
  funext t
  show f t = bif Nat.beq t d then v else f t
  by_cases e : t = d
  · subst e
    have : Nat.beq t t = true := Nat.beq_refl t
    rw [this]; exact h
  · have : Nat.beq t d = false := by rw [Bool.eq_false_iff]; intro h2; exact e (Nat.eq_of_beq_eq_true h2)
    rw [this]; rfl
theorem calls_okM (M : List Nat) {k : FuncId} {fn : Func} {c : Code} {args : Array Value} {R : Ending → World → Prop} (hf : P.funcs[k]? = some fn) (hb : fn.body = some c) (hn : fn.ntmps = n) (hle : Nat.ble args.size n = true)
    (h : Ok M P n W (bodyPost P fn R) c [] (fun t => args.getD t undef)) : Calls P k args W R := by
  refine calls_of_wp hf hb ?_
  have hle' : args.size ≤ n := Nat.le_of_ble_eq_true hle
  have e : ({ tmps := args ++ Array.replicate (fn.ntmps - args.size) undef, defers := [] } : Act) = Fr n (fun t => args.getD t undef) := by
    unfold Fr
    congr 1
    rw [hn]
    apply Array.ext_getElem?
    intro i
    rw [Array.getElem?_ofFn, Array.getElem?_append, Array.getElem?_replicate]
    by_cases hi : i < args.size
    · rw [if_pos hi, dif_pos (by omega), Array.getElem?_eq_getElem hi]
      simp [Array.getD, hi]
    · rw [if_neg hi]
      by_cases hin : i < n
      · rw [if_pos (by omega), dif_pos hin]
        simp [Array.getD, hi]
      · rw [if_neg (by omega), dif_neg hin]
  rw [e]
  exact h.go W (Own.start _ W)
theorem zM {k : FuncId} {fn : Func} {c : Code} {args : Array Value} {R : Ending → World → Prop} (hf : P.funcs[k]? = some fn) (hb : fn.body = some c) (hn : fn.ntmps = n) (hle : Nat.ble args.size n = true)
    (h : Ok [] P n W (bodyPost P fn R) c [] (fun t => args.getD t undef)) : Calls P k args W R := calls_okM [] hf hb hn hle h
theorem fin_ret {fn : Func} {R : Ending → World → Prop} {t : Tmp} (v : Value) (hres : fn.results = #[.tmp t]) (hv : ev n f (.tmp t) = v) (hR : ∀ w, Own M W w L → R (.returned v) w) : Fin M n W (bodyPost P fn R) .ret L f := ⟨fun w hO => by
  refine bodyPost_ret (v := v) ?_ rfl (hR w hO)
  rw [results_tmp hres]
  have : (Fr n f).tmps.getD t undef = v := (vW n f t).trans hv
  rw [this]⟩
theorem ZF {fn : Func} {R : Ending → World → Prop} {t : Tmp} (v : Value) (hres : fn.results = #[.tmp t]) (hR : ∀ w, Own M W w L → R (.returned v) w) (hv : ev n f (.tmp t) = v := by kernel_rfl) : Fin M n W (bodyPost P fn R) .ret L f := fin_ret v hres hv hR
def resAt (P : Program) (n : Nat) (f : Nat → Value) (L : List Blk) : ResultVar → Nat → Option Value
  | .tmp t, _ => some (ev n f (.tmp t))
  | .cell p ty, i =>
    match L[i]?, ev n f (.tmp p) with
    | some x, .pointer (some ⟨b, off, none⟩) => bif Nat.beq b x.b then kA P ty x.cs off else none
    | _, _ => none
theorem fin_cell {fn : Func} {R : Ending → World → Prop} {p : Tmp} {ty : TypeId} (i : Nat) (x : Blk) {off : Nat} (v : Value) (hres : fn.results = #[.cell p ty]) (hL : L[i]? = some x) (hp : ev n f (.tmp p) = .pointer (some ⟨x.b, off, none⟩)) (hv : kA P ty x.cs off = some v)
    (hR : ∀ w, Own M W w L → R (.returned v) w) : Fin M n W (bodyPost P fn R) .ret L f := ⟨fun w hO => by
  refine bodyPost_ret (v := v) ?_ rfl (hR w hO)
  have e : (Fr n f).tmps.getD p undef = .pointer (some ⟨x.b, off, none⟩) := (vW n f p).trans hp
  have hr := qB hv (hO.get hL)
  have e' : (Fr n f).tmps[p]?.getD undef = .pointer (some ⟨x.b, off, none⟩) := by simpa using e
  simp [results, hres, e', asAddr, hr]⟩
theorem ZC {fn : Func} {R : Ending → World → Prop} {p : Tmp} {ty : TypeId} (i : Nat) (x : Blk) {off : Nat} (v : Value) (hres : fn.results = #[.cell p ty]) (hR : ∀ w, Own M W w L → R (.returned v) w) (hL : L[i]? = some x := by kernel_rfl) (hp : ev n f (.tmp p) = .pointer (some ⟨x.b, off, none⟩) := by kernel_rfl) (hv : kA P ty x.cs off = some v := by kernel_rfl) : Fin M n W (bodyPost P fn R) .ret L f := fin_cell i x v hres hL hp hv hR
theorem vM {fn : Func} {R : Ending → World → Prop} {t u : Tmp} (v v' : Value) (hres : fn.results = #[.tmp t, .tmp u]) (hv : ev n f (.tmp t) = v) (hv' : ev n f (.tmp u) = v') (hR : ∀ w, Own M W w L → R (.returned (.tuple #[v, v'])) w) : Fin M n W (bodyPost P fn R) .ret L f := ⟨fun w hO => by
  refine bodyPost_ret (v := .tuple #[v, v']) ?_ rfl (hR w hO)
  rw [results_tmp2 hres]
  have e1 : (Fr n f).tmps.getD t undef = v := (vW n f t).trans hv
  have e2 : (Fr n f).tmps.getD u undef = v' := (vW n f u).trans hv'
  rw [e1, e2]⟩
theorem fin_cell2 {fn : Func} {R : Ending → World → Prop} {p u : Tmp} {ty : TypeId} (i : Nat) (x : Blk) {off : Nat} (v v' : Value) (hres : fn.results = #[.cell p ty, .tmp u]) (hL : L[i]? = some x) (hp : ev n f (.tmp p) = .pointer (some ⟨x.b, off, none⟩)) (hv : kA P ty x.cs off = some v) (hv' : ev n f (.tmp u) = v')
    (hR : ∀ w, Own M W w L → R (.returned (.tuple #[v, v'])) w) : Fin M n W (bodyPost P fn R) .ret L f := ⟨fun w hO => by
  refine bodyPost_ret (v := .tuple #[v, v']) ?_ rfl (hR w hO)
  have e : (Fr n f).tmps.getD p undef = .pointer (some ⟨x.b, off, none⟩) := (vW n f p).trans hp
  have hr := qB hv (hO.get hL)
  have e' : (Fr n f).tmps[p]?.getD undef = .pointer (some ⟨x.b, off, none⟩) := by simpa using e
  have e2 : (Fr n f).tmps.getD u undef = v' := (vW n f u).trans hv'
  have e2' : (Fr n f).tmps[u]?.getD undef = v' := by simpa using e2
  simp [results, hres, e', e2', asAddr, hr]⟩
theorem ZD {fn : Func} {R : Ending → World → Prop} {p u : Tmp} {ty : TypeId} (i : Nat) (x : Blk) {off : Nat} (v v' : Value) (hres : fn.results = #[.cell p ty, .tmp u]) (hR : ∀ w, Own M W w L → R (.returned (.tuple #[v, v'])) w) (hL : L[i]? = some x := by kernel_rfl) (hp : ev n f (.tmp p) = .pointer (some ⟨x.b, off, none⟩) := by kernel_rfl) (hv : kA P ty x.cs off = some v := by kernel_rfl) (hv' : ev n f (.tmp u) = v' := by kernel_rfl) : Fin M n W (bodyPost P fn R) .ret L f := fin_cell2 i x v v' hres hL hp hv hv' hR
end
section
variable {M : List Nat} {P : Program} {n : Nat} {ops : Array Oper} {W : World} {Q : Exit → Act → World → Prop} {rest : List Oper} {o : Oper} {L : List Blk} {f : Nat → Value} {Qe : List Blk → (Nat → Value) → Prop}
theorem xO {p : Prop} [Decidable p] (t : Bool) (hw : xD ops n f o = true) (hr : ∀ w, (execOp (ev n f) o).run P w = .ok (.value (.bool (decide p))) w) (hp : decide p = t) (h : Seg M P n ops W Q rest L (upd f o.dst (.bool t))) : Seg M P n ops W Q (o :: rest) L f := zK (.bool t) hw (fun w => hp ▸ hr w) h
theorem Zd {p : Prop} [Decidable p] (t : Bool) (hp : decide p = t) (h : Seg M P n ops W Q rest L (upd f o.dst (.bool t))) (hw : xD ops n f o = true := by kernel_rfl) (hr : ∀ w, (execOp (ev n f) o).run P w = .ok (.value (.bool (decide p))) w := by intro _; kernel_rfl) : Seg M P n ops W Q (o :: rest) L f := xO t hw hr hp h
theorem mD {p : Prop} [Decidable p] (t : Bool) (hw : xD ops n f o = true) (hr : ∀ w, (execOp (ev n f) o).run P w = .ok (.value (.bool (decide p))) w) (hp : decide p = t) (h : vO M P n ops W Qe rest L (upd f o.dst (.bool t))) : vO M P n ops W Qe (o :: rest) L f := kL (.bool t) hw (fun w => hp ▸ hr w) h
theorem Ze {p : Prop} [Decidable p] (t : Bool) (hp : decide p = t) (h : vO M P n ops W Qe rest L (upd f o.dst (.bool t))) (hw : xD ops n f o = true := by kernel_rfl) (hr : ∀ w, (execOp (ev n f) o).run P w = .ok (.value (.bool (decide p))) w := by intro _; kernel_rfl) : vO M P n ops W Qe (o :: rest) L f := mD t hw hr hp h
theorem wZ {p : Prop} [Decidable p] (t : Bool) (hw : xD ops n f o = true) (hr : ∀ w, (execOp (ev n f) o).run P w = .ok (.value (.bool (!decide p))) w) (hp : decide p = t) (h : Seg M P n ops W Q rest L (upd f o.dst (.bool (!t)))) : Seg M P n ops W Q (o :: rest) L f := zK (.bool (!t)) hw (fun w => hp ▸ hr w) h
theorem Zn {p : Prop} [Decidable p] (t : Bool) (hp : decide p = t) (h : Seg M P n ops W Q rest L (upd f o.dst (.bool (!t)))) (hw : xD ops n f o = true := by kernel_rfl) (hr : ∀ w, (execOp (ev n f) o).run P w = .ok (.value (.bool (!decide p))) w := by intro _; kernel_rfl) : Seg M P n ops W Q (o :: rest) L f := wZ t hw hr hp h
theorem s_sum {k : IntKind} (z : Int) (hw : xD ops n f o = true) (hr : ∀ w, (execOp (ev n f) o).run P w = .ok (.value (.int k (k.wrap z))) w) (hz : k.wrap z = z) (h : Seg M P n ops W Q rest L (upd f o.dst (.int k z))) : Seg M P n ops W Q (o :: rest) L f := zK (.int k z) hw (fun w => by rw [hr w, hz]) h
theorem Zu {k : IntKind} (z : Int) (hz : k.wrap z = z) (h : Seg M P n ops W Q rest L (upd f o.dst (.int k z))) (hw : xD ops n f o = true := by kernel_rfl) (hr : ∀ w, (execOp (ev n f) o).run P w = .ok (.value (.int k (k.wrap z))) w := by intro _; kernel_rfl) : Seg M P n ops W Q (o :: rest) L f := s_sum z hw hr hz h
theorem p5 {k : IntKind} (z : Int) (hw : xD ops n f o = true) (hr : ∀ w, (execOp (ev n f) o).run P w = .ok (.value (.int k (k.wrap z))) w) (hz : k.wrap z = z) (h : vO M P n ops W Qe rest L (upd f o.dst (.int k z))) : vO M P n ops W Qe (o :: rest) L f := kL (.int k z) hw (fun w => by rw [hr w, hz]) h
theorem s_alloc_at {T : TypeId} (z : Value) (hw : xD ops n f o = true) (ho : o.op = .alloc T) (hi : (P.info? T).map (·.zero) = some (some z))
    (h : ∀ b, Seg M P n ops W Q rest (⟨b, z.cells, T⟩ :: L) (upd f o.dst (.pointer (some ⟨b, 0, none⟩)))) : Seg M P n ops W Q (o :: rest) L f := by
  cases hq : P.info? T with
  | none => rw [hq] at hi; cases hi
  | some i => rw [hq] at hi; exact s_alloc z hw ho hq (Option.some.inj hi) h
theorem Za {T : TypeId} (z : Value) (h : ∀ b, Seg M P n ops W Q rest (⟨b, z.cells, T⟩ :: L) (upd f o.dst (.pointer (some ⟨b, 0, none⟩)))) (ho : o.op = .alloc T := by rfl) (hw : xD ops n f o = true := by kernel_rfl) (hi : (P.info? T).map (·.zero) = some (some z) := by kernel_rfl) : Seg M P n ops W Q (o :: rest) L f := s_alloc_at z hw ho hi h
theorem s_store_at (i : Nat) (x : Blk) {T : TypeId} {p q : Operand} {off : Nat} (v : Value) (hw : xD ops n f o = true) (ho : o.op = .store T p q) (hd : o.dst = none) (hL : L[i]? = some x)
    (hp : ev n f p = .pointer (some ⟨x.b, off, none⟩)) (hq : ev n f q = v) (hi : ((P.info? T).map fun t => Nat.beq v.cells.size t.size && Nat.ble (off + t.size) x.cs.size) = some true) (h1 : (v.cells.toList.all fun u => u.oneCell') = true)
    (h : Seg M P n ops W Q rest (L.set i ⟨x.b, kF x.cs off v.cells, x.ty⟩) f) : Seg M P n ops W Q (o :: rest) L f := by
  cases hz : P.info? T with
  | none => rw [hz] at hi; cases hi
  | some t =>
    rw [hz] at hi
    have e : (Nat.beq v.cells.size t.size && Nat.ble (off + t.size) x.cs.size) = true := Option.some.inj hi
    rw [Bool.and_eq_true] at e
    exact s_store i x v hw ho hd hL hp hq hz (Nat.eq_of_beq_eq_true e.1) (Nat.le_of_ble_eq_true e.2) (List.all_eq_true.1 h1) h
theorem Zs (i : Nat) (x : Blk) {T : TypeId} {p q : Operand} {off : Nat} (v : Value) (h : Seg M P n ops W Q rest (L.set i ⟨x.b, kF x.cs off v.cells, x.ty⟩) f) (ho : o.op = .store T p q := by rfl) (hd : o.dst = none := by rfl) (hw : xD ops n f o = true := by kernel_rfl) (hL : L[i]? = some x := by kernel_rfl) (hp : ev n f p = .pointer (some ⟨x.b, off, none⟩) := by kernel_rfl) (hq : ev n f q = v := by kernel_rfl) (hi : ((P.info? T).map fun t => Nat.beq v.cells.size t.size && Nat.ble (off + t.size) x.cs.size) = some true := by kernel_rfl) (h1 : (v.cells.toList.all fun u => u.oneCell') = true := by kernel_rfl) : Seg M P n ops W Q (o :: rest) L f := s_store_at i x v hw ho hd hL hp hq hi h1 h
end
end
section
def backB (md : Region.Mode) (l : List Oper) (i : Nat) : Bool :=
  match l[i]? with
  | some o => o.after.all fun e => !(Region.binds md e) || decide (e.on < i)
  | none => false
def waitB (md : Region.Mode) (l : List Oper) (t i : Nat) : Bool :=
  match l[t]? with
  | some o => o.after.any fun e => Region.binds md e && e.on == i
  | none => false
def inB (l : List Oper) (m i : Nat) : Bool :=
  match l[i]? with
  | some o => match o.guard with | some (g, _) => decide (g < m) | none => true
  | none => false
def preB (md : Region.Mode) (l : List Oper) (m : Nat) : Bool :=
  decide (m ≤ l.length) && (List.range l.length).all (fun i => backB md l i) && (List.range m).all (fun i => inB l m i && (decide (l.length ≤ m) || waitB md l m i)) && (List.range l.length).all fun t => decide (t ≤ m) || waitB md l t (t - 1)
section
variable {P : Program} {md : Region.Mode} {l : List Oper} {m : Nat}
structure PreOk (md : Region.Mode) (l : List Oper) (m : Nat) : Prop where
  le : m ≤ l.length
  back : ∀ i o, l[i]? = some o → ∀ e ∈ o.after, Region.binds md e = true → e.on < i
  inn : ∀ i o g b, i < m → l[i]? = some o → o.guard = some (g, b) → g < m
  first : ∀ i o, i < m → l[m]? = some o → ∃ e ∈ o.after, Region.binds md e = true ∧ e.on = i
  chain : ∀ t o, m < t → l[t]? = some o → ∃ e ∈ o.after, Region.binds md e = true ∧ e.on = t - 1
theorem waitB_spec {t i : Nat} {o : Oper} (ho : l[t]? = some o) (h : waitB md l t i = true) : ∃ e ∈ o.after, Region.binds md e = true ∧ e.on = i := by
  unfold waitB at h
  rw [ho] at h
  obtain ⟨e, he, hb⟩ := Array.any_eq_true'.1 h
  simp only [Bool.and_eq_true, beq_iff_eq] at hb
  exact ⟨e, he, hb.1, hb.2⟩
theorem preB_ok (h : preB md l m = true) : PreOk md l m := by
  unfold preB at h
  simp only [Bool.and_eq_true, decide_eq_true_eq, List.all_eq_true, List.mem_range, Bool.or_eq_true] at h
  obtain ⟨⟨⟨h1, h2⟩, h3⟩, h4⟩ := h
  refine ⟨h1, fun i o ho e he hb => ?_, fun i o g b hi ho hg => ?_, fun i o hi ho => ?_, fun t o ht ho => ?_⟩
  · have hi := (List.getElem?_eq_some_iff.1 ho).1
    have := h2 i hi
    unfold backB at this
    rw [ho] at this
    have := Array.all_eq_true_iff_forall_mem.1 this e he
    rw [hb] at this
    simpa using this
  · have := (h3 i hi).1
    unfold inB at this
    rw [ho] at this
    dsimp only at this
    rw [hg] at this
    simpa using this
  · have hm := (List.getElem?_eq_some_iff.1 ho).1
    rcases (h3 i hi).2 with h | h
    · omega
    · exact waitB_spec ho h
  · have hl := (List.getElem?_eq_some_iff.1 ho).1
    rcases h4 t hl with h | h
    · omega
    · exact waitB_spec ho h
def Upto (n k : Nat) (listed : Array Bool) : Prop := listed.size = n ∧ ∀ i, i < n → listed[i]? = some (decide (i < k))
theorem Upto.set {n k : Nat} {listed : Array Bool} (h : Upto n k listed) : Upto n (k + 1) (listed.setIfInBounds k true) := by
  refine ⟨by rw [Array.size_setIfInBounds]; exact h.1, fun i hi => ?_⟩
  rw [Array.getElem?_setIfInBounds]
  by_cases e : k = i
  · subst e
    rw [if_pos rfl, if_pos (by rw [h.1]; exact hi)]
    simp
  · rw [if_neg e, h.2 i hi]
    congr 1
    exact decide_eq_decide.2 (by omega)
theorem pR {a : Array Bool} {i : Nat} {b d : Bool} (h : a[i]? = some b) : a.getD i d = b := by rw [Array.getD_eq_getD_getElem?, h]; rfl
theorem mS (hp : PreOk md l m) {k : Nat} {listed : Array Bool} (hk : m ≤ k) (h : Upto l.length k listed) : ∀ i, i ∈ Region.ready md l.toArray listed ↔ (i = k ∧ k < l.length) := by
  intro i
  rw [mem_ready]
  constructor
  · rintro ⟨h1, o, ho, h2⟩
    have ho' : l[i]? = some o := by simpa using ho
    have hi := (List.getElem?_eq_some_iff.1 ho').1
    have hki : ¬ i < k := fun hlt => by
      rw [pR (h.2 i hi)] at h1
      simp [hlt] at h1
    refine ⟨?_, by omega⟩
    rcases Nat.lt_or_ge k i with hlt | hge
    · obtain ⟨e, he, hb, hon⟩ := hp.chain i o (by omega) ho'
      have := h2 e he hb
      rw [hon, pR (h.2 (i - 1) (by omega))] at this
      simp at this
      omega
    · omega
  · rintro ⟨rfl, hlt⟩
    refine ⟨by rw [pR (h.2 i hlt)]; simp, l[i], by simp, fun e he hb => ?_⟩
    have := hp.back i l[i] (List.getElem?_eq_getElem hlt) e he hb
    rw [pR (h.2 e.on (by omega))]
    simpa using this
theorem any_tail (hp : PreOk md l m) {Q : Exit → Act → World → Prop} : ∀ (d k fuel : Nat) (listed : Array Bool) (a : Act) (w : World), d = l.length - k → m ≤ k → k ≤ l.length → d ≤ fuel → Upto l.length k listed → wpList P l.toArray Q (l.drop k) a w → wpAny P md l.toArray Q fuel listed a w := by
  intro d
  induction d with
  | zero =>
    intro k fuel listed a w hd hk hkl _ hu h
    have hkn : k = l.length := by omega
    have hr : Region.ready md l.toArray listed = [] := by
      apply List.eq_nil_iff_forall_not_mem.2
      intro i hi
      have := (mS hp hk hu i).1 hi
      omega
    have hq : Q .normal a w := by
      rw [hkn, List.drop_length] at h; exact h
    cases fuel with
    | zero => exact ⟨hr, hq⟩
    | succ f => exact ⟨fun _ => hq, fun i hi => by rw [hr] at hi; cases hi⟩
  | succ d ih =>
    intro k fuel listed a w hd hk hkl hf hu h
    have hlt : k < l.length := by omega
    obtain ⟨f, rfl⟩ : ∃ f, fuel = f + 1 := ⟨fuel - 1, by omega⟩
    refine ⟨fun hr => ?_, fun i hi => ?_⟩
    · have := (mS hp hk hu k).2 ⟨rfl, hlt⟩
      rw [hr] at this; cases this
    · obtain ⟨rfl, _⟩ := (mS hp hk hu i).1 hi
      have ho : l.toArray[i]? = some l[i] := by simp
      rw [List.drop_eq_getElem_cons hlt] at h
      have hw : wpOp P l.toArray Q i (wpList P l.toArray Q (l.drop (i + 1))) a w := by unfold wpOp; simp only [ho]; exact h
      exact wpOp_mono (fun a' w' h' => ih (i + 1) f _ a' w' (by omega) (by omega) (by omega) (by omega) hu.set h') hw
structure Part (n m : Nat) (listed' listed : Array Bool) : Prop where
  size' : listed'.size = m
  size : listed.size = n
  same : ∀ i, i < m → listed[i]? = listed'[i]?
  rest : ∀ t, m ≤ t → t < n → listed[t]? = some false
theorem Part.get {n m : Nat} {listed' listed : Array Bool} (h : Part n m listed' listed) {i : Nat} (hi : i < m) : ∃ b, listed'[i]? = some b := ⟨_, Array.getElem?_eq_getElem (by rw [h.size']; exact hi)⟩
theorem Part.set {n m i : Nat} {listed' listed : Array Bool} (h : Part n m listed' listed) (hi : i < m) : Part n m (listed'.setIfInBounds i true) (listed.setIfInBounds i true) := by
  refine ⟨by rw [Array.size_setIfInBounds]; exact h.size', by rw [Array.size_setIfInBounds]; exact h.size, fun j hj => ?_, fun t ht htn => ?_⟩
  · rw [Array.getElem?_setIfInBounds, Array.getElem?_setIfInBounds]
    by_cases e : i = j
    · subst e
      rw [if_pos rfl, if_pos rfl, h.size']
      by_cases hin : i < listed.size
      · rw [if_pos hin, if_pos hi]
      · have h1 := h.same i hi
        rw [Array.getElem?_eq_none (by omega)] at h1
        obtain ⟨b, hb⟩ := h.get hi
        rw [← h1] at hb; cases hb
    · rw [if_neg e, if_neg e]; exact h.same j hj
  · rw [Array.getElem?_setIfInBounds, if_neg (by omega)]; exact h.rest t ht htn
theorem least_false (b : Nat → Bool) : ∀ m, (∃ i, i < m ∧ b i = false) → ∃ k, k < m ∧ b k = false ∧ ∀ j, j < k → b j = true := by
  intro m
  induction m with
  | zero => rintro ⟨i, hi, _⟩; omega
  | succ m ih =>
    rintro ⟨i, hi, hb⟩
    by_cases h : ∃ i, i < m ∧ b i = false
    · obtain ⟨k, h1, h2, h3⟩ := ih h
      exact ⟨k, by omega, h2, h3⟩
    · have : i = m := by
        rcases Nat.lt_or_ge i m with h4 | h4
        · exact absurd ⟨i, h4, hb⟩ h
        · omega
      subst this
      refine ⟨i, by omega, hb, fun j hj => ?_⟩
      cases hj2 : b j with
      | true => rfl
      | false => exact absurd ⟨j, hj, hj2⟩ h
theorem take_at {i : Nat} (hi : i < m) : (l.take m).toArray[i]? = l.toArray[i]? := by simp [List.getElem?_take, hi]
theorem part_in (hp : PreOk md l m) {listed' listed : Array Bool} (h : Part l.length m listed' listed) (hun : ∃ i, i < m ∧ listed'.getD i true = false) : ∀ i ∈ Region.ready md l.toArray listed, i < m := by
  intro i hi
  rw [mem_ready] at hi
  obtain ⟨h1, o, ho, h2⟩ := hi
  have ho' : l[i]? = some o := by simpa using ho
  have hil := (List.getElem?_eq_some_iff.1 ho').1
  rcases Nat.lt_trichotomy i m with hlt | rfl | hgt
  · exact hlt
  · obtain ⟨j, hj, hjf⟩ := hun
    obtain ⟨e, he, hb, hon⟩ := hp.first j o hj ho'
    have h3 := h2 e he hb
    obtain ⟨b, hj'⟩ := h.get hj
    rw [hon, Array.getD_eq_getD_getElem?, h.same j hj, hj'] at h3
    rw [Array.getD_eq_getD_getElem?, hj'] at hjf
    simp at h3 hjf
    rw [h3] at hjf; cases hjf
  · obtain ⟨e, he, hb, hon⟩ := hp.chain i o hgt ho'
    have h3 := h2 e he hb
    rw [hon, pR (h.rest (i - 1) (by omega) (by omega))] at h3
    cases h3
theorem mY (hp : PreOk md l m) {listed' listed : Array Bool} (h : Part l.length m listed' listed) {i : Nat} (hi : i < m) : i ∈ Region.ready md l.toArray listed ↔ i ∈ Region.ready md (l.take m).toArray listed' := by
  rw [mem_ready, mem_ready, take_at hi]
  have e1 : ∀ j d, j < m → listed.getD j d = listed'.getD j d := fun j d hj => by rw [Array.getD_eq_getD_getElem?, Array.getD_eq_getD_getElem?, h.same j hj]
  rw [e1 i true hi]
  constructor
  · rintro ⟨h1, o, ho, h2⟩
    have ho' : l[i]? = some o := by simpa using ho
    exact ⟨h1, o, ho, fun e he hb => by have := hp.back i o ho' e he hb; rw [← e1 _ _ (by omega)]; exact h2 e he hb⟩
  · rintro ⟨h1, o, ho, h2⟩
    have ho' : l[i]? = some o := by simpa using ho
    exact ⟨h1, o, ho, fun e he hb => by have := hp.back i o ho' e he hb; rw [e1 _ _ (by omega)]; exact h2 e he hb⟩
theorem want_take (hp : PreOk md l m) {i : Nat} (hi : i < m) {o : Oper} (ho : l[i]? = some o) (tmps : Array Value) : Region.wanted o (yielded (l.take m).toArray tmps) = Region.wanted o (yielded l.toArray tmps) := by
  unfold Region.wanted
  cases hg : o.guard with
  | none => rfl
  | some x =>
    obtain ⟨g, b⟩ := x
    have := hp.inn i o g b hi ho hg
    dsimp only
    unfold yielded
    rw [take_at this]
theorem qOp_take (hp : PreOk md l m) {C : World → Prop} {i : Nat} (hi : i < m) {K : Act → Prop} {a : Act} (h : qOp P (l.take m).toArray C i K a) : qOp P l.toArray C i K a := by
  unfold qOp at h ⊢
  rw [take_at hi] at h
  cases ho : l.toArray[i]? with
  | none => rw [ho] at h; exact h
  | some o =>
    rw [ho] at h
    have ho' : l[i]? = some o := by simpa using ho
    dsimp only at h ⊢
    rw [want_take hp hi ho'] at h
    exact h
theorem any_pre (hp : PreOk md l m) {C : World → Prop} {Q : Exit → Act → World → Prop} {Qq : Act → Prop} {g : Nat} (H : ∀ (fuel : Nat) (listed : Array Bool) (a : Act) (w : World), g ≤ fuel → Upto l.length m listed → C w → Qq a → wpAny P md l.toArray Q fuel listed a w) :
    ∀ (fuel : Nat) (listed' listed : Array Bool) (a : Act) (w : World), Part l.length m listed' listed → C w → wpAnyQ P md (l.take m).toArray C Qq fuel listed' a → wpAny P md l.toArray Q (fuel + g) listed a w := by
  have full : ∀ (listed' listed : Array Bool), Part l.length m listed' listed → (¬ ∃ i, i < m ∧ listed'.getD i true = false) → Upto l.length m listed := by
    intro listed' listed h hno
    refine ⟨h.size, fun i hi => ?_⟩
    by_cases him : i < m
    · rw [h.same i him, decide_eq_true him]
      obtain ⟨b, e⟩ := h.get him
      rw [e]
      cases b with
      | true => rfl
      | false => exact absurd ⟨i, him, by rw [Array.getD_eq_getD_getElem?, e]; rfl⟩ hno
    · rw [decide_eq_false him]; exact h.rest i (by omega) hi
  have some_ready : ∀ (listed' listed : Array Bool), Part l.length m listed' listed → (∃ i, i < m ∧ listed'.getD i true = false) → ∃ k, k < m ∧ k ∈ Region.ready md l.toArray listed := by
    intro listed' listed h hun
    obtain ⟨k, hk, hf, hall⟩ := least_false (fun i => listed'.getD i true) m hun
    refine ⟨k, hk, (mY hp h hk).2 (mem_ready.2 ⟨hf, l[k]'(by have := hp.le; omega), ?_, fun e he hb => ?_⟩)⟩
    · rw [take_at hk]; simp
    · have := hp.back k _ (List.getElem?_eq_getElem (by have := hp.le; omega)) e he hb
      have h2 := hall e.on this
      obtain ⟨b, e2⟩ := h.get (i := e.on) (by omega)
      rw [Array.getD_eq_getD_getElem?, e2] at h2 ⊢
      simpa using h2
  intro fuel
  induction fuel with
  | zero =>
    intro listed' listed a w h hw hq
    have hno : ¬ ∃ i, i < m ∧ listed'.getD i true = false := fun hun => by
      obtain ⟨k, hk, hr⟩ := some_ready _ _ h hun
      have := (mY hp h hk).1 hr
      rw [hq.1] at this; cases this
    exact H _ listed a w (by omega) (full _ _ h hno) hw hq.2
  | succ f ih =>
    intro listed' listed a w h hw hq
    by_cases hun : ∃ i, i < m ∧ listed'.getD i true = false
    · rw [show f + 1 + g = (f + g) + 1 from by omega]
      refine ⟨fun hr => ?_, fun i hi => ?_⟩
      · obtain ⟨k, hk, hr2⟩ := some_ready _ _ h hun
        rw [hr] at hr2; cases hr2
      · have him := part_in hp h hun i hi
        have h1 := hq.2 i ((mY hp h him).1 hi)
        exact wpOp_of_qOp hw (fun a' w' hw' hk => ih _ _ a' w' (h.set him) hw' hk) (qOp_take hp him h1)
    · have hr : Region.ready md (l.take m).toArray listed' = [] := by
        apply List.eq_nil_iff_forall_not_mem.2
        intro i hi
        have h1 := (mem_ready.1 hi).1
        obtain ⟨_, o, ho, _⟩ := mem_ready.1 hi
        have : i < m := by
          have := (Array.getElem?_eq_some_iff.1 ho).1
          simp at this; omega
        exact hun ⟨i, this, h1⟩
      exact H _ listed a w (by omega) (full _ _ h hun) hw (hq.1 hr)
end
section
variable {M : List Nat} {P : Program} {n : Nat} {W : World} {Q : Exit → Act → World → Prop} {L : List Blk} {f : Nat → Value}
theorem ok_drawt {id : Nat} {l : List Oper} (m : Nat) (hm : P.follows .mixedOrders = true) (hB : Region.lexB .any (l.take m).toArray = true) (hP : preB .any l m = true)
    (h : vO M P n (l.take m).toArray W (fun L f => Seg M P n l.toArray W Q (l.drop m) L f) (l.take m) L f) : Ok M P n W Q (.region id l.toArray true) L f := ⟨fun w hO => by
  have hp := preB_ok hP
  simp only [Region.lexB, Bool.and_eq_true] at hB
  have hle : (l.take m).length = m := by rw [List.length_take]; have := hp.le; omega
  have hq := wpAnyQ_lex (md := .any) (C := fun w => Own M W w L) hB.1 (l.take m) 0 (Array.replicate (l.take m).toArray.size false) (Fr n f) (by simp) (by simpa using hB.2) h.go
  refine wp_region_any hm ?_
  have hres := any_pre (P := P) (md := .any) hp (C := fun w => Own M W w L) (Q := Q) (g := l.length - m) (fun fuel listed a w hf hu hw ⟨f', ha, hs⟩ => by
    subst ha
    exact any_tail hp (l.length - m) m fuel listed _ w rfl (Nat.le_refl _) hp.le hf hu (hs.go w hw)) (l.take m).length (Array.replicate (l.take m).toArray.size false) (Array.replicate l.toArray.size false) (Fr n f) { w with drawn := w.drawn + 1 }
    ⟨by simp [hp.le], by simp, fun i hi => by
      have := hp.le
      rw [Array.getElem?_replicate, Array.getElem?_replicate, if_pos (by simp; omega), if_pos (by simp; omega)], fun t _ ht => by rw [Array.getElem?_replicate, if_pos (by simpa using ht)]⟩ hO.drew hq
  rw [hle, show m + (l.length - m) = l.toArray.size from by have := hp.le; simp; omega] at hres
  exact hres⟩
end
theorem bH {P : Program} {ρ : Operand → Value} {o : Oper} {t e : TypeId} {x ix : Operand} {b off off' n sz : Nat} {k : IntKind} {j : Int} (ho : o.op = .indexAddr t x ix) (hx : ρ x = .pointer (some ⟨b, off, none⟩)) (hi : ρ ix = .int k j)
    (hu : P.underlying t = some (.array n e)) (hs : (P.info? e).map (·.size) = some sz) (h0 : 0 ≤ j) (h1 : j < n) (hoff : off + j.toNat * sz = off') (w : World) : (execOp ρ o).run P w = .ok (.value (.pointer (some ⟨b, off', none⟩))) w := by
  subst hoff
  cases he : P.info? e with
  | none => rw [he] at hs; cases hs
  | some i =>
    rw [he] at hs
    obtain rfl := Option.some.inj hs
    unfold execOp
    simp [ho, hx, hi, Instr.indexAt, Sem.run_bind, asIntOf, run_underlying hu, Instr.sureAddr, h0, h1, sizeOf, typeInfo, he, yM]
theorem qM {P : Program} {k : FuncId} {args : Array Value} {w : World} {v v' : Value} (h : v = v') (hc : Calls P k args w fun e w' => e = .returned v ∧ Below w.heap.size w w') : Calls P k args w fun e w' => e = .returned v' ∧ Below w.heap.size w w' := by subst h; exact hc
theorem ret_b {P : Program} {k : FuncId} {args : Array Value} {w : World} {a b : Bool} (h : a = b) (hc : Calls P k args w fun e w' => e = .returned (.bool a) ∧ Below w.heap.size w w') : Calls P k args w fun e w' => e = .returned (.bool b) ∧ Below w.heap.size w w' := by subst h; exact hc
end
section
theorem Own.sub {M : List Nat} {W w : World} {L0 : List Blk} : ∀ (E : List Blk), Own M W w (E ++ L0) → Own M W w L0
  | [], h => h
  | e :: E, h => Own.sub E ⟨h.os, h.tape, h.output, h.size, h.drawn, h.kept, fun x hx => h.held x (List.mem_cons_of_mem _ hx), fun x hx => h.base x (List.mem_cons_of_mem _ hx), by
      have := h.apart
      rw [List.cons_append, List.map_cons, List.nodup_cons] at this
      exact this.2⟩
section
variable {M : List Nat} {P : Program} {n : Nat} {ops : Array Oper} {W : World} {Q : Exit → Act → World → Prop} {L0 L : List Blk} {f : Nat → Value} {fuel : Nat} {listed : Array Bool}
def PQ (Q : Exit → Act → World → Prop) : Prop := ∀ c (a : Act) d v w, Q (.panic c) (a.put d v) w → Q (.panic c) a w
theorem zJ {K : Act → World → Prop} (h : PQ Q) : PQ (Exit.then K Q) := fun c a d v w h2 => h c a d v w h2
theorem zH {id : Nat} (h : PQ Q) : PQ (Exit.inBlock id Q) := fun c a d v w h2 => h c a d v w h2
theorem yE {Inv : List Blk → (Nat → Value) → Nat → Prop} {m : Nat} (h : PQ Q) : PQ (Round M n W Inv m Q) := fun c a d v w h2 => h c a d v w h2
theorem zU {fn : Func} {R : Ending → World → Prop} : PQ (bodyPost P fn R) := fun c a d v w h2 => by cases d <;> exact h2
structure v7 (M : List Nat) (P : Program) (n : Nat) (ops : Array Oper) (W : World) (L0 : List Blk) (Q : Exit → Act → World → Prop) (fuel : Nat) (listed : Array Bool) (L : List Blk) (f : Nat → Value) : Prop where
  go : ∀ w, Own M W w L → wpAnyH P .any ops Q (fun w => Own M W w L0) fuel listed (Fr n f) w
structure bW (M : List Nat) (P : Program) (n : Nat) (ops : Array Oper) (W : World) (L0 : List Blk) (Q : Exit → Act → World → Prop) (fuel : Nat) (listed : Array Bool) (i : Nat) (L : List Blk) (f : Nat → Value) : Prop where
  go : ∀ w, Own M W w L → wpOp P ops Q i (fun a' w' => Own M W w' L0 ∧ wpAnyH P .any ops Q (fun w => Own M W w L0) fuel (listed.setIfInBounds i true) a' w') (Fr n f) w
theorem ok_anyh {id : Nat} {l : List Oper} (hm : P.follows .mixedOrders = true) (h : v7 M P n l.toArray W L Q l.length (Array.replicate l.length false) L f) : Ok M P n W Q (.region id l.toArray true) L f := ⟨fun w hO => by
  have := wp_region_held (id := id) (S := fun w => Own M W w L) hm (ops := l.toArray) (Q := Q) (a := Fr n f) (w := w) (by simpa using h.go _ hO.drew)
  exact this⟩
theorem wC (hr : Region.ready .any ops listed = []) (h : Fin M n W Q .normal L f) : v7 M P n ops W L0 Q fuel listed L f := ⟨fun w hO => wpAnyH_done hr (h.go w hO) fuel⟩
theorem h_take (i : Nat) (E : List Blk) (oi : Oper) (v : Value) (hi : ops[i]? = some oi) (hs : Region.noSelect ops = true) (hf : Region.free .any ops listed i = true) (hr : (Region.ready .any ops listed).contains i = true)
    (hQ : PQ Q) (hw : xD ops n f oi = true) (hv : ∀ w, Own M W w L0 → (execOp (ev n f) oi).run P w = .ok (.value v) w)
    (h : v7 M P n ops W L0 Q fuel (listed.setIfInBounds i true) (E ++ L0) (upd f oi.dst v)) : v7 M P n ops W L0 Q (fuel + 1) listed (E ++ L0) f := ⟨fun w hO => by
  refine wpAnyH_take hi hs hf hr (fun c a w h => hQ c a _ _ w h) (Or.inl ⟨by rw [wL]; exact hw, fun w hw' => by rw [vP]; exact hv w hw'⟩) (hO.sub E) ?_
  rw [wH]
  exact h.go w hO⟩
theorem ZT (i : Nat) (E : List Blk) (oi : Oper) (v : Value) (hQ : PQ Q) (hi : ops[i]? = some oi) (h : v7 M P n ops W L0 Q fuel (listed.setIfInBounds i true) (E ++ L0) (upd f oi.dst v)) (hs : Region.noSelect ops = true := by kernel_rfl) (hf : Region.free .any ops listed i = true := by kernel_rfl) (hr : (Region.ready .any ops listed).contains i = true := by kernel_rfl) (hw : xD ops n f oi = true := by kernel_rfl) (hv : ∀ w, Own M W w L0 → (execOp (ev n f) oi).run P w = .ok (.value v) w := by intro _ _; kernel_rfl) : v7 M P n ops W L0 Q (fuel + 1) listed (E ++ L0) f := h_take i E oi v hi hs hf hr hQ hw hv h
theorem h_load (i : Nat) (E : List Blk) (oi : Oper) (k : Nat) (x : Blk) {ty : TypeId} {p : Operand} {off : Nat} (v : Value) (hi : ops[i]? = some oi) (hs : Region.noSelect ops = true) (hf : Region.free .any ops listed i = true) (hr : (Region.ready .any ops listed).contains i = true)
    (hQ : PQ Q) (hw : xD ops n f oi = true) (ho : oi.op = .load ty p) (hL : L0[k]? = some x) (hp : ev n f p = .pointer (some ⟨x.b, off, none⟩)) (hv : kA P ty x.cs off = some v)
    (h : v7 M P n ops W L0 Q fuel (listed.setIfInBounds i true) (E ++ L0) (upd f oi.dst v)) : v7 M P n ops W L0 Q (fuel + 1) listed (E ++ L0) f :=
  h_take i E oi v hi hs hf hr hQ hw (fun _ hO => gH ho hp (qB hv (hO.get hL))) h
theorem ZL (i : Nat) (E : List Blk) (oi : Oper) (k : Nat) (x : Blk) {ty : TypeId} {p : Operand} {off : Nat} (v : Value) (hQ : PQ Q) (hi : ops[i]? = some oi) (ho : oi.op = .load ty p) (h : v7 M P n ops W L0 Q fuel (listed.setIfInBounds i true) (E ++ L0) (upd f oi.dst v)) (hs : Region.noSelect ops = true := by kernel_rfl) (hf : Region.free .any ops listed i = true := by kernel_rfl) (hr : (Region.ready .any ops listed).contains i = true := by kernel_rfl) (hw : xD ops n f oi = true := by kernel_rfl) (hL : L0[k]? = some x := by kernel_rfl) (hp : ev n f p = .pointer (some ⟨x.b, off, none⟩) := by kernel_rfl) (hv : kA P ty x.cs off = some v := by kernel_rfl) : v7 M P n ops W L0 Q (fuel + 1) listed (E ++ L0) f := h_load i E oi k x v hi hs hf hr hQ hw ho hL hp hv h
theorem gJ (i : Nat) (hr : Region.ready .any ops listed = [i]) (h : bW M P n ops W L0 Q fuel listed i L f) : v7 M P n ops W L0 Q (fuel + 1) listed L f := ⟨fun w hO =>
  wpAnyH_all hr (by simp) fun j hj => by
    obtain rfl : j = i := by simpa using hj
    exact h.go w hO⟩
theorem h_two (i j : Nat) (hr : Region.ready .any ops listed = [i, j]) (h : bW M P n ops W L0 Q fuel listed i L f) (h' : bW M P n ops W L0 Q fuel listed j L f) : v7 M P n ops W L0 Q (fuel + 1) listed L f := ⟨fun w hO =>
  wpAnyH_all hr (by simp) fun k hk => by
    rcases List.mem_cons.1 hk with rfl | hk
    · exact h.go w hO
    · obtain rfl : k = j := by simpa using hk
      exact h'.go w hO⟩
theorem hU {i : Nat} {oi : Oper} (hi : ops[i]? = some oi) (hw : xD ops n f oi = true) (h : ∀ w, Own M W w L → oi.wp P (Fr n f) w (fun a' w' => Own M W w' L0 ∧ wpAnyH P .any ops Q (fun w => Own M W w L0) fuel (listed.setIfInBounds i true) a' w') Q) : bW M P n ops W L0 Q fuel listed i L f := ⟨fun w hO => by
  unfold wpOp
  simp only [hi]
  rw [wL, hw, if_pos rfl]
  exact .inl (h w hO)⟩
theorem dG {i : Nat} (E : List Blk) (oi : Oper) {k : FuncId} {args : Array Value} (v : Value) (hi : ops[i]? = some oi) (hw : xD ops n f oi = true) (he : ∀ w, (execOp (ev n f) oi).run P w = .ok (.enter k args) w)
    (hc : ∀ w, Own M W w (E ++ L0) → Calls P k args w fun e w' => e = .returned v ∧ Below w.heap.size w w') (h : v7 M P n ops W L0 Q fuel (listed.setIfInBounds i true) (E ++ L0) (upd f oi.dst v)) : bW M P n ops W L0 Q fuel listed i (E ++ L0) f :=
  hU hi hw fun w hO => nQ (he w) ((hc w hO).mono fun e w' ⟨e1, e2⟩ => ⟨v, e1, (hO.on e2).sub E, h.go w' (hO.on e2)⟩)
theorem hs_alloc {i : Nat} (E : List Blk) (oi : Oper) {T : TypeId} (z : Value) (hi : ops[i]? = some oi) (hw : xD ops n f oi = true) (ho : oi.op = .alloc T) (hz : (P.info? T).map (·.zero) = some (some z))
    (h : ∀ b, v7 M P n ops W L0 Q fuel (listed.setIfInBounds i true) ((⟨b, z.cells, T⟩ :: E) ++ L0) (upd f oi.dst (.pointer (some ⟨b, 0, none⟩)))) : bW M P n ops W L0 Q fuel listed i (E ++ L0) f :=
  hU hi hw fun w hO => by
    cases hq : P.info? T with
    | none => rw [hq] at hz; cases hz
    | some t =>
      rw [hq] at hz
      have hz' : t.zero = some z := Option.some.inj hz
      have hO' := hO.alloc z.cells T
      refine qN (.pointer (some ⟨w.heap.size, 0, none⟩)) (w' := w.alloc (.cells z.cells T)) ?_ ⟨Own.sub (⟨w.heap.size, z.cells, T⟩ :: E) hO', (h w.heap.size).go _ hO'⟩
      unfold execOp
      simp [ho, Instr.alloc, zeroValue, typeInfo, hq, hz', newVar, newRow, Sem.run_bind]
theorem hs_store {i : Nat} (E : List Blk) (oi : Oper) (k : Nat) (x : Blk) {T : TypeId} {p q : Operand} {off : Nat} (v : Value) (hi' : ops[i]? = some oi) (hw : xD ops n f oi = true) (ho : oi.op = .store T p q) (hd : oi.dst = none) (hL : E[k]? = some x)
    (hp : ev n f p = .pointer (some ⟨x.b, off, none⟩)) (hq : ev n f q = v) (hi : ((P.info? T).map fun t => Nat.beq v.cells.size t.size && Nat.ble (off + t.size) x.cs.size) = some true) (h1 : (v.cells.toList.all fun u => u.oneCell') = true)
    (h : v7 M P n ops W L0 Q fuel (listed.setIfInBounds i true) (E.set k ⟨x.b, kF x.cs off v.cells, x.ty⟩ ++ L0) f) : bW M P n ops W L0 Q fuel listed i (E ++ L0) f :=
  hU hi' hw fun w hO => by
    have hkE := (List.getElem?_eq_some_iff.1 hL).1
    have hL' : (E ++ L0)[k]? = some x := by rw [List.getElem?_append_left hkE]; exact hL
    have hset : (E ++ L0).set k ⟨x.b, kF x.cs off v.cells, x.ty⟩ = E.set k ⟨x.b, kF x.cs off v.cells, x.ty⟩ ++ L0 := List.set_append_left _ _ hkE
    cases hz : P.info? T with
    | none => rw [hz] at hi; cases hi
    | some t =>
      rw [hz] at hi
      have e : (Nat.beq v.cells.size t.size && Nat.ble (off + t.size) x.cs.size) = true := Option.some.inj hi
      rw [Bool.and_eq_true] at e
      have hs := Nat.eq_of_beq_eq_true e.1
      have hle := Nat.le_of_ble_eq_true e.2
      have hst := run_storeCells_at (P := P) x.b off x.ty v.cells.toList 0 x.cs w (hO.get hL') (by simp; omega) (List.all_eq_true.1 h1)
      have hO' := hO.put hL' (kF x.cs off v.cells)
      rw [hset] at hO'
      unfold Oper.wp
      rw [vP]
      have hr : (execOp (ev n f) oi).run P w = .ok .skip (w.setRow x.b (kF x.cs off v.cells)) := by
        unfold execOp
        simp only [ho, hp, hq, Instr.storeAt, Instr.sureAddr, Sem.run_bind, Sem.run_pure, Result.andThen_ok, storeVar, sizeOf, typeInfo, hz, hs, run_program]
        simp only [ne_eq, not_true_eq_false, if_false]
        have : (storeCells ⟨x.b, off, none⟩ v.cells.toList).run P w = .ok () (w.setRow x.b (kF x.cs off v.cells)) := by
          rw [hst]; unfold kF; simp
        simp [this]
      rw [hr]
      show Own M W _ L0 ∧ wpAnyH P .any ops Q (fun w => Own M W w L0) fuel (listed.setIfInBounds i true) ((Fr n f).put oi.dst undef) _
      rw [wH, hd]
      exact ⟨Own.sub _ hO', h.go _ hO'⟩
theorem ZS {i : Nat} (E : List Blk) (oi : Oper) (k : Nat) (x : Blk) {T : TypeId} {p q : Operand} {off : Nat} (v : Value) (hi' : ops[i]? = some oi) (ho : oi.op = .store T p q) (h : v7 M P n ops W L0 Q fuel (listed.setIfInBounds i true) (E.set k ⟨x.b, kF x.cs off v.cells, x.ty⟩ ++ L0) f) (hw : xD ops n f oi = true := by kernel_rfl) (hd : oi.dst = none := by rfl) (hL : E[k]? = some x := by kernel_rfl) (hp : ev n f p = .pointer (some ⟨x.b, off, none⟩) := by kernel_rfl) (hq : ev n f q = v := by kernel_rfl) (hi : ((P.info? T).map fun t => Nat.beq v.cells.size t.size && Nat.ble (off + t.size) x.cs.size) = some true := by kernel_rfl) (h1 : (v.cells.toList.all fun u => u.oneCell') = true := by kernel_rfl) : bW M P n ops W L0 Q fuel listed i (E ++ L0) f := hs_store E oi k x v hi' hw ho hd hL hp hq hi h1 h
end
end
section
def Sl (T : TypeId) (sz : Nat) (v : Value) (n : Nat) (xs : List Value) (ob : List Blk) : Prop :=
  xs.length = n * sz ∧ ((v = .slice none 0 0 ∧ n = 0 ∧ ob = []) ∨
    ∃ g cap cur, v = .slice (some ⟨g, 0, none⟩) n cap ∧ ob = [⟨g, cur, T⟩] ∧ n ≤ cap ∧ cap ≤ maxLen ∧ cur.size = cap * sz ∧ cur.toList.take (n * sz) = xs)
theorem Sl.nil (T : TypeId) (sz : Nat) : Sl T sz (.slice none 0 0) 0 [] [] := ⟨by simp, .inl ⟨rfl, rfl, rfl⟩⟩
theorem Own.take {M : List Nat} {W w : World} {L L' : List Blk} (h : Own M W w L) (hs : ∀ x ∈ L', x ∈ L) (hn : (L'.map Blk.b).Nodup) : Own M W w L' :=
  ⟨h.os, h.tape, h.output, h.size, h.drawn, h.kept, fun x hx => h.held x (hs x hx), fun x hx => h.base x (hs x hx), hn⟩
theorem Own.move {M : List Nat} {W w : World} {E ob L0 : List Blk} {x : Blk} (h : Own M W w (x :: (E ++ ob ++ L0))) : Own M W w (E ++ [x] ++ L0) := by
  refine h.take (fun y hy => ?_) ?_
  · simp only [List.mem_append, List.mem_cons, List.not_mem_nil, or_false] at hy ⊢
    rcases hy with (hy | hy) | hy
    · exact .inr (.inl (.inl hy))
    · exact .inl hy
    · exact .inr (.inr hy)
  · have h1 := h.apart
    have h2 : ((x :: (E ++ L0)).map Blk.b).Nodup := by
      refine h1.sublist (List.Sublist.map _ (List.Sublist.cons_cons _ ?_))
      rw [List.append_assoc]
      exact List.Sublist.append (List.Sublist.refl E) (List.sublist_append_right ob L0)
    have hp : (E ++ [x] ++ L0).Perm (x :: (E ++ L0)) := by
      rw [List.append_assoc]; exact List.perm_middle
    exact (hp.map Blk.b).nodup_iff.2 h2
theorem pM {M : List Nat} {W w : World} {L : List Blk} (h : Own M W w L) : Own M W w.drew L := h.drew
section
variable {M : List Nat} {P : Program} {W w : World} {E ob L0 : List Blk}
theorem mZ {t ty T : TypeId} {i : TypeInfo} {z : Value} {sz : Nat} (ht : P.underlying t = some (.slice T)) (hi : P.info? T = some i) (hz : i.zero = some z) (hsz : i.size = sz) (hzs : z.cells.size = sz)
    {v : Value} {n : Nat} {xs : List Value} (hv : Sl T sz v n xs ob) (hO : Own M W w (E ++ ob ++ L0))
    {a : Addr} {m c : Nat} {news : List Value} (hl : news.length = m * sz) (hnews : ∀ j u, news[j]? = some u → w.cell? (a.add j) = some u) (h1 : ∀ u ∈ news, u.oneCell' = true)
    (h63 : n + m ≤ maxLen) (hbytes : (n + m) * i.bytes ≤ 140737488355328) :
    ∃ v' w' ob', (Builtin.append_ #[t, t] ty #[v, .slice (some a) m c]).run P w = .ok v' w' ∧ Sl T sz v' (n + m) (xs ++ news) ob' ∧ Own M W w' (E ++ ob' ++ L0) := by
  subst hsz
  have hsmall : n + m ≤ 9223372036854775807 := by simp only [maxLen] at h63; omega
  have hlen : (xs ++ news).length = (n + m) * i.size := by rw [List.length_append, hv.1, hl, Nat.add_mul]
  rcases hv.2 with ⟨rfl, rfl, rfl⟩ | ⟨g, cap, cur, rfl, rfl, hnc, hcm, hcs, htake⟩
  · have hx : xs = [] := List.eq_nil_of_length_eq_zero (by simpa using hv.1)
    subst hx
    by_cases hm : m = 0
    · subst hm
      have hn : news = [] := List.eq_nil_of_length_eq_zero (by simpa using hl)
      subst hn
      refine ⟨.slice none 0 0, w, [], ?_, Sl.nil T i.size, hO⟩
      simp [Builtin.append_, run_underlying ht, sizeOf, typeInfo, hi, Builtin.lenOf, Builtin.firstCells, loadCells, loadCellsFrom]
    · have hr := run_append_nil (P := P) w t ty T i z ht hi hz a m c news hl hnews (by omega) (by omega) (by have hb := hbytes; simp only [Nat.zero_add] at hb; omega)
      have hge := grownCap_ge w m 0 T
      have hcm := grownCap_le_maxLen w m 0 T (by simpa using h63)
      refine ⟨_, _, [⟨w.heap.size, news.toArray ++ Builtin.zeroCells z.cells (grownCap w m 0 T - m), T⟩], hr, ⟨by simpa using hlen, .inr ⟨w.heap.size, _, _, by simp, rfl, by simpa using hge, hcm, ?_, ?_⟩⟩, ?_⟩
      · simp only [Array.size_append, List.size_toArray, size_zeroCells, hzs, hl, ← Nat.add_mul]
        congr 1
        omega
      · simp only [Array.toList_append, Nat.zero_add, List.nil_append]
        rw [← hl]
        exact List.take_left
      · have := (pM hO).alloc (news.toArray ++ Builtin.zeroCells z.cells (grownCap w m 0 T - m)) T
        exact Own.move (ob := []) this
  · by_cases hroom : n + m ≤ cap
    · have hfit : n * i.size + news.length ≤ cur.size := by rw [hl, hcs, ← Nat.add_mul]; exact Nat.mul_le_mul_right _ hroom
      have hk : (E ++ [Blk.mk g cur T] ++ L0)[E.length]? = some ⟨g, cur, T⟩ := by simp
      have hg := hO.get hk
      have hr := run_append_room (P := P) w t ty T i ht hi g n cap cur hg a m c news hl hnews h1 hroom hfit
      refine ⟨_, _, [⟨g, (cur.toList.take (n * i.size) ++ news ++ cur.toList.drop (n * i.size + news.length)).toArray, T⟩], hr, ⟨hlen, .inr ⟨g, cap, _, rfl, rfl, hroom, hcm, ?_, ?_⟩⟩, ?_⟩
      · simp only [List.size_toArray, List.length_append, List.length_take, List.length_drop, Array.length_toList]
        omega
      · rw [htake, ← hlen]
        exact List.take_left
      · have := hO.put hk (cur.toList.take (n * i.size) ++ news ++ cur.toList.drop (n * i.size + news.length)).toArray
        have e : (E ++ [Blk.mk g cur T] ++ L0).set E.length ⟨g, (cur.toList.take (n * i.size) ++ news ++ cur.toList.drop (n * i.size + news.length)).toArray, T⟩ = E ++ [⟨g, (cur.toList.take (n * i.size) ++ news ++ cur.toList.drop (n * i.size + news.length)).toArray, T⟩] ++ L0 := by simp
        rw [e] at this; exact this
    · have hk : (E ++ [Blk.mk g cur T] ++ L0)[E.length]? = some ⟨g, cur, T⟩ := by simp
      have hg := hO.get hk
      have holds : ∀ j u, xs[j]? = some u → w.cell? ((⟨g, 0, none⟩ : Addr).add j) = some u := fun j u hj => by
        rw [yM, cell_of_row w g (0 + j) cur T _ hg]
        rw [← htake, List.getElem?_take] at hj
        split at hj
        · simpa using hj
        · cases hj
      have hr := run_append_grow (P := P) w t ty T i z ht hi hz ⟨g, 0, none⟩ n cap xs hv.1 holds a m c news hl hnews (by omega) (by omega) (growslice_fits (by omega) hbytes)
      have hge := grownCap_ge w (n + m) cap T
      have hcm := grownCap_le_maxLen w (n + m) cap T h63
      refine ⟨_, _, [⟨w.heap.size, xs.toArray ++ news.toArray ++ Builtin.zeroCells z.cells (grownCap w (n + m) cap T - (n + m)), T⟩], hr, ⟨hlen, .inr ⟨w.heap.size, _, _, rfl, rfl, hge, hcm, ?_, ?_⟩⟩, ?_⟩
      · simp only [Array.size_append, List.size_toArray, size_zeroCells, hzs, hv.1, hl, ← Nat.add_mul]
        congr 1
        omega
      · simp only [Array.toList_append, List.append_assoc]
        rw [← List.append_assoc, ← hlen]
        exact List.take_left
      · exact Own.move ((pM hO).alloc (xs.toArray ++ news.toArray ++ Builtin.zeroCells z.cells (grownCap w (n + m) cap T - (n + m))) T)
end
section
variable {M : List Nat} {P : Program} {n0 : Nat} {ops : Array Oper} {W : World} {Q : Exit → Act → World → Prop} {rest : List Oper} {o : Oper} {E ob L0 : List Blk} {f : Nat → Value}
theorem qA {t T : TypeId} {s x : Operand} {i : TypeInfo} {z : Value} {sz : Nat} (hw : xD ops n0 f o = true) (ho : o.op = .call { callee := .builtin .append, args := #[s, x], argTypes := #[t, t] })
    (ht : P.underlying t = some (.slice T)) (hi : P.info? T = some i) (hz : i.zero = some z) (hsz : i.size = sz) (hzs : z.cells.size = sz)
    {v : Value} {n : Nat} {xs : List Value} (hs : ev n0 f s = v) (hv : Sl T sz v n xs ob) {a : Addr} {m c : Nat} {news : List Value} (hx : ev n0 f x = .slice (some a) m c)
    (hl : news.length = m * sz) (hnews : ∀ w, Own M W w (E ++ ob ++ L0) → ∀ j u, news[j]? = some u → w.cell? (a.add j) = some u) (h1 : ∀ u ∈ news, u.oneCell' = true)
    (h63 : n + m ≤ maxLen) (hbytes : (n + m) * i.bytes ≤ 140737488355328)
    (h : ∀ v' ob', Sl T sz v' (n + m) (xs ++ news) ob' → Seg M P n0 ops W Q rest (E ++ ob' ++ L0) (upd f o.dst v')) : Seg M P n0 ops W Q (o :: rest) (E ++ ob ++ L0) f :=
  qO hw fun w hO => by
    obtain ⟨v', w', ob', hr, h2, h3⟩ := mZ (P := P) (ty := o.type) (c := c) ht hi hz hsz hzs hv hO hl (hnews w hO) h1 h63 hbytes
    refine qN v' (w' := w') ?_ ((h v' ob' h2).go w' h3)
    unfold execOp
    simp only [ho, resolve, invoke, builtin, Sem.run_bind, Sem.run_pure, Result.andThen_ok, List.map_toArray, List.map_cons, List.map_nil, hs, hx, hr]
theorem bG {L : List Blk} {t : TypeId} {len : Nat} {parts : Array (Nat × Operand)} (T : TypeId) (cs : Array Value) (hw : xD ops n0 f o = true) (ho : o.op = .buildSlice t len parts)
    (hr : ∀ w, (execOp (ev n0 f) o).run P w = .ok (.value (.slice (some ⟨w.heap.size, 0, none⟩) len len)) (w.alloc (.cells cs T)))
    (h : ∀ b, Seg M P n0 ops W Q rest (⟨b, cs, T⟩ :: L) (upd f o.dst (.slice (some ⟨b, 0, none⟩) len len))) : Seg M P n0 ops W Q (o :: rest) L f :=
  qO hw fun w hO => qN _ (hr w) ((h w.heap.size).go _ (hO.alloc _ _))
theorem qP {ρ : Operand → Value} {t e : TypeId} {x ix : Operand} {b off off' n c sz : Nat} {k : IntKind} {j : Int} (ho : o.op = .indexAddr t x ix) (hx : ρ x = .slice (some ⟨b, off, none⟩) n c) (hi : ρ ix = .int k j)
    (hu : P.underlying t = some (.slice e)) (hs : (P.info? e).map (·.size) = some sz) (h0 : 0 ≤ j) (h1 : j < n) (hoff : off + j.toNat * sz = off') (w : World) : (execOp ρ o).run P w = .ok (.value (.pointer (some ⟨b, off', none⟩))) w := by
  subst hoff
  cases he : P.info? e with
  | none => rw [he] at hs; cases hs
  | some i =>
    rw [he] at hs
    obtain rfl := Option.some.inj hs
    unfold execOp
    simp [ho, hx, hi, Instr.indexAt, Sem.run_bind, asIntOf, run_underlying hu, Instr.sureAddr, h0, h1, sizeOf, typeInfo, he, yM]
theorem ZV {ρ : Operand → Value} {t e : TypeId} {x ix : Operand} {b off off' n c sz : Nat} {k : IntKind} {j : Int} (ho : o.op = .indexAddr t x ix := by rfl) (hx : ρ x = .slice (some ⟨b, off, none⟩) n c := by kernel_rfl) (hi : ρ ix = .int k j := by kernel_rfl) (hu : P.underlying t = some (.slice e) := by kernel_rfl) (hs : (P.info? e).map (·.size) = some sz := by kernel_rfl) (h0 : 0 ≤ j := by omega) (h1 : j < n := by omega) (hoff : off + j.toNat * sz = off' := by omega) (w : World) : (execOp ρ o).run P w = .ok (.value (.pointer (some ⟨b, off', none⟩))) w := qP ho hx hi hu hs h0 h1 hoff w
end
section
variable {α : Type} {g : α → List Value} {sz : Nat}
theorem kM (hg : ∀ x, (g x).length = sz) (l : List α) : (l.flatMap g).length = l.length * sz := by
  induction l with
  | nil => simp
  | cons x l ih => rw [List.flatMap_cons, List.length_append, hg, ih, List.length_cons, Nat.succ_mul, Nat.add_comm]
theorem flat_at (hg : ∀ x, (g x).length = sz) (l : List α) : ∀ k (h : k < l.length), ((l.flatMap g).drop (k * sz)).take sz = g l[k] := by
  induction l with
  | nil => intro k h; simp at h
  | cons x l ih =>
    intro k h
    rw [List.flatMap_cons]
    cases k with
    | zero =>
      have := hg x
      rw [Nat.zero_mul, List.drop_zero, ← this, List.take_left]; rfl
    | succ k =>
      rw [Nat.succ_mul, Nat.add_comm, ← List.drop_drop]
      have hd : (g x ++ l.flatMap g).drop sz = l.flatMap g := by rw [← hg x]; exact List.drop_left
      rw [hd]
      exact ih k (by simpa using h)
end
end
section
section
variable {M : List Nat} {P : Program} {W w : World} {E ob L0 : List Blk}
theorem own_append_str {t u ty T : TypeId} {i : TypeInfo} (ht : P.underlying t = some (.slice T)) (hu : P.underlying u = some .string) (hi : P.info? T = some i) (hz : i.zero = some (.int .u8 0)) (hsz : i.size = 1) (hby : i.bytes = 1)
    {v : Value} {n : Nat} {xs : List Value} (hv : Sl T 1 v n xs ob) (hO : Own M W w (E ++ ob ++ L0)) (s : ByteArray)
    (h63 : n + s.size ≤ maxLen) (hbytes : n + s.size ≤ 140737488355328) :
    ∃ v' w' ob', (Builtin.append_ #[t, u] ty #[v, .string s]).run P w = .ok v' w' ∧ Sl T 1 v' (n + s.size) (xs ++ Lib.strCells s) ob' ∧ Own M W w' (E ++ ob' ++ L0) := by
  have hsmall : n + s.size ≤ 9223372036854775807 := by simp only [maxLen] at h63; omega
  have hxl : xs.length = n := by simpa using hv.1
  have hsl := Lib.strCells_length s
  have hlen : (xs ++ Lib.strCells s).length = (n + s.size) * 1 := by rw [List.length_append, hxl, hsl, Nat.mul_one]
  have hz1 : (Value.int IntKind.u8 0).cells.size = 1 := rfl
  rcases hv.2 with ⟨rfl, rfl, rfl⟩ | ⟨g, cap, cur, rfl, rfl, hnc, hcm, hcs, htake⟩
  · have hx : xs = [] := List.eq_nil_of_length_eq_zero hxl
    subst hx
    by_cases hm : s.size = 0
    · have hn : Lib.strCells s = [] := List.eq_nil_of_length_eq_zero (by rw [hsl]; exact hm)
      refine ⟨.slice none 0 0, w, [], ?_, by rw [hm, hn]; exact Sl.nil T 1, hO⟩
      have hf := Lib.run_firstCells_string (P := P) w 1 s
      rw [hm] at hf
      simp [Builtin.append_, run_underlying ht, run_underlying hu, sizeOf, typeInfo, hi, hsz, Builtin.lenOf, hm, hf]
    · have hr := run_append_nil_string (P := P) w t u ty T i (.int .u8 0) ht hu hi hz s (by omega) (by omega) (by rw [hby]; omega)
      have e1 : (s.data.map fun b => Value.int .u8 b.toNat) = (Lib.strCells s).toArray := by
        apply Array.ext'
        simp [Lib.strCells]
      rw [e1] at hr
      have hge := grownCap_ge w s.size 0 T
      have hcm := grownCap_le_maxLen w s.size 0 T (by simpa using h63)
      refine ⟨_, _, [⟨w.heap.size, (Lib.strCells s).toArray ++ Builtin.zeroCells (Value.int .u8 0).cells (grownCap w s.size 0 T - s.size), T⟩], hr, ⟨by simpa using hlen, .inr ⟨w.heap.size, _, _, by simp, rfl, by simpa using hge, hcm, ?_, ?_⟩⟩, ?_⟩
      · simp only [Array.size_append, List.size_toArray, size_zeroCells, hz1, hsl]
        omega
      · simp only [Array.toList_append, Nat.zero_add, List.nil_append, Nat.mul_one]
        rw [← hsl]
        exact List.take_left
      · have := (pM hO).alloc ((Lib.strCells s).toArray ++ Builtin.zeroCells (Value.int .u8 0).cells (grownCap w s.size 0 T - s.size)) T
        exact Own.move (ob := []) this
  · have hcs' : cur.size = cap := by simpa using hcs
    have ht' : cur.toList.take n = xs := by simpa using htake
    by_cases hroom : n + s.size ≤ cap
    · have hk : (E ++ [Blk.mk g cur T] ++ L0)[E.length]? = some ⟨g, cur, T⟩ := by simp
      have hg := hO.get hk
      have hr := Lib.run_append_room_string (P := P) w t u ty T i ht hu hi hsz g n cap cur hg s hroom (by omega)
      refine ⟨_, _, [⟨g, (cur.toList.take n ++ Lib.strCells s ++ cur.toList.drop (n + s.size)).toArray, T⟩], hr, ⟨hlen, .inr ⟨g, cap, _, rfl, rfl, hroom, hcm, ?_, ?_⟩⟩, ?_⟩
      · simp only [List.size_toArray, List.length_append, List.length_take, List.length_drop, Array.length_toList, hsl]
        omega
      · rw [ht', ← hlen]
        exact List.take_left
      · have := hO.put hk (cur.toList.take n ++ Lib.strCells s ++ cur.toList.drop (n + s.size)).toArray
        have e : (E ++ [Blk.mk g cur T] ++ L0).set E.length ⟨g, (cur.toList.take n ++ Lib.strCells s ++ cur.toList.drop (n + s.size)).toArray, T⟩ = E ++ [⟨g, (cur.toList.take n ++ Lib.strCells s ++ cur.toList.drop (n + s.size)).toArray, T⟩] ++ L0 := by simp
        rw [e] at this; exact this
    · have hk : (E ++ [Blk.mk g cur T] ++ L0)[E.length]? = some ⟨g, cur, T⟩ := by simp
      have hg := hO.get hk
      have holds : ∀ j u, xs[j]? = some u → w.cell? ((⟨g, 0, none⟩ : Addr).add j) = some u := fun j u hj => by
        rw [yM, cell_of_row w g (0 + j) cur T _ hg]
        rw [← ht', List.getElem?_take] at hj
        split at hj
        · simpa using hj
        · cases hj
      have hr := Lib.run_append_grow_string (P := P) w t u ty T i (.int .u8 0) ht hu hi hz ⟨g, 0, none⟩ n cap xs (by rw [hsz]; simpa using hxl) holds s (by omega) (by omega) (by rw [hby]; exact growslice_fits (by omega) (by omega))
      have hge := grownCap_ge w (n + s.size) cap T
      have hcm := grownCap_le_maxLen w (n + s.size) cap T h63
      refine ⟨_, _, [⟨w.heap.size, xs.toArray ++ (Lib.strCells s).toArray ++ Builtin.zeroCells (Value.int .u8 0).cells (grownCap w (n + s.size) cap T - (n + s.size)), T⟩], hr, ⟨hlen, .inr ⟨w.heap.size, _, _, rfl, rfl, hge, hcm, ?_, ?_⟩⟩, ?_⟩
      · simp only [Array.size_append, List.size_toArray, size_zeroCells, hz1, hxl, hsl]
        omega
      · simp only [Array.toList_append, List.append_assoc]
        rw [← List.append_assoc, ← hlen]
        exact List.take_left
      · exact Own.move ((pM hO).alloc (xs.toArray ++ (Lib.strCells s).toArray ++ Builtin.zeroCells (Value.int .u8 0).cells (grownCap w (n + s.size) cap T - (n + s.size))) T)
end
section
variable {M : List Nat} {P : Program} {n0 : Nat} {ops : Array Oper} {W : World} {Q : Exit → Act → World → Prop} {rest : List Oper} {o : Oper} {E ob L0 : List Blk} {f : Nat → Value}
theorem s_appstr {t u T : TypeId} {x y : Operand} {i : TypeInfo} (hw : xD ops n0 f o = true) (ho : o.op = .call { callee := .builtin .append, args := #[x, y], argTypes := #[t, u] })
    (ht : P.underlying t = some (.slice T)) (hu : P.underlying u = some .string) (hi : P.info? T = some i) (hz : i.zero = some (.int .u8 0)) (hsz : i.size = 1) (hby : i.bytes = 1)
    {v : Value} {n : Nat} {xs : List Value} (hx : ev n0 f x = v) (hv : Sl T 1 v n xs ob) {s : ByteArray} (hy : ev n0 f y = .string s)
    (h63 : n + s.size ≤ maxLen) (hbytes : n + s.size ≤ 140737488355328)
    (h : ∀ v' ob', Sl T 1 v' (n + s.size) (xs ++ Lib.strCells s) ob' → Seg M P n0 ops W Q rest (E ++ ob' ++ L0) (upd f o.dst v')) : Seg M P n0 ops W Q (o :: rest) (E ++ ob ++ L0) f :=
  qO hw fun w hO => by
    obtain ⟨v', w', ob', hr, h2, h3⟩ := own_append_str (P := P) (ty := o.type) ht hu hi hz hsz hby hv hO s h63 hbytes
    refine qN v' (w' := w') ?_ ((h v' ob' h2).go w' h3)
    unfold execOp
    simp only [ho, resolve, invoke, builtin, Sem.run_bind, Sem.run_pure, Result.andThen_ok, List.map_toArray, List.map_cons, List.map_nil, hx, hy, hr]
end
section
variable {M : List Nat} {P : Program} {n : Nat} {W : World} {L : List Blk} {f : Nat → Value}
theorem jA {fn : Func} {R : Ending → World → Prop} (hres : fn.results = #[]) (hR : ∀ w, Own M W w L → R (.returned (.tuple #[])) w) : Fin M n W (bodyPost P fn R) .normal L f := ⟨fun w hO =>
  bodyPost_end (results_none hres _ _ _) rfl (hR w hO)⟩
end
end
section
def nG (r : Int) : Bool := decide (97 ≤ r ∧ r ≤ 122)
def kN (r : Int) : Bool := decide (48 ≤ r ∧ r ≤ 57)
def nameGo : Bool → Int → List UInt8 → Bool
  | _, last, [] => decide (last ≠ 45)
  | first, last, c :: r =>
    if nG c.toNat then nameGo false c.toNat r
    else if kN c.toNat then (if first then false else nameGo false c.toNat r)
    else if (c.toNat : Int) = 45 then (if last = 45 then false else nameGo false c.toNat r)
    else false
def nameB (s : ByteArray) : Bool := decide (s.size ≤ 16) && nameGo true 45 s.data.toList
def nameRef : Int → List UInt8 → Bool
  | _, [] => true
  | last, c :: r => (nG c.toNat || kN c.toNat || decide ((c.toNat : Int) = 45)) && !(decide ((c.toNat : Int) = 45) && decide (last = 45)) && nameRef c.toNat r
def lastOf : Int → List UInt8 → Int
  | last, [] => last
  | _, c :: r => lastOf c.toNat r
theorem qJ (s : ByteArray) (k : Nat) (h : k < s.size) : s.data.toList.drop k = s[k] :: s.data.toList.drop (k + 1) := by
  rw [List.drop_eq_getElem_cons (by simpa using h)]; rfl
theorem wE (s : ByteArray) (k : Nat) (h : ¬ k < s.size) : s.data.toList.drop k = [] := by
  rw [List.drop_eq_nil_iff]; simp; omega
def wordGo : List UInt8 → Bool
  | [] => true
  | c :: r => (nG c.toNat || kN c.toNat || decide ((c.toNat : Int) = 95)) && wordGo r
def wdB (r : Int) : Bool := nG r || kN r || decide (r = 95)
def wordB (s : ByteArray) : Bool := decide (1 ≤ s.size ∧ s.size ≤ 12) && wordGo s.data.toList
end
section
def xB : Nat → Bool → List UInt8 → Option Nat
  | n, first, [] => if first then none else some n
  | n, first, c :: r =>
    if kN c.toNat then
      (if first = false ∧ n = 0 then none
       else if n * 10 + (c.toNat - 48) ≤ 9999 then xB (n * 10 + (c.toNat - 48)) false r else none)
    else none
def numB (s : ByteArray) : Option Nat := xB 0 true s.data.toList
def numV (s : ByteArray) : Int := ((numB s).getD 0 : Nat)
def tZ (s : ByteArray) : Bool := (numB s).isSome
theorem jN (n : Nat) (f : Bool) (c : UInt8) (r : List UInt8) (h : kN c.toNat = false) : xB n f (c :: r) = none := by
  rw [xB, if_neg (by simp [h])]
theorem nC (c : UInt8) (r : List UInt8) : xB 0 false (c :: r) = none := by
  rw [xB]; simp
theorem fZ (n : Nat) (f : Bool) (c : UInt8) (r : List UInt8) (h3 : ¬ n * 10 + (c.toNat - 48) ≤ 9999) : xB n f (c :: r) = none := by
  rw [xB, if_neg h3]; simp
theorem wA (n : Nat) (f : Bool) (c : UInt8) (r : List UInt8) (h : kN c.toNat = true) (h2 : ¬ (f = false ∧ n = 0)) (h3 : n * 10 + (c.toNat - 48) ≤ 9999) :
    xB n f (c :: r) = xB (n * 10 + (c.toNat - 48)) false r := by
  rw [xB, if_pos h, if_neg h2, if_pos h3]
def yV (l : List UInt8) : Bool := l.all fun c => kN c.toNat
def gR (n : Nat) (l : List UInt8) : Nat := l.foldl (fun n c => n * 10 + (c.toNat - 48)) n
theorem foldV_le (l : List UInt8) : ∀ n, n ≤ gR n l := by
  induction l with
  | nil => intro n; exact Nat.le_refl _
  | cons c r ih => intro n; exact Nat.le_trans (by omega) (ih (n * 10 + (c.toNat - 48)))
theorem foldV_pow (l : List UInt8) : ∀ n, n * 10 ^ l.length ≤ gR n l := by
  induction l with
  | nil => intro n; simp [gR]
  | cons c r ih =>
    intro n
    refine Nat.le_trans ?_ (ih (n * 10 + (c.toNat - 48)))
    rw [List.length_cons, Nat.pow_succ, Nat.mul_comm (10 ^ r.length) 10, ← Nat.mul_assoc]
    exact Nat.mul_le_mul_right _ (by omega)
theorem numGo_pos (l : List UInt8) : ∀ n, 1 ≤ n → n ≤ 9999 → xB n false l = if yV l = true ∧ gR n l ≤ 9999 then some (gR n l) else none := by
  induction l with
  | nil => intro n h1 h2; simp [xB, yV, gR, h2]
  | cons c r ih =>
    intro n h1 h2
    by_cases hd : kN c.toNat = true
    · by_cases h3 : n * 10 + (c.toNat - 48) ≤ 9999
      · rw [wA n false c r hd (by omega) h3, ih _ (by omega) h3]
        have e1 : yV (c :: r) = yV r := by unfold yV; rw [List.all_cons, hd]; rfl
        rw [e1]; rfl
      · rw [fZ n false c r h3, if_neg]
        rintro ⟨_, h⟩
        have h4 : n * 10 + (c.toNat - 48) ≤ gR n (c :: r) := foldV_le r _
        omega
    · rw [jN _ _ _ _ (Bool.eq_false_iff.2 hd), if_neg]
      rintro ⟨h, _⟩
      unfold yV at h
      rw [List.all_cons, Bool.and_eq_true] at h
      exact hd h.1
def tD (l : List UInt8) : Option Nat :=
  if l.length < 1 ∨ l.length > 9 ∨ (l.length > 1 ∧ l.head? = some 48) then none
  else if yV l = true ∧ gR 0 l ≤ 9999 then some (gR 0 l) else none
theorem numGo_ref (l : List UInt8) : xB 0 true l = tD l := by
  cases l with
  | nil => rfl
  | cons c r =>
    unfold tD
    by_cases hd : kN c.toNat = true
    · have hc : 48 ≤ c.toNat ∧ c.toNat ≤ 57 := by unfold kN at hd; simp at hd; omega
      rw [wA 0 true c r hd (by simp) (by omega)]
      have e1 : yV (c :: r) = yV r := by unfold yV; rw [List.all_cons, hd]; rfl
      have e2 : gR 0 (c :: r) = gR (c.toNat - 48) r := by unfold gR; rw [List.foldl_cons]; simp
      by_cases h0 : c.toNat = 48
      · have hc48 : c = 48 := by apply UInt8.toNat_inj.1; simpa using h0
        cases r with
        | nil => subst hc48; decide
        | cons c2 r2 =>
          have e0 : 0 * 10 + (c.toNat - 48) = 0 := by omega
          rw [e0, nC, if_pos]
          right; right
          exact ⟨by simp, by rw [hc48]; rfl⟩
      · have hne : ¬ (c :: r).head? = some 48 := by
          intro h
          have : c = 48 := by simpa using h
          subst this
          exact h0 rfl
        have e0 : 0 * 10 + (c.toNat - 48) = c.toNat - 48 := by omega
        rw [e0, numGo_pos r _ (by omega) (by omega), e1, e2]
        by_cases h9 : (c :: r).length > 9
        · rw [if_pos (Or.inr (Or.inl h9)), if_neg]
          rintro ⟨_, h⟩
          have hp := foldV_pow r (c.toNat - 48)
          have h10 : 10 ^ 9 ≤ 10 ^ r.length := Nat.pow_le_pow_right (by omega) (by rw [List.length_cons] at h9; omega)
          have h11 : 1 * 10 ^ r.length ≤ (c.toNat - 48) * 10 ^ r.length := Nat.mul_le_mul_right _ (by omega)
          omega
        · rw [if_neg (c := (c :: r).length < 1 ∨ _)]
          rintro (h | h | h)
          · simp at h
          · exact h9 h
          · exact hne h.2
    · rw [jN _ _ _ _ (Bool.eq_false_iff.2 hd)]
      have e1 : ¬ (yV (c :: r) = true ∧ gR 0 (c :: r) ≤ 9999) := by
        rintro ⟨h, _⟩
        unfold yV at h
        rw [List.all_cons, Bool.and_eq_true] at h
        exact hd h.1
      rw [if_neg e1]
      split <;> rfl
theorem tJ (k : Nat) (h : k < 10) : (UInt8.ofNat (48 + k)).toNat = 48 + k := by
  rw [UInt8.toNat_ofNat']; omega
theorem pL (l r : List UInt8) (n : Nat) : gR n (l ++ r) = gR (gR n l) r := by unfold gR; rw [List.foldl_append]
theorem bB (l r : List UInt8) : yV (l ++ r) = (yV l && yV r) := by unfold yV; rw [List.all_append]
theorem digB_of (k : Nat) (h : k < 10) : kN (UInt8.ofNat (48 + k)).toNat = true := by
  rw [tJ k h]; unfold kN; simp; omega
theorem dec_fold (u : Nat) : yV (Lib.decDigits u) = true ∧ gR 0 (Lib.decDigits u) = u := by
  induction u using Nat.strongRecOn with
  | _ u ih =>
    rw [Lib.decDigits]
    by_cases h : u < 10
    · rw [dif_pos h]
      refine ⟨by unfold yV; rw [List.all_cons, digB_of u h]; rfl, ?_⟩
      show 0 * 10 + ((UInt8.ofNat (48 + u)).toNat - 48) = u
      rw [tJ u h]; omega
    · rw [dif_neg h]
      obtain ⟨i1, i2⟩ := ih (u / 10) (by omega)
      refine ⟨by rw [bB, i1]; unfold yV; rw [List.all_cons, digB_of _ (by omega)]; rfl, ?_⟩
      rw [pL, i2]
      show u / 10 * 10 + ((UInt8.ofNat (48 + u % 10)).toNat - 48) = u
      rw [tJ _ (by omega)]; omega
theorem dec_head (u : Nat) (h : 1 ≤ u) : ∃ (d : Nat) (r : List UInt8), 1 ≤ d ∧ d < 10 ∧ Lib.decDigits u = UInt8.ofNat (48 + d) :: r := by
  induction u using Nat.strongRecOn with
  | _ u ih =>
    rw [Lib.decDigits]
    by_cases h10 : u < 10
    · rw [dif_pos h10]; exact ⟨u, [], h, h10, rfl⟩
    · rw [dif_neg h10]
      obtain ⟨d, r, h1, h2, e⟩ := ih (u / 10) (by omega) (by omega)
      exact ⟨d, r ++ [UInt8.ofNat (48 + u % 10)], h1, h2, by rw [e]; rfl⟩
theorem num_dec (u : Nat) : xB 0 true (Lib.decDigits u) = if u ≤ 9999 then some u else none := by
  by_cases h0 : u = 0
  · subst h0
    rw [Lib.decDigits, dif_pos (by omega)]; decide
  · obtain ⟨hA, hF⟩ := dec_fold u
    obtain ⟨d, r, h1, h2, e⟩ := dec_head u (by omega)
    rw [e] at hA hF ⊢
    have hd := digB_of d h2
    rw [wA 0 true _ r hd (by simp) (by rw [tJ d h2]; omega)]
    have e1 : yV r = true := by unfold yV at hA ⊢; rw [List.all_cons, Bool.and_eq_true] at hA; exact hA.2
    have e2 : gR (0 * 10 + ((UInt8.ofNat (48 + d)).toNat - 48)) r = u := hF
    rw [numGo_pos r _ (by rw [tJ d h2]; omega) (by rw [tJ d h2]; omega), e1, e2]
    simp
end
section
def y7 (b : UInt8) : List UInt8 → List UInt8 → List (List UInt8)
  | acc, [] => [acc]
  | acc, c :: r => if c = b then acc :: y7 b [] r else y7 b (acc ++ [c]) r
def x6 (b : UInt8) : List (List UInt8) → List UInt8
  | [] => []
  | [x] => x
  | x :: y :: r => x ++ b :: x6 b (y :: r)
theorem vR (b : UInt8) (l : List UInt8) : ∀ acc, y7 b acc l ≠ [] := by
  induction l with
  | nil => intro acc; simp [y7]
  | cons c r ih => intro acc; unfold y7; split <;> simp [ih]
theorem nH (b : UInt8) (l : List UInt8) : ∀ acc, x6 b (y7 b acc l) = acc ++ l := by
  induction l with
  | nil => intro acc; simp [y7, x6]
  | cons c r ih =>
    intro acc
    unfold y7
    by_cases h : c = b
    · rw [if_pos h]
      have hne := vR b r []
      cases hs : y7 b [] r with
      | nil => exact absurd hs hne
      | cons y t =>
        rw [x6, ← hs, ih [], h]; rfl
    · rw [if_neg h, ih, List.append_assoc]; rfl
theorem split_len (b : UInt8) (l : List UInt8) : ∀ acc, (y7 b acc l).length = (l.filter (· == b)).length + 1 := by
  induction l with
  | nil => intro acc; rfl
  | cons c r ih =>
    intro acc
    unfold y7
    by_cases h : c = b
    · rw [if_pos h, List.length_cons, ih, List.filter_cons, if_pos (by simp [h]), List.length_cons]
    · rw [if_neg h, ih, List.filter_cons, if_neg (by simp [h])]
theorem split_le (b : UInt8) (l : List UInt8) : ∀ acc, ∀ x ∈ y7 b acc l, x.length ≤ acc.length + l.length := by
  induction l with
  | nil => intro acc x hx; simp [y7] at hx; subst hx; simp
  | cons c r ih =>
    intro acc x hx
    unfold y7 at hx
    by_cases h : c = b
    · rw [if_pos h] at hx
      rcases List.mem_cons.1 hx with rfl | hx
      · omega
      · have := ih [] x hx; simp at this ⊢; omega
    · rw [if_neg h] at hx
      have := ih (acc ++ [c]) x hx
      simp at this ⊢; omega
end
section
def jG (c : UInt8) : Bool := nG c.toNat || kN c.toNat || decide ((c.toNat : Int) = 45)
def kO (t : List UInt8) : Bool := decide (1 ≤ t.length ∧ t.length ≤ 8) && t.all jG
def xZ (t : List UInt8) : Bool := !t.isEmpty && yV t
def kT (t : List UInt8) : Bool := (xB 0 true t).isSome
def pcs (s : List UInt8) : List (List UInt8) := y7 46 [] s
def kU (s : List UInt8) : Bool := s.isEmpty || (decide ((pcs s).length ≤ 4) && (pcs s).all kO)
def mX (t : List UInt8) : Bool := !xZ t || kT t
def qQ (s : List UInt8) : Bool := kU s && (s.isEmpty || (pcs s).all mX)
def zN (b : UInt8) : List UInt8 → List UInt8 × List UInt8 × Bool
  | [] => ([], [], false)
  | c :: r => if c = b then ([], r, true) else ((c :: (zN b r).1), (zN b r).2.1, (zN b r).2.2)
theorem cutAt_cut (b : UInt8) (l : List UInt8) : Lib.cut l [b] = zN b l := by
  induction l with
  | nil => rfl
  | cons c r ih =>
    have hge := Lib.index_ge r [b]
    unfold Lib.cut at ih ⊢
    unfold zN
    rw [Lib.index]
    by_cases h : c = b
    · subst h; simp
    · have e1 : ([b].isPrefixOf (c :: r)) = false := by simp [List.isPrefixOf]; exact fun e => h e.symm
      rw [e1, if_neg h, ← ih]
      by_cases hm : Lib.index r [b] = -1
      · rw [if_neg (by simp : ¬ (false = true))]; simp [hm]
      · have e3 : (if (Lib.index r [b] == -1) = true then (-1 : Int) else Lib.index r [b] + 1) = Lib.index r [b] + 1 := if_neg (by simpa using hm)
        rw [if_neg (by simp : ¬ (false = true)), e3, if_pos (by omega), if_pos (by omega)]
        have e2 : (Lib.index r [b] + 1).toNat = (Lib.index r [b]).toNat + 1 := by omega
        simp only [e2, List.take_succ_cons, List.length_cons, List.length_nil, Prod.mk.injEq, and_true, true_and]
        rw [show (Lib.index r [b]).toNat + 1 + (0 + 1) = ((Lib.index r [b]).toNat + (0 + 1)) + 1 from by omega, List.drop_succ_cons]
theorem wG (b : UInt8) (l : List UInt8) : (zN b l).1.length + (zN b l).2.1.length ≤ l.length := by
  induction l with
  | nil => simp [zN]
  | cons c r ih => unfold zN; split <;> simp <;> omega
theorem gK (b : UInt8) (l : List UInt8) : ∀ acc, y7 b acc l = (acc ++ (zN b l).1) :: (if (zN b l).2.2 then y7 b [] (zN b l).2.1 else []) := by
  induction l with
  | nil => intro acc; simp [y7, zN]
  | cons c r ih =>
    intro acc
    rw [show y7 b acc (c :: r) = if c = b then acc :: y7 b [] r else y7 b (acc ++ [c]) r from rfl, show zN b (c :: r) = if c = b then ([], r, true) else ((c :: (zN b r).1), (zN b r).2.1, (zN b r).2.2) from rfl]
    by_cases h : c = b
    · rw [if_pos h, if_pos h]; simp
    · rw [if_neg h, if_neg h, ih]; simp
theorem cutAt_back (b : UInt8) (l : List UInt8) : l = (zN b l).1 ++ (if (zN b l).2.2 then b :: (zN b l).2.1 else []) := by
  induction l with
  | nil => simp [zN]
  | cons c r ih =>
    unfold zN
    by_cases h : c = b
    · simp [h]
    · rw [if_neg h]; simp only [List.cons_append, ← ih]
theorem nN (b : UInt8) (l : List UInt8) : (zN b l).2.2 = false → (zN b l).2.1 = [] := by
  induction l with
  | nil => simp [zN]
  | cons c r ih => unfold zN; split <;> simp; exact ih
theorem jS (b : UInt8) (x y : List UInt8) (h : b ∉ x) : zN b (x ++ b :: y) = (x, y, true) := by
  induction x with
  | nil => simp [zN]
  | cons c r ih =>
    simp at h
    rw [List.cons_append, zN, if_neg (fun e => h.1 e.symm), ih h.2]
theorem nO (b : UInt8) (x : List UInt8) (h : b ∉ x) : zN b x = (x, [], false) := by
  induction x with
  | nil => simp [zN]
  | cons c r ih =>
    simp at h
    rw [zN, if_neg (fun e => h.1 e.symm), ih h.2]
def kQ : Nat → List UInt8 → List (List UInt8) × Bool
  | 0, _ => ([], false)
  | n + 1, s =>
    if kO (zN 46 s).1 then
      (if (zN 46 s).2.2 then ((zN 46 s).1 :: (kQ n (zN 46 s).2.1).1, (kQ n (zN 46 s).2.1).2)
       else ([(zN 46 s).1], true))
    else ([], false)
theorem cutGo_ok (n : Nat) : ∀ s, (kQ n s).2 = (decide ((pcs s).length ≤ n) && (pcs s).all kO) := by
  induction n with
  | zero =>
    intro s
    have := vR 46 s []
    have h : (pcs s).length ≠ 0 := by unfold pcs; simpa using this
    unfold kQ
    simp [Nat.le_zero_eq, List.length_eq_zero_iff] at h ⊢
    intro e; exact absurd e h
  | succ n ih =>
    intro s
    have e := gK 46 s []
    rw [List.nil_append] at e
    unfold kQ
    rw [show pcs s = _ from e]
    by_cases h : kO (zN 46 s).1 = true
    · rw [if_pos h]
      by_cases h2 : (zN 46 s).2.2 = true
      · rw [if_pos h2, if_pos h2]
        show (kQ n (zN 46 s).2.1).2 = _
        rw [ih]; unfold pcs; simp [h]
      · rw [if_neg h2, if_neg h2]
        simp [h]
    · rw [if_neg h]; simp [h]
theorem cutGo_all (n : Nat) : ∀ s, (kQ n s).2 = true → (kQ n s).1 = pcs s := by
  induction n with
  | zero => intro s h; cases h
  | succ n ih =>
    intro s
    have e := gK 46 s []
    rw [List.nil_append] at e
    unfold kQ
    rw [show pcs s = _ from e]
    by_cases h : kO (zN 46 s).1 = true
    · rw [if_pos h]
      by_cases h2 : (zN 46 s).2.2 = true
      · rw [if_pos h2, if_pos h2]
        intro h3
        show _ :: _ = _
        rw [ih _ h3]; rfl
      · rw [if_neg h2, if_neg h2]; intro _; rfl
    · rw [if_neg h]; intro h3; cases h3
theorem cutGo_len (n : Nat) : ∀ s, (kQ n s).1.length ≤ n := by
  induction n with
  | zero => intro s; simp [kQ]
  | succ n ih =>
    intro s
    unfold kQ
    split
    · split
      · have := ih (zN 46 s).2.1; simp; exact this
      · simp
    · simp
theorem cutGo_le (n : Nat) : ∀ s, ∀ x ∈ (kQ n s).1, kO x = true := by
  induction n with
  | zero => intro s x h; simp [kQ] at h
  | succ n ih =>
    intro s x hx
    unfold kQ at hx
    split at hx
    · rename_i h
      split at hx
      · rcases List.mem_cons.1 hx with rfl | hx
        · exact h
        · exact ih _ x hx
      · simp at hx; rw [hx]; exact h
    · simp at hx
def tg (l : List (List UInt8)) (i : Nat) : List UInt8 := (l[i]?).getD []
def lst (s : List UInt8) : List (List UInt8) × Bool := if s.isEmpty then ([], true) else kQ 4 s
theorem lst_ok (s : List UInt8) : (lst s).2 = kU s := by
  unfold lst kU
  by_cases h : s.isEmpty = true
  · rw [if_pos h, h]; rfl
  · rw [if_neg h, Bool.eq_false_iff.2 h, Bool.false_or]; exact cutGo_ok 4 s
theorem lst_all (s : List UInt8) (h : kU s = true) : (lst s).1 = if s.isEmpty then [] else pcs s := by
  rw [← lst_ok] at h
  unfold lst at h ⊢
  split
  · rfl
  · rename_i h2; rw [if_neg h2] at h; exact cutGo_all 4 s h
theorem lst_len (s : List UInt8) : (lst s).1.length ≤ 4 := by
  unfold lst; split
  · simp
  · exact cutGo_len 4 s
theorem lst_tag (s : List UInt8) : ∀ x ∈ (lst s).1, kO x = true := by
  unfold lst; split
  · intro x h; cases h
  · exact cutGo_le 4 s
theorem tagOk_len {t : List UInt8} (h : kO t = true) : 1 ≤ t.length ∧ t.length ≤ 8 := by
  unfold kO at h; simp at h; exact h.1
theorem tg_len (s : List UInt8) (i : Nat) : (tg (lst s).1 i).length ≤ 8 := by
  unfold tg
  cases h : (lst s).1[i]? with
  | none => simp
  | some x => exact (tagOk_len (lst_tag s x (List.mem_of_getElem? h))).2
theorem tg_all {p : List UInt8 → Bool} (hp : p [] = true) (l : List (List UInt8)) (h : l.length ≤ 4) : (p (tg l 0) && p (tg l 1) && p (tg l 2) && p (tg l 3)) = l.all p := by
  match l, h with
  | [], _ => simp [tg, hp]
  | [a], _ => simp [tg, hp]
  | [a, b], _ => simp [tg, hp]
  | [a, b, c], _ => simp [tg, hp, Bool.and_assoc]
  | [a, b, c, d], _ => simp [tg, Bool.and_assoc]
theorem preT_nil : mX [] = true := by decide
theorem preOk_lst (s : List UInt8) : qQ s = ((lst s).2 && (lst s).1.all mX) := by
  rw [lst_ok]
  unfold qQ
  by_cases h : kU s = true
  · rw [h, Bool.true_and, Bool.true_and, lst_all s h]
    split
    · rename_i h2; rw [h2]; rfl
    · rename_i h2; rw [Bool.eq_false_iff.2 h2, Bool.false_or]
  · rw [Bool.eq_false_iff.2 h]; rfl
end
section
theorem yN {a b : Bool} (h : a = b) : Ending.returned (.bool a) = .returned (.bool b) := by rw [h]
theorem xX {k : IntKind} {a b : Int} (h : a = b) : Ending.returned (.int k a) = .returned (.int k b) := by rw [h]
theorem letB_hi (n : Nat) (h : 128 ≤ n) : nG n = false := by unfold nG; simp; omega
theorem digB_hi (n : Nat) (h : 128 ≤ n) : kN n = false := by unfold kN; simp; omega
theorem letB_hi8 (c : UInt8) (h : 128 ≤ c.toNat) : nG c.toNat = false := letB_hi _ h
theorem digB_hi8 (c : UInt8) (h : 128 ≤ c.toNat) : kN c.toNat = false := digB_hi _ h
theorem bA {a b : Int} (h : ¬ a = b) : (a == b) = false := by simpa using h
theorem xU (w : World) (s : ByteArray) (pos : Nat) : Below w.heap.size w (w.iter s pos) := (Below.refl _ w).alloc (Nat.le_refl _) _
theorem wF (r : Int) (b : Bool) (hb : kN r = b) (w : World) :
    Calls Tryz.prog 138 #[.int .i32 r] w fun e w' => e = .returned (.bool b) ∧ w = w' := by
  subst hb
  unfold kN
  go_enter Tryz.func138, Tryz.ntmps138
  go_wp2
  all_goals go_ret
  all_goals exact ⟨yN (by simp; try omega), rfl⟩
theorem fW (r : Int) (b : Bool) (hb : kN r = b) (w : World) :
    Calls Tryz.prog 213 #[.int .u8 r] w fun e w' => e = .returned (.bool b) ∧ w = w' := by
  subst hb
  unfold kN
  go_enter Tryz.func213, Tryz.ntmps213
  go_wp2
  all_goals go_ret
  all_goals exact ⟨yN (by simp; try omega), rfl⟩
theorem fK {B : Nat} {a w : World} (h : Below B a w) (n : Nat) : Below B a (w.drewN n) := ⟨h.os, h.tape, h.output, h.size, Nat.le_trans h.drawn (Nat.le_add_right _ _), h.block⟩
end
section
theorem infoStr : (Tryz.prog.info? 9).map (fun i => (i.zero, i.size, i.bytes)) = some (some (.string ByteArray.empty), 1, 16) := by kernel_rfl
def mkS (l : List UInt8) : ByteArray := ⟨l.toArray⟩
def d5 (l : List (List UInt8)) : List Value := l.map fun x => .string (mkS x)
theorem pT (l : List (List UInt8)) (x : List UInt8) : d5 (l ++ [x]) = d5 l ++ [.string (mkS x)] := by unfold d5; rw [List.map_append]; rfl
theorem dT (l : List (List UInt8)) : (d5 l).length = l.length := by unfold d5; rw [List.length_map]
theorem qW (s : ByteArray) (f k : Nat) : s.extract f k = mkS ((s.data.toList.drop f).take (k - f)) := by
  unfold mkS
  apply ByteArray.ext
  apply Array.toList_inj.1
  rw [ByteArray.data_extract, Array.toList_extract, List.toList_toArray, List.extract_eq_take_drop]
theorem take_more (s : ByteArray) (f k : Nat) (hf : f ≤ k) (h : k < s.size) : (s.data.toList.drop f).take (k + 1 - f) = (s.data.toList.drop f).take (k - f) ++ [s[k]] := by
  rw [show k + 1 - f = k - f + 1 from by omega, List.take_succ_eq_append_getElem (by simp; omega)]
  congr 1
  simp [show f + (k - f) = k from by omega]
  rfl
theorem split_hit (b c : UInt8) (acc r : List UInt8) (h : c = b) : y7 b acc (c :: r) = acc :: y7 b [] r := by rw [y7, if_pos h]
theorem split_miss (b c : UInt8) (acc r : List UInt8) (h : ¬ c = b) : y7 b acc (c :: r) = y7 b (acc ++ [c]) r := by rw [y7, if_neg h]
def bM (s : ByteArray) (b : UInt8) : List (List UInt8) := y7 b [] s.data.toList
theorem rsplit_any (s : ByteArray) (b : UInt8) (w : World) (hs : s.size ≤ 1000000) :
    Calls Tryz.prog 79 #[.string s, .int .u8 b.toNat] w fun e w' => ∃ v, e = .returned v ∧ w'.ownsRow w.heap.size 9 1 v (bM s b).length (d5 (bM s b)) ∧ Below w.heap.size w w' := by
  obtain ⟨i0, hi, hz0, hz1, hz2⟩ := info_parts infoStr
  go_enter Tryz.func79, Tryz.ntmps79
  go_wp2
  go_loopw [5, 6, 7] (fun v fv iv wr => ∃ (k f : Nat) (P : List (List UInt8)), iv = .int .i64 k ∧ fv = .int .i64 f ∧ f ≤ k ∧ k ≤ s.size ∧ P.length ≤ k ∧ wr.ownsRow w.heap.size 9 1 v P.length (d5 P) ∧ Below w.heap.size w wr ∧ Hid (P ++ y7 b ((s.data.toList.drop f).take (k - f)) (s.data.toList.drop k) = bM s b)) (fun _ _ iv _ => s.size - (intOf iv).toNat)
  case atStart => exact ⟨0, 0, [], rfl, rfl, Nat.le_refl _, Nat.zero_le _, Nat.zero_le _, ⟨rfl, Or.inl ⟨rfl, rfl⟩⟩, Below.refl _ _, rfl⟩
  case round =>
    obtain ⟨k, f, P, rfl, rfl, hfk, hk, hP, hown, hb, HR⟩ := hrel
    have hsz := hb.size
    by_cases hp : k < s.size
    · have HD := Lib.hid (qJ s k hp)
      by_cases hc : s[k] = b
      · have HC := Lib.hid hc
        have hcb : ((s[k].toNat : Int) == (b.toNat : Int)) = true := by rw [hc]; simp
        clear hc
        go_wp2_with (at_builtin; refine gW _ rfl _ _ 83 rfl w.heap.size 9 i0 (.string ByteArray.empty) 1 16 Tryz.underlying83 hi hz0 hz1 hz2 rfl (by decide) _ _ _ rfl (hown.alloc _) ⟨wr.heap.size, 0, none⟩ 1 1 [.string (s.extract f k)] rfl rfl ?c1 ?c2 ?c3 ?c4 ?c5 ?_)
        case c1 =>
          intro j u hj
          match j, hj with
          | 0, hj => simp at hj; subst hj; simp [Addr.add]
        case c2 => intro u hu; simp at hu; subst hu; rfl
        case c3 => unfold maxLen; omega
        case c4 => omega
        case c5 => simp; omega
        intro v' w2 hown' hgrow _
        go_wp2
        go_roundw
        case rel =>
          refine ⟨k + 1, k + 1, P ++ [(s.data.toList.drop f).take (k - f)], by go_num, by go_num, Nat.le_refl _, by omega, by simp; omega, ?_, (hb.alloc hsz _).grown hgrow (by simp; omega) (fun k hk => (hown.lt k hk).1), ?_⟩
          · rw [pT, ← qW, List.length_append]; exact hown'
          · show _ = _
            rw [← HR.out, HD.out, split_hit _ _ _ _ HC.out, List.append_assoc, Nat.sub_self, List.take_zero]; rfl
        case measure => simp [intOf]; omega
      · have hcb : ((s[k].toNat : Int) == (b.toNat : Int)) = false := bA (fun e => hc (UInt8.toNat_inj.1 (by omega)))
        go_wp2
        go_roundw
        case rel => exact ⟨k + 1, f, P, by go_num, rfl, by omega, by omega, by omega, hown, hb, by show _ = _; rw [← HR.out, HD.out, split_miss _ _ _ _ hc, take_more s f k hfk hp]⟩
        case measure => simp [intOf]; omega
    · have hk2 : k = s.size := by omega
      have HD := Lib.hid (wE s k hp)
      have HE : Hid (P ++ [(s.data.toList.drop f).take (s.size - f)] = bM s b) := by
        show _ = _
        rw [← HR.out, HD.out, hk2]; rfl
      clear hk2
      go_wp2_with (at_builtin; refine gW _ rfl _ _ 83 rfl w.heap.size 9 i0 (.string ByteArray.empty) 1 16 Tryz.underlying83 hi hz0 hz1 hz2 rfl (by decide) _ _ _ rfl (hown.alloc _) ⟨wr.heap.size, 0, none⟩ 1 1 [.string (s.extract f s.size)] rfl rfl ?c1 ?c2 ?c3 ?c4 ?c5 ?_)
      case c1 =>
        intro j u hj
        match j, hj with
        | 0, hj => simp at hj; subst hj; simp [Addr.add]
      case c2 => intro u hu; simp at hu; subst hu; rfl
      case c3 => unfold maxLen; omega
      case c4 => omega
      case c5 => simp; omega
      intro v' w2 hown' hgrow _
      go_wp2
      go_ret
      refine ⟨v', rfl, ?_, (hb.alloc hsz _).grown hgrow (by simp; omega) (fun k hk => (hown.lt k hk).1)⟩
      rw [← HE.out, pT, ← qW, List.length_append]; exact hown'
end
section
theorem mE (c : UInt8) (l : List UInt8) : Lib.indexByte l c = Lib.index l [c] := by
  induction l with
  | nil => rfl
  | cons b r ih =>
    rw [Lib.indexByte, Lib.index, ih]
    by_cases h : b = c
    · subst h; simp
    · have e1 : ([c].isPrefixOf (b :: r)) = false := by simp [List.isPrefixOf]; exact fun e => h e.symm
      rw [e1]; simp [h]
theorem cutB (s : List UInt8) (c : UInt8) : Lib.cut (mkS s).data.toList (⟨#[c]⟩ : ByteArray).data.toList = zN c s := cutAt_cut c s
theorem scut_any (s : List UInt8) (c : UInt8) (w : World) (hs : (mkS s).size < 4294967281) :
    Calls Tryz.prog 46 #[.string (mkS s), .string ⟨#[c]⟩] w fun e w' => e = .returned (.tuple #[.string (mkS (zN c s).1), .string (mkS (zN c s).2.1), .bool (zN c s).2.2]) ∧ ∃ n, w' = w.drewN n := by
  have hc := cutB s c
  rcases Lib.indexB_cases (mkS s) ⟨#[c]⟩ with hix | ⟨i, hix, hroom⟩
  · obtain ⟨e1, e2, e3⟩ := Lib.cutB_miss (mkS s) ⟨#[c]⟩ hix
    rw [hc] at e1 e2 e3
    rw [show mkS (zN c s).1 = mkS s from e1, show mkS (zN c s).2.1 = ByteArray.empty from e2, e3]
    have hixb : Lib.indexByte (mkS s).data.toList c = -1 := (mE c _).trans hix
    have H := Lib.hid hixb
    clear hc e1 e2 e3 hix hixb
    go_enter Tryz.func46, Tryz.ntmps46
    go_wp2_with (go_at_call 74; refine (Tryz.stringslite_Index_one (mkS s) c _).mono ?_; rintro e w' ⟨rfl, rfl⟩; rw [H.out])
    go_ret3
    exact ⟨rfl, 0, rfl⟩
  · obtain ⟨e1, e2, e3⟩ := Lib.cutB_hit (mkS s) ⟨#[c]⟩ i hix
    rw [hc] at e1 e2 e3
    rw [show mkS (zN c s).1 = _ from e1, show mkS (zN c s).2.1 = _ from e2, e3]
    have hroom' : i + 1 ≤ (mkS s).size := hroom
    rw [show i + (⟨#[c]⟩ : ByteArray).size = i + 1 from rfl]
    have c1 : (0 : Int) ≤ ↑i := by omega
    have c2 : (↑i : Int) ≤ ↑(mkS s).size := by omega
    have c3 : (0 : Int) ≤ ↑i + 1 := by omega
    have c4 : (↑i + 1 : Int) ≤ ↑(mkS s).size := by omega
    have hixb : Lib.indexByte (mkS s).data.toList c = (i : Int) := (mE c _).trans hix
    have H := Lib.hid hixb
    clear hc e1 e2 e3 hix hixb
    go_enter Tryz.func46, Tryz.ntmps46
    go_wp2_with (go_at_call 74; refine (Tryz.stringslite_Index_one (mkS s) c _).mono ?_; rintro e w' ⟨rfl, rfl⟩; rw [H.out])
    have mixed : Tryz.prog.follows .mixedOrders = true := by kernel_rfl
    have hwr : IntKind.i64.wrap ((i : Int) + 1) = (i : Int) + 1 := IntWalk.i64_in _ (by omega)
    have hnat : ((i : Int) + 1).toNat = i + 1 := by omega
    go_region_o
    go_wp2
    go_ret3
    exact ⟨rfl, 1, rfl⟩
theorem cut_any (s : List UInt8) (c : UInt8) (w : World) (hs : s.length < 4294967281) :
    Calls Tryz.prog 27 #[.string (mkS s), .string ⟨#[c]⟩] w fun e w' => e = .returned (.tuple #[.string (mkS (zN c s).1), .string (mkS (zN c s).2.1), .bool (zN c s).2.2]) ∧ ∃ n, w' = w.drewN n := by
  have hs' : (mkS s).size < 4294967281 := by unfold mkS; simpa [ByteArray.size] using hs
  go_enter Tryz.func27, Tryz.ntmps27
  go_wp2_with (go_at_call 46; refine (scut_any s c _ hs').mono ?_; rintro e w' ⟨rfl, n, rfl⟩)
  go_ret3
  exact ⟨rfl, n, rfl⟩
theorem fG (s : List UInt8) (c : UInt8) (w : World) (hs : s.length < 4294967281) :
    Calls Tryz.prog 27 #[.string (mkS s), .string ⟨#[c]⟩] w fun e w' => e = .returned (.tuple #[.string (mkS (zN c s).1), .string (mkS (zN c s).2.1), .bool (zN c s).2.2]) ∧ Below w.heap.size w w' :=
  (cut_any s c w hs).mono fun _ _ ⟨he, n, hw⟩ => ⟨he, by rw [hw]; exact fK (Below.refl _ _) n⟩
end
section
theorem gC {a b : Int} {p q : Bool} (h : a = b) (h2 : p = q) : Ending.returned (.tuple #[.int .i64 a, .bool p]) = .returned (.tuple #[.int .i64 b, .bool q]) := by rw [h, h2]
theorem kW {s : ByteArray} (h : xB 0 true s.data.toList = none) : numV s = 0 := by unfold numV numB; rw [h]; rfl
theorem kJ {s : ByteArray} (h : xB 0 true s.data.toList = none) : tZ s = false := by unfold tZ numB; rw [h]; rfl
theorem tC {s : ByteArray} {n : Nat} (h : xB 0 true s.data.toList = some n) : numV s = n := by unfold numV numB; rw [h]; rfl
theorem n7 {s : ByteArray} {n : Nat} (h : xB 0 true s.data.toList = some n) : tZ s = true := by unfold tZ numB; rw [h]; rfl
theorem nM {n : Nat} (h : kN n = true) : 48 ≤ n ∧ n ≤ 57 := by unfold kN at h; simp at h; omega
theorem number_any (s : ByteArray) (w : World) (hs : s.size ≤ maxLen) :
    Calls Tryz.prog 91 #[.string s] w fun e w' => e = .returned (.tuple #[.int .i64 (numV s), .bool (tZ s)]) ∧ Below w.heap.size w w' := by
  unfold maxLen at hs
  go_enter Tryz.func91, Tryz.ntmps91
  go_wp2
  go_loopw [4] (fun v wr => ∃ (pos n : Nat), wr = w.iter s pos ∧ pos ≤ s.size ∧ n ≤ 9999 ∧ v = .int .i64 n ∧ Hid (pos = 0 → n = 0) ∧ Hid (xB n (decide (pos = 0)) (s.data.toList.drop pos) = xB 0 true s.data.toList)) (fun _ wr => s.size - wr.iterPos w.heap.size)
  case atStart => exact ⟨0, 0, rfl, Nat.zero_le _, by omega, rfl, fun _ => rfl, rfl⟩
  case round =>
    obtain ⟨pos, n, rfl, hple, hn, rfl, HZ, HR⟩ := hrel
    by_cases hp : pos < s.size
    · have HD := Lib.hid (qJ s pos hp)
      by_cases ha : (s[pos]'hp).toNat < 128
      · have hnx : ∀ ty, (Instr.next (.pointer (some ⟨w.heap.size, 0, none⟩)) true ty).run Tryz.prog (w.iter s pos) = _ := fun ty => run_next_ascii w s pos ty hp ha
        by_cases hd : kN (s[pos]'hp).toNat = true
        · have HG := Lib.hid hd
          obtain ⟨hlo, hhi⟩ := nM hd
          clear hd
          by_cases h0 : pos = 0
          · subst h0
            by_cases h3 : n * 10 + ((s[0]'hp).toNat - 48) ≤ 9999
            · have h3i : (n : Int) * 10 + (((s[0]'hp).toNat : Int) - 48) ≤ 9999 := by omega
              go_wp2_with (go_at_call 138; refine (wF _ true HG.out _).mono ?_; rintro e w' ⟨rfl, rfl⟩)
              go_roundw
              case rel => exact ⟨0 + 1, n * 10 + ((s[0]'hp).toNat - 48), rfl, by omega, h3, by go_num, fun h => by omega, by rw [← HR.out, HD.out, wA _ _ _ _ HG.out (by simp) h3]; rfl⟩
              case measure => simp; omega
            · have h3i : 9999 < (n : Int) * 10 + (((s[0]'hp).toNat : Int) - 48) := by omega
              go_wp2_with (go_at_call 138; refine (wF _ true HG.out _).mono ?_; rintro e w' ⟨rfl, rfl⟩)
              go_ret2
              have HN : xB 0 true s.data.toList = none := by rw [← HR.out, HD.out, fZ _ _ _ _ h3]
              exact ⟨gC (kW HN).symm (kJ HN).symm, xU _ _ _⟩
          · have hpos : 0 < pos := by omega
            by_cases hz : n = 0
            · have hzb : ((n : Int) == 0) = true := by simp [hz]
              have HZ2 := Lib.hid hz
              clear hz
              go_wp2_with (go_at_call 138; refine (wF _ true HG.out _).mono ?_; rintro e w' ⟨rfl, rfl⟩)
              go_ret2
              have HN : xB 0 true s.data.toList = none := by rw [← HR.out, HD.out, HZ2.out, decide_eq_false (by omega), nC]
              exact ⟨gC (kW HN).symm (kJ HN).symm, xU _ _ _⟩
            · have hzb : ((n : Int) == 0) = false := by simpa using hz
              by_cases h3 : n * 10 + ((s[pos]'hp).toNat - 48) ≤ 9999
              · have h3i : (n : Int) * 10 + (((s[pos]'hp).toNat : Int) - 48) ≤ 9999 := by omega
                go_wp2_with (go_at_call 138; refine (wF _ true HG.out _).mono ?_; rintro e w' ⟨rfl, rfl⟩)
                go_roundw
                case rel => exact ⟨pos + 1, n * 10 + ((s[pos]'hp).toNat - 48), rfl, by omega, h3, by go_num, fun h => by omega, by rw [← HR.out, HD.out, wA _ _ _ _ HG.out (fun h => hz h.2) h3]; rfl⟩
                case measure => simp; omega
              · have h3i : 9999 < (n : Int) * 10 + (((s[pos]'hp).toNat : Int) - 48) := by omega
                go_wp2_with (go_at_call 138; refine (wF _ true HG.out _).mono ?_; rintro e w' ⟨rfl, rfl⟩)
                go_ret2
                have HN : xB 0 true s.data.toList = none := by rw [← HR.out, HD.out, fZ _ _ _ _ h3]
                exact ⟨gC (kW HN).symm (kJ HN).symm, xU _ _ _⟩
        · have HG := Lib.hid (Bool.eq_false_iff.2 hd)
          clear hd
          go_wp2_with (go_at_call 138; refine (wF _ false HG.out _).mono ?_; rintro e w' ⟨rfl, rfl⟩)
          go_ret2
          have HN : xB 0 true s.data.toList = none := by rw [← HR.out, HD.out, jN _ _ _ _ HG.out]
          exact ⟨gC (kW HN).symm (kJ HN).symm, xU _ _ _⟩
      · have hnx : ∀ ty, (Instr.next (.pointer (some ⟨w.heap.size, 0, none⟩)) true ty).run Tryz.prog (w.iter s pos) = _ := fun ty => run_next_any w s pos ty hp
        have hhi := (decode_high s pos hp (by omega)).1
        have HG := Lib.hid (digB_hi _ hhi)
        go_wp2_with (go_at_call 138; refine (wF _ false HG.out _).mono ?_; rintro e w' ⟨rfl, rfl⟩)
        go_ret2
        have HN : xB 0 true s.data.toList = none := by rw [← HR.out, HD.out, jN _ _ _ _ (digB_hi8 _ (by omega))]
        exact ⟨gC (kW HN).symm (kJ HN).symm, xU _ _ _⟩
    · have hnx : ∀ ty, (Instr.next (.pointer (some ⟨w.heap.size, 0, none⟩)) true ty).run Tryz.prog (w.iter s pos) = _ := fun ty => run_next_end w s pos ty hp
      have HD := Lib.hid (wE s pos hp)
      by_cases he : s.size = 0
      · have hes : s = ⟨#[]⟩ := by
          apply ByteArray.ext
          exact Array.eq_empty_of_size_eq_zero he
        subst hes
        obtain rfl : n = 0 := HZ.out (Nat.le_zero.1 hple)
        go_wp2
        go_ret2
        exact ⟨gC (by decide) (by decide), xU _ _ _⟩
      · have hse : (!s.toList.isEmpty) = true := by
          rw [Lib.toList_data, Bool.not_eq_true', List.isEmpty_eq_false_iff]; intro h; apply he; have := congrArg List.length h; simpa using this
        have HSE := Lib.hid hse
        clear hse
        go_wp2
        go_ret2
        have HN : xB 0 true s.data.toList = some n := by rw [← HR.out, HD.out, decide_eq_false (by omega), xB]; rfl
        exact ⟨gC (tC HN).symm (HSE.out.trans (n7 HN).symm), xU _ _ _⟩
theorem foldV_snoc (l : List UInt8) (c : UInt8) (n : Nat) : gR n (l ++ [c]) = gR n l * 10 + (c.toNat - 48) := by rw [pL]; rfl
theorem fR (s : ByteArray) (k : Nat) (h : k < s.size) : s.data.toList.take (k + 1) = s.data.toList.take k ++ [s[k]] := by
  rw [List.take_succ_eq_append_getElem (by simpa using h)]; rfl
theorem allDig_snoc (l : List UInt8) (c : UInt8) : yV (l ++ [c]) = (yV l && kN c.toNat) := by rw [bB]; unfold yV; rw [List.all_cons, List.all_nil, Bool.and_true]
theorem allDig_bad (s : ByteArray) (k : Nat) (h : k < s.size) (hd : kN s[k].toNat = false) : yV s.data.toList = false := by
  have e : s.data.toList = s.data.toList.take k ++ s[k] :: s.data.toList.drop (k + 1) := by rw [← qJ s k h, List.take_append_drop]
  rw [e, bB]
  have : yV (s[k] :: s.data.toList.drop (k + 1)) = false := by unfold yV; rw [List.all_cons, hd]; rfl
  rw [this, Bool.and_false]
theorem gO (s : ByteArray) : s.data.toList.length = s.size := by simp
theorem head_data (s : ByteArray) (h : 0 < s.size) : s.data.toList.head? = some s[0] := by
  have := qJ s 0 h
  rw [List.drop_zero] at this
  rw [this]; rfl
theorem ten_le {k : Nat} (h : k ≤ 8) : 10 ^ k ≤ 100000000 := Nat.pow_le_pow_right (by omega) h
theorem rnumber_any (s : ByteArray) (w : World) (hs : s.size ≤ maxLen) :
    Calls Tryz.prog 197 #[.string s] w fun e w' => e = .returned (.tuple #[.int .i64 (numV s), .bool (tZ s)]) ∧ w = w' := by
  unfold maxLen at hs
  have HREF := Lib.hid (numGo_ref s.data.toList)
  by_cases h0 : s.size < 1
  · have HN : xB 0 true s.data.toList = none := by rw [HREF.out, tD, if_pos (Or.inl (by rw [gO]; exact h0))]
    have HV := Lib.hid (kW HN)
    have HO := Lib.hid (kJ HN)
    clear HN
    go_enter Tryz.func197, Tryz.ntmps197
    go_wp2
    go_ret2
    exact ⟨gC HV.out.symm HO.out.symm, rfl⟩
  · have hp0 : 0 < s.size := by omega
    by_cases h9 : s.size ≤ 9
    · by_cases hz : 1 < s.size ∧ (s[0].toNat : Int) = 48
      · have HN : xB 0 true s.data.toList = none := by
          rw [HREF.out, tD, if_pos (Or.inr (Or.inr ⟨by rw [gO]; exact hz.1, by rw [head_data s hp0, show s[0] = 48 from UInt8.toNat_inj.1 (by have := hz.2; show s[0].toNat = 48; omega)]⟩))]
        have HV := Lib.hid (kW HN)
        have HO := Lib.hid (kJ HN)
        clear HN
        have hb : ((s[0].toNat : Int) == 48) = true := by simp [hz.2]
        have h1 : 1 < s.size := hz.1
        clear hz
        go_enter Tryz.func197, Tryz.ntmps197
        go_wp2
        go_ret2
        exact ⟨gC HV.out.symm HO.out.symm, rfl⟩
      · have HN : Hid (xB 0 true s.data.toList = if yV s.data.toList = true ∧ gR 0 s.data.toList ≤ 9999 then some (gR 0 s.data.toList) else none) := by
          show _ = _
          rw [HREF.out, tD, if_neg]
          rintro (h | h | h)
          · rw [gO] at h; omega
          · rw [gO] at h; omega
          · rw [gO, head_data s hp0] at h
            refine hz ⟨h.1, ?_⟩
            have := Option.some.inj h.2
            rw [this]; rfl
        have hb : 1 < s.size → ((s[0].toNat : Int) == 48) = false := fun h => bA (fun e => hz ⟨h, e⟩)
        clear hz
        by_cases h1 : 1 < s.size
        · have hb1 := hb h1
          clear hb
          go_enter Tryz.func197, Tryz.ntmps197
          go_wp2
          go_loop [4, 5] (fun v i => ∃ k n : Nat, k ≤ s.size ∧ v = .int .i64 n ∧ i = .int .i64 k ∧ Hid (n < 10 ^ k) ∧ Hid (n = gR 0 (s.data.toList.take k)) ∧ Hid (yV (s.data.toList.take k) = true)) (fun _ i => s.size - (intOf i).toNat)
          case atStart => exact ⟨0, 0, Nat.zero_le _, rfl, rfl, by show 0 < 10 ^ 0; omega, rfl, rfl⟩
          case round =>
            obtain ⟨k, n, hk, rfl, rfl, HP, HF, HA⟩ := hrel
            by_cases hp : k < s.size
            · by_cases hd : kN s[k].toNat = true
              · have HG := Lib.hid hd
                obtain ⟨hlo, hhi⟩ := nM hd
                clear hd
                have hn8 : n ≤ 100000000 := Nat.le_of_lt (Nat.lt_of_lt_of_le HP.out (ten_le (by omega)))
                go_wp2_with (go_at_call 213; refine (fW _ true HG.out _).mono ?_; rintro e w' ⟨rfl, rfl⟩)
                go_round
                case rel =>
                  refine ⟨k + 1, n * 10 + (s[k].toNat - 48), by omega, by go_num, by go_num, ?_, ?_, ?_⟩
                  · have := HP.out
                    show _ < 10 ^ (k + 1)
                    rw [Nat.pow_succ]; omega
                  · show _ = _
                    rw [fR s k hp, foldV_snoc, ← HF.out]
                  · show _ = _
                    rw [fR s k hp, allDig_snoc, HA.out, HG.out]; rfl
                case measure => simp [intOf]; omega
              · have HG := Lib.hid (Bool.eq_false_iff.2 hd)
                clear hd
                go_wp2_with (go_at_call 213; refine (fW _ false HG.out _).mono ?_; rintro e w' ⟨rfl, rfl⟩)
                go_ret2
                have HM : xB 0 true s.data.toList = none := by rw [HN.out, allDig_bad s k hp HG.out]; simp
                exact ⟨gC (kW HM).symm (kJ HM).symm, rfl⟩
            · have HT : Hid (s.data.toList.take k = s.data.toList) := List.take_of_length_le (by rw [gO]; omega)
              by_cases h4 : n ≤ 9999
              · go_wp2
                go_ret2
                have HM : xB 0 true s.data.toList = some n := by
                  have e1 := HF.out
                  have e2 := HA.out
                  rw [HT.out] at e1 e2
                  rw [HN.out, e2, ← e1, if_pos ⟨rfl, h4⟩]
                exact ⟨gC (tC HM).symm (n7 HM).symm, rfl⟩
              · go_wp2
                go_ret2
                have HM : xB 0 true s.data.toList = none := by
                  have e1 := HF.out
                  rw [HT.out] at e1
                  rw [HN.out, ← e1, if_neg (fun h => h4 h.2)]
                exact ⟨gC (kW HM).symm (kJ HM).symm, rfl⟩
        · clear hb
          go_enter Tryz.func197, Tryz.ntmps197
          go_wp2
          go_loop [4, 5] (fun v i => ∃ k n : Nat, k ≤ s.size ∧ v = .int .i64 n ∧ i = .int .i64 k ∧ Hid (n < 10 ^ k) ∧ Hid (n = gR 0 (s.data.toList.take k)) ∧ Hid (yV (s.data.toList.take k) = true)) (fun _ i => s.size - (intOf i).toNat)
          case atStart => exact ⟨0, 0, Nat.zero_le _, rfl, rfl, by show 0 < 10 ^ 0; omega, rfl, rfl⟩
          case round =>
            obtain ⟨k, n, hk, rfl, rfl, HP, HF, HA⟩ := hrel
            by_cases hp : k < s.size
            · by_cases hd : kN s[k].toNat = true
              · have HG := Lib.hid hd
                obtain ⟨hlo, hhi⟩ := nM hd
                clear hd
                have hn8 : n ≤ 100000000 := Nat.le_of_lt (Nat.lt_of_lt_of_le HP.out (ten_le (by omega)))
                go_wp2_with (go_at_call 213; refine (fW _ true HG.out _).mono ?_; rintro e w' ⟨rfl, rfl⟩)
                go_round
                case rel =>
                  refine ⟨k + 1, n * 10 + (s[k].toNat - 48), by omega, by go_num, by go_num, ?_, ?_, ?_⟩
                  · have := HP.out
                    show _ < 10 ^ (k + 1)
                    rw [Nat.pow_succ]; omega
                  · show _ = _
                    rw [fR s k hp, foldV_snoc, ← HF.out]
                  · show _ = _
                    rw [fR s k hp, allDig_snoc, HA.out, HG.out]; rfl
                case measure => simp [intOf]; omega
              · have HG := Lib.hid (Bool.eq_false_iff.2 hd)
                clear hd
                go_wp2_with (go_at_call 213; refine (fW _ false HG.out _).mono ?_; rintro e w' ⟨rfl, rfl⟩)
                go_ret2
                have HM : xB 0 true s.data.toList = none := by rw [HN.out, allDig_bad s k hp HG.out]; simp
                exact ⟨gC (kW HM).symm (kJ HM).symm, rfl⟩
            · have HT : Hid (s.data.toList.take k = s.data.toList) := List.take_of_length_le (by rw [gO]; omega)
              by_cases h4 : n ≤ 9999
              · go_wp2
                go_ret2
                have HM : xB 0 true s.data.toList = some n := by
                  have e1 := HF.out
                  have e2 := HA.out
                  rw [HT.out] at e1 e2
                  rw [HN.out, e2, ← e1, if_pos ⟨rfl, h4⟩]
                exact ⟨gC (tC HM).symm (n7 HM).symm, rfl⟩
              · go_wp2
                go_ret2
                have HM : xB 0 true s.data.toList = none := by
                  have e1 := HF.out
                  rw [HT.out] at e1
                  rw [HN.out, ← e1, if_neg (fun h => h4 h.2)]
                exact ⟨gC (kW HM).symm (kJ HM).symm, rfl⟩
    · have HN : xB 0 true s.data.toList = none := by rw [HREF.out, tD, if_pos (Or.inr (Or.inl (by rw [gO]; omega)))]
      have HV := Lib.hid (kW HN)
      have HO := Lib.hid (kJ HN)
      clear HN
      go_enter Tryz.func197, Tryz.ntmps197
      go_wp2
      go_ret2
      exact ⟨gC HV.out.symm HO.out.symm, rfl⟩
end
section
theorem qG (r : Int) (b : Bool) (hb : kN r = b) (w : World) :
    Calls Tryz.prog 204 #[.int .i32 r] w fun e w' => e = .returned (.bool b) ∧ w = w' := by
  subst hb
  unfold kN
  go_enter Tryz.func204, Tryz.ntmps204
  go_wp2
  all_goals go_ret
  all_goals exact ⟨yN (by simp; try omega), rfl⟩
theorem fL (c : UInt8) (r : List UInt8) (h : kN c.toNat = true) : yV (c :: r) = yV r := by unfold yV; rw [List.all_cons, h, Bool.true_and]
theorem qT (c : UInt8) (r : List UInt8) (h : kN c.toNat = false) : yV (c :: r) = false := by unfold yV; rw [List.all_cons, h, Bool.false_and]
theorem vnumeric_any (s : ByteArray) (w : World) (_hs : s.size ≤ maxLen) :
    Calls Tryz.prog 205 #[.string s] w fun e w' => e = .returned (.bool (xZ s.data.toList)) ∧ Below w.heap.size w w' := by
  go_enter Tryz.func205, Tryz.ntmps205
  go_wp2
  go_loopw [] (fun wr => ∃ (pos : Nat), wr = w.iter s pos ∧ pos ≤ s.size ∧ Hid (yV (s.data.toList.drop pos) = yV s.data.toList)) (fun wr => s.size - wr.iterPos w.heap.size)
  case atStart => exact ⟨0, rfl, Nat.zero_le _, rfl⟩
  case round =>
    obtain ⟨pos, rfl, hple, HR⟩ := hrel
    by_cases hp : pos < s.size
    · have HD := Lib.hid (qJ s pos hp)
      by_cases ha : (s[pos]'hp).toNat < 128
      · have hnx : ∀ ty, (Instr.next (.pointer (some ⟨w.heap.size, 0, none⟩)) true ty).run Tryz.prog (w.iter s pos) = _ := fun ty => run_next_ascii w s pos ty hp ha
        by_cases hd : kN (s[pos]'hp).toNat = true
        · have HG := Lib.hid hd
          clear hd
          go_wp2_with (go_at_call 204; refine (qG _ true HG.out _).mono ?_; rintro e w' ⟨rfl, rfl⟩)
          go_roundw
          case rel => exact ⟨pos + 1, rfl, by omega, by rw [← HR.out, HD.out, fL _ _ HG.out]; rfl⟩
          case measure => simp; omega
        · have HG := Lib.hid (Bool.eq_false_iff.2 hd)
          clear hd
          go_wp2_with (go_at_call 204; refine (qG _ false HG.out _).mono ?_; rintro e w' ⟨rfl, rfl⟩)
          go_ret
          exact ⟨yN (by unfold xZ; rw [← HR.out, HD.out, qT _ _ HG.out, Bool.and_false]), xU _ _ _⟩
      · have hnx : ∀ ty, (Instr.next (.pointer (some ⟨w.heap.size, 0, none⟩)) true ty).run Tryz.prog (w.iter s pos) = _ := fun ty => run_next_any w s pos ty hp
        have hhi := (decode_high s pos hp (by omega)).1
        have HG := Lib.hid (digB_hi _ hhi)
        go_wp2_with (go_at_call 204; refine (qG _ false HG.out _).mono ?_; rintro e w' ⟨rfl, rfl⟩)
        go_ret
        exact ⟨yN (by unfold xZ; rw [← HR.out, HD.out, qT _ _ (digB_hi8 _ (by omega)), Bool.and_false]), xU _ _ _⟩
    · have hnx : ∀ ty, (Instr.next (.pointer (some ⟨w.heap.size, 0, none⟩)) true ty).run Tryz.prog (w.iter s pos) = _ := fun ty => run_next_end w s pos ty hp
      have HD := Lib.hid (wE s pos hp)
      go_wp2
      go_ret
      exact ⟨yN (by unfold xZ; rw [← HR.out, HD.out]; simp [yV, Lib.toList_data]), xU _ _ _⟩
theorem mk_data (t : List UInt8) : (mkS t).data.toList = t := by unfold mkS; simp
theorem tagC_dig (c : UInt8) (h : kN c.toNat = true) : jG c = true := by unfold jG; rw [h]; simp
theorem tagC_let (c : UInt8) (h : nG c.toNat = true) : jG c = true := by unfold jG; rw [h]; simp
theorem tagC_dash (c : UInt8) (h : (c.toNat : Int) = 45) : jG c = true := by unfold jG; rw [decide_eq_true h]; simp
theorem tagC_bad (c : UInt8) (h1 : kN c.toNat = false) (h2 : nG c.toNat = false) (h3 : ¬ (c.toNat : Int) = 45) : jG c = false := by unfold jG; rw [h1, h2, decide_eq_false h3]; rfl
theorem tO (c : UInt8) (r : List UInt8) (h : jG c = true) : (c :: r).all jG = r.all jG := by rw [List.all_cons, h, Bool.true_and]
theorem all_bad (c : UInt8) (r : List UInt8) (h : jG c = false) : (c :: r).all jG = false := by rw [List.all_cons, h, Bool.false_and]
def xW (l : List (List UInt8)) : Array Value := #[.string (mkS (tg l 0)), .string (mkS (tg l 1)), .string (mkS (tg l 2)), .string (mkS (tg l 3))]
theorem tR {t : List UInt8} (h : t = []) : kO t = false := by subst h; decide
theorem mJ {t : List UInt8} (h : 8 < t.length) : kO t = false := by
  unfold kO; rw [decide_eq_false (by omega)]; rfl
theorem tagOk_mid {t : List UInt8} (h : t ≠ []) (h2 : t.length ≤ 8) : kO t = t.all jG := by
  unfold kO
  have : 1 ≤ t.length := by cases t <;> simp at h ⊢
  rw [decide_eq_true ⟨this, h2⟩, Bool.true_and]
theorem cutGo_bad (n : Nat) (s : List UInt8) (h : kO (zN 46 s).1 = false) : kQ (n + 1) s = ([], false) := by
  unfold kQ; rw [if_neg (by simp [h])]
theorem cutGo_on (n : Nat) (s : List UInt8) (h : kO (zN 46 s).1 = true) (h2 : (zN 46 s).2.2 = true) : kQ (n + 1) s = ((zN 46 s).1 :: (kQ n (zN 46 s).2.1).1, (kQ n (zN 46 s).2.1).2) := by
  rw [kQ, if_pos h, if_pos h2]
theorem lcells_snoc (acc : List (List UInt8)) (x : List UInt8) (k : Nat) (hk : acc.length = k) (h4 : k < 4) : (xW acc).setIfInBounds k (.string (mkS x)) = xW (acc ++ [x]) := by
  subst hk
  match acc, h4 with
  | [], _ => rfl
  | [a], _ => rfl
  | [a, b], _ => rfl
  | [a, b, c], _ => rfl
def LRel (s : List UInt8) (w : World) (g : Nat) (s0 s5 s6 : Value) (wr : World) : Prop :=
  ∃ (acc : List (List UInt8)) (r : List UInt8) (k : Nat) (b : Bool), k + g = 4 ∧ s0 = .string (mkS r) ∧ s5 = .bool b ∧ s6 = .int .i64 k ∧ r.length ≤ s.length ∧
    wr.heap[w.heap.size]? = some (.cells (xW []) 193) ∧ wr.heap[w.heap.size + 1]? = some (.cells (xW acc) 193) ∧ Below w.heap.size w wr ∧
    (b = true → lst s = (acc, true)) ∧ (b = false → acc.length = k ∧ lst s = (acc ++ (kQ (4 - k) r).1, (kQ (4 - k) r).2))
theorem yZ (w : World) (o : Obj) : (w.alloc o).heap[w.heap.size]? = some o := by
  show (w.heap.push o)[w.heap.size]? = some o
  simp
theorem vL (w : World) (o : Obj) (k : Nat) (h : k = w.heap.size) : (w.alloc o).heap[k]? = some o := by subst h; exact yZ w o
theorem yO (w : World) (o : Obj) {k : Nat} (h : k < w.heap.size) : (w.alloc o).heap[k]? = w.heap[k]? := by
  show (w.heap.push o)[k]? = _
  rw [Array.getElem?_push, if_neg (by omega)]
theorem kY (w : World) (s : ByteArray) (pos : Nat) {k : Nat} (h : k < w.heap.size) : (w.iter s pos).heap[k]? = w.heap[k]? := yO w _ h
theorem y6 {w : World} {g j : Nat} {cs : Array Value} {t : TypeId} (hg : w.heap[g]? = some (.cells cs t (0, 0))) (hj : j < cs.size) : w.cell? ⟨g, j, none⟩ = some cs[j] ∧ w.frozen? ⟨g, j, none⟩ = false := by
  refine ⟨by rw [cell_of_row w g j cs t (0, 0) hg]; simp [hj], by simp [World.frozen?, hg]⟩
theorem xI {B g : Nat} {a w : World} (h : Below B a w) (hg : B ≤ g) (cs : Array Value) : Below B a (w.setRow g cs) := by
  refine ⟨h.os, h.tape, h.output, ?_, h.drawn, fun k hk => ?_⟩
  · have := h.size; unfold World.setRow; simpa using this
  · rw [← h.block k hk]
    unfold World.setRow
    have : g ≠ k := by omega
    simp [Array.getElem?_modify, this]
theorem g6 (w : World) (g k : Nat) (cs : Array Value) (h : g ≠ k) : (w.setRow g cs).heap[k]? = w.heap[k]? := by
  unfold World.setRow
  simp [Array.getElem?_modify, h]
theorem lcells_size (l : List (List UInt8)) : (xW l).size = 4 := rfl
theorem qV (l : List (List UInt8)) : (xW l).all (·.oneCell') = true := by simp [xW, Value.oneCell']
def LEnd (s : List UInt8) (w : World) (e : Ending) (w' : World) : Prop := e = .returned (.tuple #[.agg (xW (lst s).1), .bool (lst s).2]) ∧ Below w.heap.size w w'
theorem vV {s : List UInt8} {w wr : World} {acc : List (List UInt8)} {b : Bool} {tmps : Array Value} (h2 : tmps.getD 2 undef = .pointer (some ⟨w.heap.size, 0, none⟩)) (h3 : tmps.getD 3 undef = .bool b)
    (hg : wr.heap[w.heap.size]? = some (.cells (xW []) 193)) (hbel : Below w.heap.size w wr) (hl : lst s = (acc, b)) :
    bodyPost Tryz.prog Tryz.f180 (LEnd s w) .ret ⟨tmps, []⟩ (wr.setRow w.heap.size (xW acc)) := by
  have hrow := setRow_heap wr w.heap.size _ (xW acc) _ _ hg
  have hr := run_loadVar_row (P := Tryz.prog) (wr.setRow w.heap.size (xW acc)) w.heap.size 193 193 (xW acc) _ _ hrow Tryz.underlying193 rfl (by kernel_rfl)
  have h2' : tmps[2]?.getD undef = .pointer (some ⟨w.heap.size, 0, none⟩) := by simpa using h2
  have h3' : tmps[3]?.getD undef = .bool b := by simpa using h3
  refine bodyPost_ret (v := .tuple #[.agg (xW acc), .bool b]) (by simp [results, Tryz.results180, asAddr, h2', h3', hr]) rfl ⟨by rw [hl], xI hbel (Nat.le_refl _) _⟩
theorem list_any0 (s : List UInt8) (w : World) (hs : s.length < 4294967281) :
    Calls Tryz.prog 180 #[.string (mkS s)] w (LEnd s w) := by
  go_enter Tryz.func180, Tryz.ntmps180
  go_wp2
  go_step3
  go_wp2
  go_step3
  go_wp2
  go_loopg [0, 5, 6] 4 (fun g s0 s5 s6 wr => LRel s w g s0 s5 s6 wr)
  case atStart =>
    refine ⟨[], s, 0, s.isEmpty, by omega, rfl, ?_, rfl, Nat.le_refl _, ?_, ?_, ?_, ?_, ?_⟩
    · rw [Lib.toList_data]; rfl
    · rw [yO _ _ (by simp), yZ]; rfl
    · exact vL _ _ _ (by simp)
    · exact ((Below.refl _ _).alloc (Nat.le_refl _) _).alloc (by simp) _
    · intro h; unfold lst; rw [if_pos h]
    · intro h; unfold lst; rw [if_neg (by simp [h])]; exact ⟨rfl, rfl⟩
  case round =>
    obtain ⟨acc, r, k, b, hkg, rfl, rfl, rfl, hrl, hB0, hB1, hbel, hT, hF⟩ := hrel
    have HB0 := Lib.hid hB0
    have HB1 := Lib.hid hB1
    clear hB0 hB1
    cases b with
    | true =>
      have HT := Lib.hid (hT rfl)
      clear hT hF
      by_cases hk4 : (k : Int) < 4
      all_goals
        go_wp2_with (first
          | (refine wpList_load_row rfl 193 _ rfl (w.heap.size + 1) rfl _ _ _ _ HB1.out Tryz.underlying193 rfl (by kernel_rfl) ?_)
          | (refine wpList_store_row rfl 193 _ _ rfl w.heap.size (xW acc) rfl rfl _ _ HB0.out (by kernel_rfl) rfl (qV acc) ?_))
        exact vV rfl rfl HB0.out hbel HT.out
    | false =>
      have HKL := Lib.hid (hF rfl).1
      have HL := Lib.hid (hF rfl).2
      clear hT hF
      cases gk with
      | zero =>
        have hk4 : ¬ (k : Int) < 4 := by omega
        go_wp2_with (first
          | (refine wpList_load_row rfl 193 _ rfl (w.heap.size + 1) rfl _ _ _ _ HB1.out Tryz.underlying193 rfl (by kernel_rfl) ?_)
          | (refine wpList_store_row rfl 193 _ _ rfl w.heap.size (xW acc) rfl rfl _ _ HB0.out (by kernel_rfl) rfl (qV acc) ?_))
        exact vV rfl rfl HB0.out hbel (by rw [HL.out, show 4 - k = 0 from by omega, kQ, List.append_nil])
      | succ g =>
        have hk4 : (k : Int) < 4 := by omega
        obtain ⟨t, rest, more, hcut⟩ : ∃ t rest more, zN 46 r = (t, rest, more) := ⟨_, _, _, rfl⟩
        have hle := wG 46 r
        have cC := fG r 46 wr (by omega)
        have hG : (∀ n, kQ (n + 1) r = if kO t then (if more then (t :: (kQ n rest).1, (kQ n rest).2) else ([t], true)) else ([], false)) := by
          intro n; rw [kQ, hcut]
        have HG := Lib.hid hG
        clear hG
        rw [hcut] at cC hle
        dsimp only at cC hle
        have htz : (mkS t).size = t.length := by unfold mkS; simp [ByteArray.size]
        have HC := Lib.hid hcut
        clear hcut
        have hsz0 : w.heap.size + 1 < wr.heap.size := (Array.getElem?_eq_some_iff.1 HB1.out).1
        by_cases ht0 : t = []
        · have hte : (mkS t).toList.isEmpty = true := by rw [Lib.toList_data, ht0]; rfl
          have hE : lst s = (acc, false) := by rw [HL.out, show 4 - k = (3 - k) + 1 from by omega, HG.out, tR ht0]; simp
          have HE := Lib.hid hE
          clear hE
          clear ht0
          go_wp2_with (first
            | (go_at_call 27; refine cC.mono ?_; rintro e w2 ⟨rfl, hb2⟩; have HB02 := Lib.hid ((hb2.block w.heap.size (by omega)).trans HB0.out); have HB12 := Lib.hid ((hb2.block (w.heap.size + 1) hsz0).trans HB1.out))
            | (refine wpList_load_row rfl 193 _ rfl (w.heap.size + 1) rfl _ _ _ _ HB12.out Tryz.underlying193 rfl (by kernel_rfl) ?_)
            | (refine wpList_store_row rfl 193 _ _ rfl w.heap.size (xW acc) rfl rfl _ _ HB02.out (by kernel_rfl) rfl (qV acc) ?_))
          exact vV rfl rfl HB02.out (hbel.trans (hb2.mono hbel.size)) HE.out
        · have htn : (mkS t).toList.isEmpty = false := by
            rw [Lib.toList_data, mk_data]; cases t with
            | nil => exact absurd rfl ht0
            | cons _ _ => rfl
          by_cases h8 : t.length ≤ 8
          · have h8i : ¬ (8 : Int) < (mkS t).size := by omega
            have HA := Lib.hid (tagOk_mid ht0 h8)
            clear ht0
            go_wp2_with (first
              | (go_at_call 27; refine cC.mono ?_; rintro e w2 ⟨rfl, hb2⟩; have HB02 := Lib.hid ((hb2.block w.heap.size (by omega)).trans HB0.out); have HB12 := Lib.hid ((hb2.block (w.heap.size + 1) hsz0).trans HB1.out)))
            go_loopg [11] ((mkS t).size + 1) (fun g2 s11 wi => ∃ pos : Nat, wi = w2.iter (mkS t) pos ∧ pos + g2 = (mkS t).size + 1 ∧ pos ≤ (mkS t).size ∧ Hid ((t.drop pos).all jG = t.all jG))
            case atStart => exact ⟨0, rfl, by omega, by omega, rfl⟩
            case round =>
              obtain ⟨pos, rfl, hpg, hple, HR⟩ := hrel
              have hs1 : w.heap.size + 1 < w2.heap.size := by have := hb2.size; omega
              have hs0 : w.heap.size < w2.heap.size := by omega
              have hb0 : w.heap.size ≤ w2.heap.size := by omega
              by_cases hp : pos < (mkS t).size
              · have hd0 := qJ (mkS t) pos hp
                rw [mk_data] at hd0
                have HD := Lib.hid hd0
                clear hd0
                by_cases ha : ((mkS t)[pos]'hp).toNat < 128
                · have hnx : ∀ ty, (Instr.next (.pointer (some ⟨w2.heap.size, 0, none⟩)) true ty).run Tryz.prog (w2.iter (mkS t) pos) = _ := fun ty => run_next_ascii w2 (mkS t) pos ty hp ha
                  by_cases hd : kN ((mkS t)[pos]'hp).toNat = true
                  · have HG1 := Lib.hid hd
                    clear hd
                    go_wp2_with (go_at_call 204; refine (qG _ true HG1.out _).mono ?_; rintro e w' ⟨rfl, rfl⟩)
                    go_roundg (gk - 1)
                    case measure => omega
                    case rel => exact ⟨pos + 1, rfl, by omega, by omega, by rw [← HR.out, HD.out, tO _ _ (tagC_dig _ HG1.out)]; rfl⟩
                  · have HG1 := Lib.hid (Bool.eq_false_iff.2 hd)
                    clear hd
                    by_cases hl : nG ((mkS t)[pos]'hp).toNat = true
                    · have hl2 : (97 : Int) ≤ ((mkS t)[pos]'hp).toNat ∧ (((mkS t)[pos]'hp).toNat : Int) ≤ 122 := by unfold nG at hl; simpa using hl
                      obtain ⟨hla, hlb⟩ := hl2
                      have HL1 := Lib.hid hl
                      clear hl
                      go_wp2_with (go_at_call 204; refine (qG _ false HG1.out _).mono ?_; rintro e w' ⟨rfl, rfl⟩)
                      go_roundg (gk - 1)
                      case measure => omega
                      case rel => exact ⟨pos + 1, rfl, by omega, by omega, by rw [← HR.out, HD.out, tO _ _ (tagC_let _ HL1.out)]; rfl⟩
                    · have HL1 := Lib.hid (Bool.eq_false_iff.2 hl)
                      by_cases h3 : (((mkS t)[pos]'hp).toNat : Int) = 45
                      · have h3b : ((((mkS t)[pos]'hp).toNat : Int) != 45) = false := by simp [h3]
                        have hla : (((mkS t)[pos]'hp).toNat : Int) < 97 := by omega
                        have H3 := Lib.hid h3
                        clear h3 hl
                        go_wp2_with (go_at_call 204; refine (qG _ false HG1.out _).mono ?_; rintro e w' ⟨rfl, rfl⟩)
                        go_roundg (gk - 1)
                        case measure => omega
                        case rel => exact ⟨pos + 1, rfl, by omega, by omega, by rw [← HR.out, HD.out, tO _ _ (tagC_dash _ H3.out)]; rfl⟩
                      · have h3b : ((((mkS t)[pos]'hp).toNat : Int) != 45) = true := by simpa using h3
                        have hE : lst s = (acc, false) := by
                          rw [HL.out, show 4 - k = (3 - k) + 1 from by omega, HG.out, HA.out, ← HR.out, HD.out, all_bad _ _ (tagC_bad _ HG1.out HL1.out h3)]; simp
                        have HE := Lib.hid hE
                        clear hE h3
                        have hl3 : (((mkS t)[pos]'hp).toNat : Int) < 97 ∨ (122 : Int) < ((mkS t)[pos]'hp).toNat := by
                          unfold nG at hl; simp at hl; omega
                        clear hl
                        rcases hl3 with hl3 | hl3
                        · go_wp2_with (first
                            | (go_at_call 204; refine (qG _ false HG1.out _).mono ?_; rintro e w' ⟨rfl, rfl⟩)
                            | (refine wpList_load_row rfl 193 _ rfl (w.heap.size + 1) rfl _ _ _ _ ((kY _ _ _ hs1).trans HB12.out) Tryz.underlying193 rfl (by kernel_rfl) ?_)
                            | (refine wpList_store_row rfl 193 _ _ rfl w.heap.size (xW acc) rfl rfl _ _ ((kY _ _ _ hs0).trans HB02.out) (by kernel_rfl) rfl (qV acc) ?_))
                          exact vV rfl rfl ((kY _ _ _ hs0).trans HB02.out) ((hbel.trans (hb2.mono hbel.size)).trans ((xU _ _ _).mono hb0)) HE.out
                        · have hl4 : (97 : Int) ≤ ((mkS t)[pos]'hp).toNat := by omega
                          have hl5 : (!decide ((((mkS t)[pos]'hp).toNat : Int) ≤ 122)) = true := by simp; omega
                          go_wp2_with (first
                            | (go_at_call 204; refine (qG _ false HG1.out _).mono ?_; rintro e w' ⟨rfl, rfl⟩)
                            | (refine wpList_load_row rfl 193 _ rfl (w.heap.size + 1) rfl _ _ _ _ ((kY _ _ _ hs1).trans HB12.out) Tryz.underlying193 rfl (by kernel_rfl) ?_)
                            | (refine wpList_store_row rfl 193 _ _ rfl w.heap.size (xW acc) rfl rfl _ _ ((kY _ _ _ hs0).trans HB02.out) (by kernel_rfl) rfl (qV acc) ?_))
                          exact vV rfl rfl ((kY _ _ _ hs0).trans HB02.out) ((hbel.trans (hb2.mono hbel.size)).trans ((xU _ _ _).mono hb0)) HE.out
                · have hnx : ∀ ty, (Instr.next (.pointer (some ⟨w2.heap.size, 0, none⟩)) true ty).run Tryz.prog (w2.iter (mkS t) pos) = _ := fun ty => run_next_any w2 (mkS t) pos ty hp
                  have hhi := (decode_high (mkS t) pos hp (by omega)).1
                  have HG1 := Lib.hid (digB_hi _ hhi)
                  have h3b : (((Utf8.decode (mkS t) pos).1 : Int) != 45) = true := by simp; omega
                  have hl3 : (122 : Int) < (Utf8.decode (mkS t) pos).1 := by omega
                  have hl4 : (97 : Int) ≤ (Utf8.decode (mkS t) pos).1 := by omega
                  have hl5 : (!decide (((Utf8.decode (mkS t) pos).1 : Int) ≤ 122)) = true := by simp; omega
                  have hE : lst s = (acc, false) := by
                    rw [HL.out, show 4 - k = (3 - k) + 1 from by omega, HG.out, HA.out, ← HR.out, HD.out, all_bad _ _ (tagC_bad _ (digB_hi8 _ (by omega)) (letB_hi8 _ (by omega)) (by omega))]; simp
                  have HE := Lib.hid hE
                  clear hE
                  go_wp2_with (first
                    | (go_at_call 204; refine (qG _ false HG1.out _).mono ?_; rintro e w' ⟨rfl, rfl⟩)
                    | (refine wpList_load_row rfl 193 _ rfl (w.heap.size + 1) rfl _ _ _ _ ((kY _ _ _ hs1).trans HB12.out) Tryz.underlying193 rfl (by kernel_rfl) ?_)
                    | (refine wpList_store_row rfl 193 _ _ rfl w.heap.size (xW acc) rfl rfl _ _ ((kY _ _ _ hs0).trans HB02.out) (by kernel_rfl) rfl (qV acc) ?_))
                  exact vV rfl rfl ((kY _ _ _ hs0).trans HB02.out) ((hbel.trans (hb2.mono hbel.size)).trans ((xU _ _ _).mono hb0)) HE.out
              · have hnx : ∀ ty, (Instr.next (.pointer (some ⟨w2.heap.size, 0, none⟩)) true ty).run Tryz.prog (w2.iter (mkS t) pos) = _ := fun ty => run_next_end w2 (mkS t) pos ty hp
                have hd0 := wE (mkS t) pos hp
                rw [mk_data] at hd0
                have hA : kO t = true := by rw [HA.out, ← HR.out, hd0]; rfl
                have HAT := Lib.hid hA
                clear hd0 hA
                obtain ⟨hcell, hfro⟩ := y6 (j := k) ((kY w2 (mkS t) pos hs1).trans HB12.out) (by rw [lcells_size]; omega)
                go_wp2
                have hg1 : (w2.iter (mkS t) pos).heap[w.heap.size + 1]? = some (.cells (xW acc) 193) := (kY _ _ _ hs1).trans HB12.out
                have hg0 : (w2.iter (mkS t) pos).heap[w.heap.size]? = some (.cells (xW []) 193) := (kY _ _ _ hs0).trans HB02.out
                have hset := setCell_eq_setRow _ _ k _ _ _ (.string (mkS t)) hg1
                rw [lcells_snoc acc t k HKL.out (by omega)] at hset
                have hbw : Below w.heap.size w (w2.iter (mkS t) pos) := (hbel.trans (hb2.mono hbel.size)).trans ((xU _ _ _).mono hb0)
                rw [hset]
                go_roundg g
                case measure => omega
                case rel =>
                  refine ⟨acc ++ [t], rest, k + 1, !more, by omega, rfl, rfl, by go_num, by omega, ?_, setRow_heap _ _ _ _ _ _ hg1, xI hbw (by omega) _, ?_, ?_⟩
                  · rw [← hg0]; exact g6 _ _ _ _ (by omega)
                  · intro h
                    have hm : more = false := by simpa using h
                    rw [HL.out, show 4 - k = (3 - k) + 1 from by omega, HG.out, HAT.out, hm]; simp
                  · intro h
                    have hm : more = true := by simpa using h
                    refine ⟨by rw [List.length_append, HKL.out]; rfl, ?_⟩
                    rw [HL.out, show 4 - k = (3 - k) + 1 from by omega, HG.out, HAT.out, hm, show 4 - (k + 1) = 3 - k from by omega]; simp
          · have h8i : (8 : Int) < (mkS t).size := by omega
            have hE : lst s = (acc, false) := by rw [HL.out, show 4 - k = (3 - k) + 1 from by omega, HG.out, mJ (by omega)]; simp
            have HE := Lib.hid hE
            clear hE ht0
            go_wp2_with (first
              | (go_at_call 27; refine cC.mono ?_; rintro e w2 ⟨rfl, hb2⟩; have HB02 := Lib.hid ((hb2.block w.heap.size (by omega)).trans HB0.out); have HB12 := Lib.hid ((hb2.block (w.heap.size + 1) hsz0).trans HB1.out))
              | (refine wpList_load_row rfl 193 _ rfl (w.heap.size + 1) rfl _ _ _ _ HB12.out Tryz.underlying193 rfl (by kernel_rfl) ?_)
              | (refine wpList_store_row rfl 193 _ _ rfl w.heap.size (xW acc) rfl rfl _ _ HB02.out (by kernel_rfl) rfl (qV acc) ?_))
            exact vV rfl rfl HB02.out (hbel.trans (hb2.mono hbel.size)) HE.out
theorem list_any (s : List UInt8) (w : World) (hs : s.length < 4294967281) :
    Calls Tryz.prog 180 #[.string (mkS s)] w fun e w' => e = .returned (.tuple #[.agg (xW (lst s).1), .bool (lst s).2]) ∧ Below w.heap.size w w' := list_any0 s w hs
end
section
structure Ver where
  maj : Int
  min : Int
  pat : Int
  pre : List UInt8
  build : List UInt8
deriving DecidableEq
def zV (n : Int) : Bool := decide (0 ≤ n ∧ n ≤ 9999)
def Ver.may (v : Ver) : Bool := zV v.maj && zV v.min && zV v.pat && qQ v.pre && kU v.build
def Ver.zero : Ver := ⟨0, 0, 0, [], []⟩
def Ver.rel (a b c : Int) : Ver := ⟨a, b, c, [], []⟩
def kE (c : UInt8) (l : List UInt8) : List UInt8 := if l.isEmpty then [] else c :: l
def vF (v : Ver) : List UInt8 := Lib.itoa v.maj ++ 46 :: (Lib.itoa v.min ++ 46 :: Lib.itoa v.pat)
def Ver.text (v : Ver) : List UInt8 := vF v ++ kE 45 v.pre ++ kE 43 v.build
def Ver.print (v : Ver) : List UInt8 := if v.may then v.text else []
theorem dec_more (n d : Nat) (hn : 1 ≤ n) (hd : d < 10) : Lib.decDigits (n * 10 + d) = Lib.decDigits n ++ [UInt8.ofNat (48 + d)] := by
  rw [Lib.decDigits, dif_neg (by omega), show (n * 10 + d) / 10 = n from by omega, show (n * 10 + d) % 10 = d from by omega]
theorem dig_byte {c : UInt8} (h : kN c.toNat = true) : c.toNat - 48 < 10 ∧ UInt8.ofNat (48 + (c.toNat - 48)) = c := by
  unfold kN at h; simp at h
  refine ⟨by omega, ?_⟩
  rw [show 48 + (c.toNat - 48) = c.toNat from by omega]; exact UInt8.ofNat_toNat
theorem numGo_tail (l : List UInt8) : ∀ n m, 1 ≤ n → n ≤ 9999 → xB n false l = some m → Lib.decDigits m = Lib.decDigits n ++ l ∧ m ≤ 9999 := by
  induction l with
  | nil => intro n m _ h9 h; simp [xB] at h; subst h; simp [h9]
  | cons c r ih =>
    intro n m hn h9 h
    by_cases hd : kN c.toNat = true
    · by_cases hb : n * 10 + (c.toNat - 48) ≤ 9999
      · rw [wA n false c r hd (by omega) hb] at h
        obtain ⟨h1, h2⟩ := dig_byte hd
        obtain ⟨i1, i2⟩ := ih _ m (by omega) hb h
        rw [dec_more n _ hn h1, h2] at i1
        exact ⟨by rw [i1]; simp, i2⟩
      · rw [fZ n false c r hb] at h; cases h
    · rw [jN n false c r (Bool.eq_false_iff.2 hd)] at h; cases h
theorem nD (l : List UInt8) (n : Nat) (h : xB 0 true l = some n) : l = Lib.decDigits n ∧ n ≤ 9999 := by
  cases l with
  | nil => simp [xB] at h
  | cons c r =>
    by_cases hd : kN c.toNat = true
    · obtain ⟨h1, h2⟩ := dig_byte hd
      rw [wA 0 true c r hd (by simp) (by omega), show 0 * 10 + (c.toNat - 48) = c.toNat - 48 from by omega] at h
      by_cases h0 : c.toNat - 48 = 0
      · rw [h0] at h h2
        cases r with
        | nil => simp [xB] at h; subst h; rw [← h2, Lib.decDigits, dif_pos (by omega)]; simp
        | cons c2 r2 => rw [nC] at h; cases h
      · obtain ⟨i1, i2⟩ := numGo_tail r _ n (by omega) (by omega) h
        rw [Lib.decDigits_one h1, h2] at i1
        exact ⟨by rw [i1]; rfl, i2⟩
    · rw [jN 0 true c r (Bool.eq_false_iff.2 hd)] at h; cases h
theorem dig_mem (u : Nat) : ∀ x ∈ Lib.decDigits u, kN x.toNat = true := by
  have h := (dec_fold u).1
  unfold yV at h
  exact List.all_eq_true.1 h
theorem pH {n : Int} (h : zV n = true) : Lib.itoa n = Lib.decDigits n.toNat := by
  unfold zV at h; simp at h
  unfold Lib.itoa; rw [if_neg (by omega)]
theorem num_itoa {n : Int} (h : zV n = true) : xB 0 true (Lib.itoa n) = some n.toNat := by
  rw [pH h, num_dec, if_pos]
  unfold zV at h; simp at h; omega
theorem jB {n : Int} (h : zV n = true) (b : UInt8) (hb : kN b.toNat = false) : b ∉ Lib.itoa n := by
  rw [pH h]
  intro hm
  have := dig_mem _ _ hm
  rw [this] at hb; cases hb
theorem splitL_acc (b : UInt8) (l : List UInt8) : ∀ acc, ∀ c ∈ acc, ∃ x ∈ y7 b acc l, c ∈ x := by
  induction l with
  | nil => intro acc c h; exact ⟨acc, by simp [y7], h⟩
  | cons d r ih =>
    intro acc c hc
    rw [show y7 b acc (d :: r) = if d = b then acc :: y7 b [] r else y7 b (acc ++ [d]) r from rfl]
    by_cases h : d = b
    · rw [if_pos h]; exact ⟨acc, by simp, hc⟩
    · rw [if_neg h]; exact ih _ c (by simp [hc])
theorem splitL_mem (b : UInt8) (l : List UInt8) : ∀ acc, ∀ c ∈ l, c = b ∨ ∃ x ∈ y7 b acc l, c ∈ x := by
  induction l with
  | nil => intro acc c h; cases h
  | cons d r ih =>
    intro acc c hc
    rw [show y7 b acc (d :: r) = if d = b then acc :: y7 b [] r else y7 b (acc ++ [d]) r from rfl]
    by_cases h : d = b
    · rw [if_pos h]
      rcases List.mem_cons.1 hc with rfl | hc
      · exact .inl h
      · rcases ih [] c hc with e | ⟨x, hx, hcx⟩
        · exact .inl e
        · exact .inr ⟨x, List.mem_cons_of_mem _ hx, hcx⟩
    · rw [if_neg h]
      rcases List.mem_cons.1 hc with rfl | hc
      · exact .inr (splitL_acc b r (acc ++ [c]) c (by simp))
      · exact ih _ c hc
theorem listOk_free (s : List UInt8) (h : kU s = true) : (43 : UInt8) ∉ s := by
  intro hm
  unfold kU at h
  rcases splitL_mem 46 s [] 43 hm with e | ⟨x, hx, hc⟩
  · revert e; decide
  · have hne : s.isEmpty = false := by cases s with
      | nil => cases hm
      | cons _ _ => rfl
    rw [hne, Bool.false_or, Bool.and_eq_true] at h
    have := List.all_eq_true.1 h.2 x hx
    unfold kO at this
    rw [Bool.and_eq_true] at this
    have := List.all_eq_true.1 this.2 _ hc
    revert this; decide
def x7 (l : List UInt8) : Int := ((xB 0 true l).getD 0 : Nat)
def bT (s : List UInt8) : Ver :=
  let r := (zN 43 s).1
  let q := (zN 45 r).1
  let x := zN 46 q
  let y := zN 46 x.2.1
  ⟨x7 x.1, x7 y.1, x7 y.2.1, (zN 45 r).2.1, (zN 43 s).2.1⟩
def three (l : List (List UInt8)) : Option (Int × Int × Int) :=
  match l with
  | [x, y, z] => if kT x && kT y && kT z then some (x7 x, x7 y, x7 z) else none
  | _ => none
def x5 (s : List UInt8) : Option Ver :=
  let b := zN 43 s
  let p := zN 45 b.1
  match three (pcs p.1) with
  | none => none
  | some (x, y, z) =>
    if (p.2.2 && p.2.1.isEmpty) || (b.2.2 && b.2.1.isEmpty) then none
    else if (Ver.mk x y z p.2.1 b.2.1).may then some ⟨x, y, z, p.2.1, b.2.1⟩ else none
def parseI (s : List UInt8) : Option Ver := if (bT s).print = s then some (bT s) else none
theorem n5 {v : Ver} (h : v.may = true) (b : UInt8) (hb : kN b.toNat = false) (h46 : b ≠ 46) : b ∉ vF v := by
  unfold Ver.may at h; simp only [Bool.and_eq_true] at h
  obtain ⟨⟨⟨⟨h1, h2⟩, h3⟩, _⟩, _⟩ := h
  unfold vF
  simp only [List.mem_append, List.mem_cons, not_or]
  exact ⟨jB h1 b hb, h46, jB h2 b hb, h46, jB h3 b hb⟩
theorem cut_tail (c : UInt8) (x y : List UInt8) (h : c ∉ x) : zN c (x ++ kE c y) = (x, y, !y.isEmpty) := by
  unfold kE
  cases y with
  | nil => simp [nO c x h]
  | cons a r => simp [jS c x (a :: r) h]
theorem cut_text {v : Ver} (h : v.may = true) : zN 43 v.text = (vF v ++ kE 45 v.pre, v.build, !v.build.isEmpty) ∧ zN 45 (vF v ++ kE 45 v.pre) = (vF v, v.pre, !v.pre.isEmpty) := by
  have hp : (43 : UInt8) ∉ v.pre := by
    unfold Ver.may qQ at h; simp only [Bool.and_eq_true] at h
    exact listOk_free _ h.1.2.1
  refine ⟨?_, cut_tail _ _ _ (n5 h 45 (by decide) (by decide))⟩
  unfold Ver.text
  refine cut_tail _ _ _ ?_
  simp only [List.mem_append, not_or]
  refine ⟨n5 h 43 (by decide) (by decide), ?_⟩
  unfold kE
  split
  · simp
  · simp; exact hp
theorem jO {n : Int} (h : zV n = true) : x7 (Lib.itoa n) = n := by
  unfold x7; rw [num_itoa h]
  unfold zV at h; simp at h
  show ((n.toNat : Nat) : Int) = n; omega
theorem vH {v : Ver} (h : v.may = true) : zV v.maj = true ∧ zV v.min = true ∧ zV v.pat = true := by
  unfold Ver.may at h; simp only [Bool.and_eq_true] at h
  exact ⟨h.1.1.1.1, h.1.1.1.2, h.1.1.2⟩
theorem guess_text {v : Ver} (h : v.may = true) : bT v.text = v := by
  obtain ⟨c1, c2⟩ := cut_text h
  obtain ⟨h1, h2, h3⟩ := vH h
  unfold bT
  simp only [c1, c2]
  unfold vF
  rw [jS 46 _ _ (jB h1 46 (by decide))]
  dsimp only
  rw [jS 46 _ _ (jB h2 46 (by decide))]
  dsimp only
  rw [jO h1, jO h2, jO h3]
theorem pcs_nums {v : Ver} (h : v.may = true) : pcs (vF v) = [Lib.itoa v.maj, Lib.itoa v.min, Lib.itoa v.pat] := by
  obtain ⟨h1, h2, h3⟩ := vH h
  unfold pcs vF
  rw [gK, jS 46 _ _ (jB h1 46 (by decide))]
  simp only [List.nil_append, if_true]
  rw [gK, jS 46 _ _ (jB h2 46 (by decide))]
  simp only [List.nil_append, if_true]
  rw [gK, nO 46 _ (jB h3 46 (by decide))]
  simp
theorem tE {n : Int} (h : zV n = true) : kT (Lib.itoa n) = true := by unfold kT; rw [num_itoa h]; rfl
theorem j9 {v : Ver} (h : v.may = true) : x5 v.text = some v := by
  obtain ⟨c1, c2⟩ := cut_text h
  obtain ⟨h1, h2, h3⟩ := vH h
  unfold x5
  simp only [c1, c2, pcs_nums h]
  unfold three
  simp only [tE h1, tE h2, tE h3, jO h1, jO h2, jO h3, Bool.and_true, if_true]
  rw [if_neg (by cases v.pre <;> cases v.build <;> simp), if_pos h]
theorem tF {x : List UInt8} (h : kT x = true) : zV (x7 x) = true ∧ Lib.itoa (x7 x) = x := by
  unfold kT at h
  obtain ⟨n, hn⟩ := Option.isSome_iff_exists.1 h
  obtain ⟨e, h9⟩ := nD x n hn
  have hd : x7 x = (n : Nat) := by unfold x7; rw [hn]; rfl
  rw [hd]
  have hk : zV (n : Nat) = true := by unfold zV; simp; omega
  refine ⟨hk, ?_⟩
  rw [pH hk, e]; rfl
theorem cut_back (c : UInt8) (s : List UInt8) (h : ((zN c s).2.2 && (zN c s).2.1.isEmpty) = false) : s = (zN c s).1 ++ kE c (zN c s).2.1 := by
  have h1 := cutAt_back c s
  have h2 := nN c s
  unfold kE
  cases hf : (zN c s).2.2 with
  | true => rw [hf] at h h1; rw [Bool.true_and] at h; rw [h, if_neg (by simp)]; rw [if_pos rfl] at h1; exact h1
  | false => rw [hf] at h1; rw [h2 hf]; simpa using h1
theorem tY {s : List UInt8} {v : Ver} (h : x5 s = some v) : v.may = true ∧ v.text = s := by
  unfold x5 at h
  dsimp only at h
  split at h
  · cases h
  · rename_i x y z h3
    split at h
    · cases h
    · rename_i hne
      split at h
      · rename_i hm
        cases h
        refine ⟨hm, ?_⟩
        simp only [Bool.or_eq_true, not_or, Bool.not_eq_true] at hne
        unfold Ver.text
        have e1 := cut_back 43 s hne.2
        have e2 := cut_back 45 _ hne.1
        rw [show (Ver.mk x y z (zN 45 (zN 43 s).1).2.1 (zN 43 s).2.1).build = (zN 43 s).2.1 from rfl, show (Ver.mk x y z (zN 45 (zN 43 s).1).2.1 (zN 43 s).2.1).pre = (zN 45 (zN 43 s).1).2.1 from rfl]
        suffices hn : vF (Ver.mk x y z (zN 45 (zN 43 s).1).2.1 (zN 43 s).2.1) = (zN 45 (zN 43 s).1).1 by
          rw [hn, ← e2, ← e1]
        have hj := nH 46 (zN 45 (zN 43 s).1).1 []
        unfold pcs at h3
        unfold three at h3
        split at h3
        · rename_i a b c hp
          rw [hp] at hj
          split at h3
          · rename_i hI
            simp only [Bool.and_eq_true] at hI
            cases h3
            unfold vF
            rw [(tF hI.1.1).2, (tF hI.1.2).2, (tF hI.2).2]
            simpa [x6] using hj
          · cases h3
        · cases h3
      · cases h
theorem xY {v : Ver} (h : v.may = true) : v.print = v.text := by unfold Ver.print; rw [if_pos h]
theorem t6 {v : Ver} (h : v.may = false) : v.print = [] := by unfold Ver.print; rw [if_neg (by simp [h])]
theorem parse_eq (s : List UInt8) : parseI s = x5 s := by
  unfold parseI
  by_cases h : (bT s).print = s
  · rw [if_pos h]
    by_cases hm : (bT s).may = true
    · rw [xY hm] at h
      have := j9 hm
      rw [h] at this; exact this.symm
    · rw [t6 (Bool.eq_false_iff.2 hm)] at h
      subst h
      exact absurd (by decide) hm
  · rw [if_neg h]
    cases hr : x5 s with
    | none => rfl
    | some v =>
      obtain ⟨hm, ht⟩ := tY hr
      subst ht
      rw [guess_text hm, xY hm] at h
      exact absurd rfl h
end
section
theorem numV_mk (t : List UInt8) : numV (mkS t) = x7 t := by unfold numV numB x7; rw [mk_data]
theorem numOk_mk (t : List UInt8) : tZ (mkS t) = kT t := by unfold tZ numB kT; rw [mk_data]
theorem yC (t : List UInt8) : (mkS t).size = t.length := by unfold mkS; simp [ByteArray.size]
theorem jM (t : List UInt8) (b : Bool) (hb : kT t = b) (w : World) (ht : t.length ≤ maxLen) :
    Calls Tryz.prog 91 #[.string (mkS t)] w fun e w' => e = .returned (.tuple #[.int .i64 (x7 t), .bool b]) ∧ Below w.heap.size w w' := by
  have := number_any (mkS t) w (by rw [yC]; exact ht)
  rw [numV_mk, numOk_mk, hb] at this
  exact this
theorem n6 (t : List UInt8) (b : Bool) (hb : xZ t = b) (w : World) (ht : t.length ≤ maxLen) :
    Calls Tryz.prog 205 #[.string (mkS t)] w fun e w' => e = .returned (.bool b) ∧ Below w.heap.size w w' := by
  have := vnumeric_any (mkS t) w (by rw [yC]; exact ht)
  rw [mk_data, hb] at this
  exact this
theorem pC (s : List UInt8) (w : World) (hs : s.length < 4294967281) :
    Calls Tryz.prog 180 #[.string (mkS s)] w fun e w' => e = .returned (.tuple #[.agg #[.string (mkS (tg (lst s).1 0)), .string (mkS (tg (lst s).1 1)), .string (mkS (tg (lst s).1 2)), .string (mkS (tg (lst s).1 3))], .bool (lst s).2]) ∧ Below w.heap.size w w' := list_any s w hs
theorem ix_tag0 (a b c d : Value) (w : World) : (Instr.index 193 (.agg #[a, b, c, d]) (.int .i64 0)).run Tryz.prog w = .ok a w := by kernel_rfl
theorem ix_tag1 (a b c d : Value) (w : World) : (Instr.index 193 (.agg #[a, b, c, d]) (.int .i64 1)).run Tryz.prog w = .ok b w := by kernel_rfl
theorem ix_tag2 (a b c d : Value) (w : World) : (Instr.index 193 (.agg #[a, b, c, d]) (.int .i64 2)).run Tryz.prog w = .ok c w := by kernel_rfl
theorem ix_tag3 (a b c d : Value) (w : World) : (Instr.index 193 (.agg #[a, b, c, d]) (.int .i64 3)).run Tryz.prog w = .ok d w := by kernel_rfl
theorem ix_tag (l : List (List UInt8)) (k : Nat) (hk : k < 4) (w : World) :
    (Instr.index 193 (.agg #[.string (mkS (tg l 0)), .string (mkS (tg l 1)), .string (mkS (tg l 2)), .string (mkS (tg l 3))]) (.int .i64 k)).run Tryz.prog w = .ok (.string (mkS (tg l k))) w := by
  match k, hk with
  | 0, _ => exact ix_tag0 _ _ _ _ w
  | 1, _ => exact ix_tag1 _ _ _ _ w
  | 2, _ => exact ix_tag2 _ _ _ _ w
  | 3, _ => exact ix_tag3 _ _ _ _ w
theorem all_four (l : List (List UInt8)) (h4 : l.length ≤ 4) (h : ∀ j, j < 4 → mX (tg l j) = true) : l.all mX = true := by
  rw [← tg_all preT_nil l h4, h 0 (by omega), h 1 (by omega), h 2 (by omega), h 3 (by omega)]; rfl
theorem not_four (l : List (List UInt8)) (h4 : l.length ≤ 4) (j : Nat) (hj : j < 4) (h : mX (tg l j) = false) : l.all mX = false := by
  rw [← tg_all preT_nil l h4]
  match j, hj with
  | 0, _ => rw [h]; rfl
  | 1, _ => rw [h]; simp
  | 2, _ => rw [h]; simp
  | 3, _ => rw [h]; simp
theorem mayPre_any (s : List UInt8) (w : World) (hs : s.length < 4294967281) :
    Calls Tryz.prog 181 #[.string (mkS s)] w fun e w' => e = .returned (.bool (qQ s)) ∧ Below w.heap.size w w' := by
  have hl4 := lst_len s
  have hl8 := tg_len s
  have hP := preOk_lst s
  obtain ⟨L, hL⟩ : ∃ L, (lst s).1 = L := ⟨_, rfl⟩
  obtain ⟨o, ho⟩ : ∃ o, (lst s).2 = o := ⟨_, rfl⟩
  have cL := pC s w hs
  rw [hL, ho] at cL
  rw [hL] at hl4 hl8 hP
  rw [ho] at hP
  have HP := Lib.hid hP
  have H8 := Lib.hid hl8
  clear hP hl8 hL ho
  go_enter Tryz.func181, Tryz.ntmps181
  go_wp2_with (go_at_call 180; refine cL.mono ?_; rintro e w1 ⟨rfl, hb1⟩)
  go_loopw [15] (fun v wr => ∃ k : Nat, k ≤ 4 ∧ v = .int .i64 k ∧ Below w.heap.size w wr ∧ Hid (∀ j, j < k → mX (tg L j) = true)) (fun v _ => 4 - (intOf v).toNat)
  case atStart => exact ⟨0, by omega, rfl, hb1.alloc hb1.size _, fun j hj => by omega⟩
  case round =>
    obtain ⟨k, hk, rfl, hbel, HR⟩ := hrel
    by_cases hk4 : k < 4
    · have hki : (k : Int) < 4 := by omega
      have hix : ∀ w, (Instr.index 193 (.agg #[.string (mkS (tg L 0)), .string (mkS (tg L 1)), .string (mkS (tg L 2)), .string (mkS (tg L 3))]) (.int .i64 k)).run Tryz.prog w = .ok (.string (mkS (tg L k))) w := ix_tag L k hk4
      have h8 : (tg L k).length ≤ 8 := H8.out k
      have hm : (tg L k).length ≤ maxLen := by unfold maxLen; omega
      cases hi : kT (tg L k) with
      | true =>
        have HI := Lib.hid hi
        clear hi
        cases hn : xZ (tg L k)
        all_goals
          have HN := Lib.hid hn
          clear hn
          go_wp2_with (first
            | (go_at_call 91; refine (jM _ true HI.out _ hm).mono ?_; rintro e w2 ⟨rfl, hb2⟩)
            | (go_at_call 205; refine (n6 _ _ HN.out _ hm).mono ?_; rintro e w3 ⟨rfl, hb3⟩))
          go_roundw
          case rel => exact ⟨k + 1, by omega, by go_num, (hbel.trans (hb2.mono hbel.size)).trans (hb3.mono (by have := hb2.size; have := hbel.size; omega)), fun j hj => by
            by_cases h : j < k
            · exact HR.out j h
            · obtain rfl : j = k := by omega
              unfold mX; rw [HI.out]; simp⟩
          case measure => simp [intOf]; omega
      | false =>
        have HI := Lib.hid hi
        clear hi
        cases hn : xZ (tg L k) with
        | true =>
          have HN := Lib.hid hn
          clear hn
          go_wp2_with (first
            | (go_at_call 91; refine (jM _ false HI.out _ hm).mono ?_; rintro e w2 ⟨rfl, hb2⟩)
            | (go_at_call 205; refine (n6 _ _ HN.out _ hm).mono ?_; rintro e w3 ⟨rfl, hb3⟩))
          go_ret
          exact ⟨yN (by rw [HP.out, not_four L hl4 k hk4 (by unfold mX; rw [HN.out, HI.out]; rfl), Bool.and_false]), (hbel.trans (hb2.mono hbel.size)).trans (hb3.mono (by have := hb2.size; have := hbel.size; omega))⟩
        | false =>
          have HN := Lib.hid hn
          clear hn
          go_wp2_with (first
            | (go_at_call 91; refine (jM _ false HI.out _ hm).mono ?_; rintro e w2 ⟨rfl, hb2⟩)
            | (go_at_call 205; refine (n6 _ _ HN.out _ hm).mono ?_; rintro e w3 ⟨rfl, hb3⟩))
          go_roundw
          case rel => exact ⟨k + 1, by omega, by go_num, (hbel.trans (hb2.mono hbel.size)).trans (hb3.mono (by have := hb2.size; have := hbel.size; omega)), fun j hj => by
            by_cases h : j < k
            · exact HR.out j h
            · obtain rfl : j = k := by omega
              unfold mX; rw [HN.out]; simp⟩
          case measure => simp [intOf]; omega
    · have hki : ¬ (k : Int) < 4 := by omega
      go_wp2
      go_ret
      exact ⟨yN (by rw [HP.out, all_four L hl4 (fun j hj => HR.out j (by omega)), Bool.and_true]), hbel⟩
def zP (v : Ver) : Value := .agg #[.int .i64 v.maj, .int .i64 v.min, .int .i64 v.pat, .string (mkS v.pre), .string (mkS v.build)]
theorem wT (v : Ver) (w : World) :
    Calls Tryz.prog 159 #[zP v] w fun e w' => e = .returned (.agg #[.int .i64 v.maj, .int .i64 v.min, .int .i64 v.pat]) ∧ Below w.heap.size w w' := by
  obtain ⟨a, b, c, p, q⟩ := v
  unfold zP
  dsimp only
  go_enter Tryz.func159, Tryz.ntmps159
  go_wp2
  exact bodyPost_ret (v := .agg #[.int .i64 a, .int .i64 b, .int .i64 c]) (by simp [results, Tryz.results159, go_sem]) rfl ⟨rfl, ((Below.refl _ _).alloc (Nat.le_refl _) _).alloc (by simp) _⟩
theorem j6 (a b c : Int) (w : World) :
    Calls Tryz.prog 126 #[.agg #[.int .i64 a, .int .i64 b, .int .i64 c]] w fun e w' => e = .returned (zP (Ver.rel a b c)) ∧ Below w.heap.size w w' := by
  go_enter Tryz.func126, Tryz.ntmps126
  go_wp2
  exact bodyPost_ret (v := .agg #[.int .i64 a, .int .i64 b, .int .i64 c, .string ⟨#[]⟩, .string ⟨#[]⟩]) (by simp [results, Tryz.results126, go_sem]) rfl ⟨rfl, ((Below.refl _ _).alloc (Nat.le_refl _) _).alloc (by simp) _⟩
theorem dS (t : List UInt8) (w : World) (ht : t.length ≤ maxLen) :
    Calls Tryz.prog 127 #[.string (mkS t)] w fun e w' => e = .returned (.int .i64 (x7 t)) ∧ Below w.heap.size w w' := by
  go_enter Tryz.func127, Tryz.ntmps127
  go_wp2_with (go_at_call 91; refine (jM t _ rfl _ ht).mono ?_; rintro e w2 ⟨rfl, hb2⟩)
  go_ret
  exact ⟨rfl, hb2⟩
theorem ix_num0 (a b c : Value) (w : World) : (Instr.index 128 (.agg #[a, b, c]) (.int .i64 0)).run Tryz.prog w = .ok a w := by kernel_rfl
theorem ix_num1 (a b c : Value) (w : World) : (Instr.index 128 (.agg #[a, b, c]) (.int .i64 1)).run Tryz.prog w = .ok b w := by kernel_rfl
theorem ix_num2 (a b c : Value) (w : World) : (Instr.index 128 (.agg #[a, b, c]) (.int .i64 2)).run Tryz.prog w = .ok c w := by kernel_rfl
def v6 (a b c : Int) (k : Nat) : Int := if k = 0 then a else if k = 1 then b else c
theorem ix_num (a b c : Int) (k : Nat) (hk : k < 3) (w : World) :
    (Instr.index 128 (.agg #[.int .i64 a, .int .i64 b, .int .i64 c]) (.int .i64 k)).run Tryz.prog w = .ok (.int .i64 (v6 a b c k)) w := by
  match k, hk with
  | 0, _ => exact ix_num0 _ _ _ w
  | 1, _ => exact ix_num1 _ _ _ w
  | 2, _ => exact ix_num2 _ _ _ w
theorem nth3_all {a b c : Int} (h : ∀ j, j < 3 → zV (v6 a b c j) = true) : (zV a && zV b && zV c) = true := by
  have h0 := h 0 (by omega); have h1 := h 1 (by omega); have h2 := h 2 (by omega)
  unfold v6 at h0 h1 h2
  simp at h0 h1 h2
  rw [h0, h1, h2]; rfl
theorem nth3_not {a b c : Int} (j : Nat) (hj : j < 3) (h : zV (v6 a b c j) = false) : (zV a && zV b && zV c) = false := by
  match j, hj with
  | 0, _ => rw [show zV a = false from h]; rfl
  | 1, _ => rw [show zV b = false from h]; simp
  | 2, _ => rw [show zV c = false from h]; simp
theorem may_eq (v : Ver) : v.may = ((zV v.maj && zV v.min && zV v.pat) && (qQ v.pre && kU v.build)) := by
  unfold Ver.may; rw [Bool.and_assoc]
theorem tM {w w1 : World} {T : TypeId} {cs : Array Value} (hb : Below (w.alloc (.cells cs T)).heap.size (w.alloc (.cells cs T)) w1) (j : Nat) (hj : j < cs.size) : w1.cell? ⟨w.heap.size, j, none⟩ = some cs[j] ∧ w1.frozen? ⟨w.heap.size, j, none⟩ = false := by
  have h : w1.heap[w.heap.size]? = some (.cells cs T) := (hb.block _ (by simp)).trans (yZ w _)
  exact y6 h hj
theorem zE (w : World) (o : Obj) : (w.alloc o).heap.size = w.heap.size + 1 := by simp
theorem vI (v : Ver) (w : World) (hp : v.pre.length < 4294967281) (hq : v.build.length < 4294967281) :
    Calls Tryz.prog 147 #[zP v] w fun e w' => e = .returned (.bool v.may) ∧ Below w.heap.size w w' := by
  have hM := may_eq v
  have cN := fun w' => wT v w'
  obtain ⟨a, b, c, p, q⟩ := v
  unfold zP at cN ⊢
  dsimp only at cN hM hp hq ⊢
  have HM := Lib.hid hM
  clear hM
  go_enter Tryz.func147, Tryz.ntmps147
  go_wp2_with (go_at_call 159; refine (cN _).mono ?_; rintro e w1 ⟨rfl, hb1⟩)
  obtain ⟨c3, f3⟩ := tM hb1 3 (by simp)
  obtain ⟨c4, f4⟩ := tM hb1 4 (by simp)
  have hs1 : w.heap.size < w1.heap.size := by have := hb1.size; rw [zE] at this; omega
  have hbw : Below w.heap.size w w1 := ((Below.refl _ _).alloc (Nat.le_refl _) _).trans (hb1.mono (by simp))
  simp only [List.getElem_toArray, List.getElem_cons_succ, List.getElem_cons_zero] at c3 c4
  go_loop [9] (fun x => ∃ k : Nat, k ≤ 3 ∧ x = .int .i64 k ∧ Hid (∀ j, j < k → zV (v6 a b c j) = true)) (fun x => 3 - (intOf x).toNat)
  case atStart => exact ⟨0, by omega, rfl, fun j hj => by omega⟩
  case round =>
    obtain ⟨k, hk, rfl, HR⟩ := hrel
    by_cases hk3 : k < 3
    · have hki : (k : Int) < 3 := by omega
      have hix : ∀ w, (Instr.index 128 (.agg #[.int .i64 a, .int .i64 b, .int .i64 c]) (.int .i64 k)).run Tryz.prog w = .ok (.int .i64 (v6 a b c k)) w := ix_num a b c k hk3
      by_cases h0 : v6 a b c k < 0
      · have hbad : zV (v6 a b c k) = false := by unfold zV; simp; omega
        have HB := Lib.hid hbad
        clear hbad
        go_wp2
        go_ret
        exact ⟨yN (by rw [HM.out, nth3_not k hk3 HB.out]; rfl), hbw⟩
      · by_cases h9 : 9999 < v6 a b c k
        · have hbad : zV (v6 a b c k) = false := by unfold zV; simp; omega
          have HB := Lib.hid hbad
          clear hbad
          go_wp2
          go_ret
          exact ⟨yN (by rw [HM.out, nth3_not k hk3 HB.out]; rfl), hbw⟩
        · have hok : zV (v6 a b c k) = true := by unfold zV; simp; omega
          have HB := Lib.hid hok
          clear hok
          go_wp2
          go_round
          case rel => exact ⟨k + 1, by omega, by go_num, fun j hj => by
            by_cases h : j < k
            · exact HR.out j h
            · obtain rfl : j = k := by omega
              exact HB.out⟩
          case measure => simp [intOf]; omega
    · have hki : ¬ (k : Int) < 3 := by omega
      have h3 := Lib.hid (nth3_all fun j hj => HR.out j (by omega))
      have cL := pC q w1 hq
      rw [lst_ok] at cL
      cases ho : kU q with
      | true =>
        rw [ho] at cL
        have HO := Lib.hid ho
        clear ho
        go_wp2_with (first
          | (go_at_call 180; refine cL.mono ?_; rintro e w2 ⟨rfl, hb2⟩; have c32 := (hb2.cell (p := ⟨w.heap.size, 3, none⟩) hs1).trans c3; have hs2 : w.heap.size < w2.heap.size := Nat.lt_of_lt_of_le hs1 hb2.size)
          | (go_at_call 181; refine (mayPre_any p _ hp).mono ?_; rintro e w3 ⟨rfl, hb3⟩))
        go_ret
        exact ⟨yN (by rw [HM.out, h3.out, HO.out]; simp), ((hbw.trans (hb2.mono hbw.size)).alloc (by omega) _).trans (hb3.mono (by simp; omega))⟩
      | false =>
        rw [ho] at cL
        have HO := Lib.hid ho
        clear ho
        go_wp2_with (go_at_call 180; refine cL.mono ?_; rintro e w2 ⟨rfl, hb2⟩; have c32 := (hb2.cell (p := ⟨w.heap.size, 3, none⟩) hs1).trans c3; have hs2 : w.heap.size < w2.heap.size := Nat.lt_of_lt_of_le hs1 hb2.size)
        go_ret
        exact ⟨yN (by rw [HM.out, h3.out, HO.out]; simp), (hbw.trans (hb2.mono hbw.size)).alloc (by omega) _⟩
end
section
def k8 : List Nat → List Nat → Int
  | [], [] => 0
  | [], _ :: _ => -1
  | _ :: _, [] => 1
  | a :: l, b :: m => if a < b then -1 else if b < a then 1 else k8 l m
theorem cmpL_cons (a b : Nat) (l m : List Nat) : k8 (a :: l) (b :: m) = if a < b then -1 else if b < a then 1 else k8 l m := rfl
theorem cmpL_self (a : List Nat) : k8 a a = 0 := by
  induction a with
  | nil => rfl
  | cons x l ih => rw [k8, if_neg (by omega), if_neg (by omega)]; exact ih
theorem cmpL_anti (a : List Nat) : ∀ b, k8 b a = - k8 a b := by
  induction a with
  | nil => intro b; cases b <;> rfl
  | cons x l ih =>
    intro b
    cases b with
    | nil => rfl
    | cons y m =>
      rw [k8, k8]
      by_cases h1 : x < y
      · rw [if_neg (by omega), if_pos h1, if_pos h1]; rfl
      · by_cases h2 : y < x
        · rw [if_pos h2, if_neg h1, if_pos h2]
        · rw [if_neg h2, if_neg h1, if_neg h1, if_neg h2]; exact ih m
theorem cmpL_range (a : List Nat) : ∀ b, k8 a b = -1 ∨ k8 a b = 0 ∨ k8 a b = 1 := by
  induction a with
  | nil => intro b; cases b <;> simp [k8]
  | cons x l ih =>
    intro b
    cases b with
    | nil => simp [k8]
    | cons y m =>
      rw [k8]
      split
      · simp
      · split
        · simp
        · exact ih m
theorem cmpL_zero (a : List Nat) : ∀ b, k8 a b = 0 → a = b := by
  induction a with
  | nil => intro b; cases b <;> simp [k8]
  | cons x l ih =>
    intro b
    cases b with
    | nil => simp [k8]
    | cons y m =>
      rw [k8]
      split
      · intro h; omega
      · split
        · intro h; omega
        · intro h; rw [ih m h, show x = y from by omega]
theorem cmpL_trans (a : List Nat) : ∀ b c, k8 a b ≤ 0 → k8 b c ≤ 0 → k8 a c ≤ 0 ∧ (k8 a c = 0 → k8 a b = 0 ∧ k8 b c = 0) := by
  induction a with
  | nil =>
    intro b c h1 h2
    cases b with
    | nil => cases c <;> simp [k8]
    | cons y m =>
      cases c with
      | nil => simp [k8] at h2
      | cons z n => simp [k8]
  | cons x l ih =>
    intro b c h1 h2
    cases b with
    | nil => simp [k8] at h1
    | cons y m =>
      cases c with
      | nil => simp [k8] at h2
      | cons z n =>
        simp only [cmpL_cons] at h1 h2 ⊢
        by_cases a1 : x < y
        · simp only [if_pos a1] at h1 ⊢
          by_cases a2 : y < z
          · have : x < z := by omega
            simp only [if_pos this]; omega
          · by_cases a3 : z < y
            · simp only [if_neg a2, if_pos a3] at h2; omega
            · have : x < z := by omega
              simp only [if_pos this]; omega
        · by_cases a1' : y < x
          · simp only [if_neg a1, if_pos a1'] at h1; omega
          · simp only [if_neg a1, if_neg a1'] at h1 ⊢
            obtain rfl : x = y := by omega
            by_cases a2 : x < z
            · simp only [if_pos a2]; omega
            · by_cases a3 : z < x
              · simp only [if_neg a2, if_pos a3] at h2; omega
              · simp only [if_neg a2, if_neg a3] at h2 ⊢
                exact ih m n h1 h2
def fA (a b : List UInt8) : Int :=
  if xZ a && xZ b then Lib.compareInt (x7 a) (x7 b) else if xZ a then -1 else if xZ b then 1 else Lib.compareBytes a b
def kR : List (List UInt8) → List (List UInt8) → Int
  | [], [] => 0
  | [], _ :: _ => -1
  | _ :: _, [] => 1
  | a :: l, b :: m => if fA a b ≠ 0 then fA a b else kR l m
def vD (a b : List UInt8) : Int := if a = b then 0 else if a = [] then 1 else if b = [] then -1 else kR (pcs a) (pcs b)
def mK (t : List UInt8) : List Nat := if xZ t then [1, (x7 t).toNat] else 2 :: (t.map (fun c => c.toNat + 1) ++ [0])
def wM (l : List (List UInt8)) : List Nat := l.flatMap mK ++ [0]
def preKey (p : List UInt8) : List Nat := if p = [] then [3] else wM (pcs p)
def Ver.key (v : Ver) : List Nat := v.maj.toNat :: v.min.toNat :: v.pat.toNat :: preKey v.pre
theorem numD_nat (t : List UInt8) : 0 ≤ x7 t := by unfold x7; omega
theorem cmpL_bytes (a : List UInt8) : ∀ (b : List UInt8) (x y : List Nat), k8 (a.map (fun c => c.toNat + 1) ++ 0 :: x) (b.map (fun c => c.toNat + 1) ++ 0 :: y) = if Lib.compareBytes a b ≠ 0 then Lib.compareBytes a b else k8 x y := by
  induction a with
  | nil =>
    intro b x y
    cases b with
    | nil => simp [k8, Lib.compareBytes]
    | cons c r => simp [k8, Lib.compareBytes]
  | cons c r ih =>
    intro b x y
    cases b with
    | nil => simp [k8, Lib.compareBytes]
    | cons d q =>
      simp only [List.map_cons, List.cons_append, cmpL_cons]
      by_cases h1 : c < d
      · have h1' : c.toNat < d.toNat := UInt8.lt_iff_toNat_lt.1 h1
        have e : Lib.compareBytes (c :: r) (d :: q) = -1 := by rw [Lib.compareBytes, if_pos h1]
        rw [e, if_pos (by omega)]; rfl
      · by_cases h2 : d < c
        · have h2' : d.toNat < c.toNat := UInt8.lt_iff_toNat_lt.1 h2
          have e : Lib.compareBytes (c :: r) (d :: q) = 1 := by rw [Lib.compareBytes, if_neg h1, if_pos h2]
          rw [e, if_neg (by omega), if_pos (by omega)]; rfl
        · have a1 : ¬ c.toNat < d.toNat := fun h => h1 (UInt8.lt_iff_toNat_lt.2 h)
          have a2 : ¬ d.toNat < c.toNat := fun h => h2 (UInt8.lt_iff_toNat_lt.2 h)
          have e : Lib.compareBytes (c :: r) (d :: q) = Lib.compareBytes r q := by rw [Lib.compareBytes, if_neg h1, if_neg h2]
          rw [e, if_neg (by omega), if_neg (by omega)]
          exact ih q x y
theorem cmpL_tag (a b : List UInt8) (x y : List Nat) : k8 (mK a ++ x) (mK b ++ y) = if fA a b ≠ 0 then fA a b else k8 x y := by
  unfold mK fA
  cases ha : xZ a <;> cases hb : xZ b
  · have := cmpL_bytes a b x y
    simpa [k8] using this
  · simp [k8]
  · simp [k8]
  · have h1 := numD_nat a
    have h2 := numD_nat b
    simp only [Bool.and_true, if_true, List.cons_append, List.nil_append, k8, Lib.compareInt]
    by_cases h : x7 a < x7 b
    · rw [if_pos h, if_pos (by omega : (x7 a).toNat < (x7 b).toNat)]; rfl
    · by_cases h' : x7 b < x7 a
      · rw [if_neg h, if_pos h', if_neg (by omega : ¬ (x7 a).toNat < (x7 b).toNat), if_pos (by omega : (x7 b).toNat < (x7 a).toNat)]; rfl
      · rw [if_neg h, if_neg h', if_neg (by omega : ¬ (x7 a).toNat < (x7 b).toNat), if_neg (by omega : ¬ (x7 b).toNat < (x7 a).toNat)]; rfl
theorem tag_cons (a : List UInt8) : ∃ k r, mK a = k :: r ∧ 0 < k ∧ k < 3 := by
  unfold mK; split
  · exact ⟨_, _, rfl, by omega, by omega⟩
  · exact ⟨_, _, rfl, by omega, by omega⟩
theorem cmpL_tail (l : List (List UInt8)) : ∀ m, k8 (wM l) (wM m) = kR l m := by
  induction l with
  | nil =>
    intro m
    cases m with
    | nil => rfl
    | cons b m =>
      obtain ⟨k, r, e, h, _⟩ := tag_cons b
      unfold wM
      rw [List.flatMap_cons, e]
      simp [k8, kR, h]
  | cons a l ih =>
    intro m
    cases m with
    | nil =>
      obtain ⟨k, r, e, h, _⟩ := tag_cons a
      unfold wM
      rw [List.flatMap_cons, e]
      simp [k8, kR, h]
    | cons b m =>
      have := ih m
      unfold wM at this ⊢
      rw [List.flatMap_cons, List.flatMap_cons, List.append_assoc, List.append_assoc, cmpL_tag, this, kR]
theorem tail_small (l : List (List UInt8)) : ∃ k r, wM l = k :: r ∧ k < 3 := by
  unfold wM
  cases l with
  | nil => exact ⟨0, [], rfl, by omega⟩
  | cons a l =>
    obtain ⟨k, r, e, _, h⟩ := tag_cons a
    exact ⟨k, r ++ (l.flatMap mK ++ [0]), by rw [List.flatMap_cons, e]; simp, h⟩
theorem presR_key (a b : List UInt8) : vD a b = k8 (preKey a) (preKey b) := by
  unfold vD
  by_cases h : a = b
  · rw [if_pos h, h, cmpL_self]
  · rw [if_neg h]
    unfold preKey
    by_cases ha : a = []
    · have hb : b ≠ [] := fun e => h (ha.trans e.symm)
      rw [if_pos ha, if_pos ha, if_neg hb]
      obtain ⟨k, r, e, hk⟩ := tail_small (pcs b)
      rw [e, k8, if_neg (by omega), if_pos hk]
    · rw [if_neg ha, if_neg ha]
      by_cases hb : b = []
      · rw [if_pos hb, if_pos hb]
        obtain ⟨k, r, e, hk⟩ := tail_small (pcs a)
        rw [e, k8, if_pos hk]
      · rw [if_neg hb, if_neg hb]; exact (cmpL_tail _ _).symm
def cmpN (v w : Ver) : Int :=
  if Lib.compareInt v.maj w.maj ≠ 0 then Lib.compareInt v.maj w.maj
  else if Lib.compareInt v.min w.min ≠ 0 then Lib.compareInt v.min w.min
  else Lib.compareInt v.pat w.pat
def kD (v w : Ver) : Int := if v.may && w.may then (if cmpN v w ≠ 0 then cmpN v w else vD v.pre w.pre) else 0
theorem dE {v : Ver} (h : v.may = true) : (0 ≤ v.maj ∧ v.maj ≤ 9999) ∧ (0 ≤ v.min ∧ v.min ≤ 9999) ∧ (0 ≤ v.pat ∧ v.pat ≤ 9999) := by
  obtain ⟨h1, h2, h3⟩ := vH h
  unfold zV at h1 h2 h3; simp at h1 h2 h3
  exact ⟨h1, h2, h3⟩
theorem cmpL_num {a b : Int} (ha : 0 ≤ a) (hb : 0 ≤ b) (x y : List Nat) : k8 (a.toNat :: x) (b.toNat :: y) = if Lib.compareInt a b ≠ 0 then Lib.compareInt a b else k8 x y := by
  rw [k8]
  unfold Lib.compareInt
  by_cases h : a < b
  · rw [if_pos h, if_pos (by omega)]; rfl
  · by_cases h' : b < a
    · rw [if_neg h, if_pos h', if_neg (by omega), if_pos (by omega)]; rfl
    · rw [if_neg h, if_neg h', if_neg (by omega), if_neg (by omega)]; rfl
theorem jC {v w : Ver} (hv : v.may = true) (hw : w.may = true) : kD v w = k8 v.key w.key := by
  obtain ⟨v1, v2, v3⟩ := dE hv
  obtain ⟨w1, w2, w3⟩ := dE hw
  unfold kD
  rw [hv, hw, presR_key]
  unfold Ver.key
  rw [cmpL_num v1.1 w1.1, cmpL_num v2.1 w2.1, cmpL_num v3.1 w3.1]
  unfold cmpN
  simp only [Bool.and_true, if_true]
  by_cases h1 : Lib.compareInt v.maj w.maj = 0
  · by_cases h2 : Lib.compareInt v.min w.min = 0
    · simp [h1, h2]
    · simp [h1, h2]
  · simp [h1]
def n4 (a b : List UInt8) : Int :=
  if kT a && kT b then Lib.compareInt (x7 a) (x7 b) else if kT a && !b.isEmpty then -1 else if kT b && !a.isEmpty then 1 else Lib.compareBytes a b
def dX : Nat → List (List UInt8) → List (List UInt8) → Int
  | 0, _, _ => 0
  | n + 1, l, m => if n4 (tg l 0) (tg m 0) ≠ 0 then n4 (tg l 0) (tg m 0) else dX n l.tail m.tail
theorem n8 {t : List UInt8} (h : mX t = true) : kT t = xZ t := by
  cases hi : kT t with
  | true =>
    unfold kT at hi
    obtain ⟨n, hn⟩ := Option.isSome_iff_exists.1 hi
    obtain ⟨e, _⟩ := nD t n hn
    unfold xZ
    have h1 := (dec_fold n).1
    rw [e, h1]
    cases hd : Lib.decDigits n with
    | nil => have := congrArg List.length hd; rw [Lib.decDigits_length] at this; have := Lib.nDigits_pos n; simp at *; omega
    | cons _ _ => rfl
  | false => unfold mX at h; rw [hi, Bool.or_false] at h; simpa using h.symm
def nL (t : List UInt8) : Bool := kO t && mX t
theorem fine_ne {t : List UInt8} (h : nL t = true) : t ≠ [] := by
  unfold nL at h; rw [Bool.and_eq_true] at h
  have := (tagOk_len h.1).1
  intro e; subst e; simp at this
theorem oneP_one {a b : List UInt8} (ha : nL a = true) (hb : nL b = true) : n4 a b = fA a b := by
  have n1 := fine_ne ha
  have n2 := fine_ne hb
  unfold nL at ha hb; rw [Bool.and_eq_true] at ha hb
  unfold n4 fA
  rw [n8 ha.2, n8 hb.2]
  have e1 : a.isEmpty = false := by cases a <;> simp_all
  have e2 : b.isEmpty = false := by cases b <;> simp_all
  rw [e1, e2]; simp
theorem oneP_nil : n4 [] [] = 0 := by decide
theorem oneP_left {b : List UInt8} (h : b ≠ []) : n4 [] b = -1 := by
  unfold n4
  have e : kT [] = false := by decide
  rw [e]
  cases b with
  | nil => exact absurd rfl h
  | cons c r => simp [Lib.compareBytes]
theorem oneP_right {a : List UInt8} (h : a ≠ []) : n4 a [] = 1 := by
  unfold n4
  have e : kT [] = false := by decide
  rw [e]
  cases a with
  | nil => exact absurd rfl h
  | cons c r => simp [Lib.compareBytes]
theorem seqP_pres (n : Nat) : ∀ l m, l.length ≤ n → m.length ≤ n → l.all nL = true → m.all nL = true → dX n l m = kR l m := by
  induction n with
  | zero =>
    intro l m hl hm _ _
    obtain rfl : l = [] := List.eq_nil_of_length_eq_zero (by omega)
    obtain rfl : m = [] := List.eq_nil_of_length_eq_zero (by omega)
    rfl
  | succ n ih =>
    intro l m hl hm fl fm
    unfold dX
    match l, m with
    | [], [] =>
      rw [show tg [] 0 = [] from rfl, oneP_nil]
      simpa using ih [] [] (by simp) (by simp) rfl rfl
    | [], b :: m =>
      rw [List.all_cons, Bool.and_eq_true] at fm
      rw [show tg [] 0 = [] from rfl, show tg (b :: m) 0 = b from rfl, oneP_left (fine_ne fm.1)]
      rfl
    | a :: l, [] =>
      rw [List.all_cons, Bool.and_eq_true] at fl
      rw [show tg [] 0 = [] from rfl, show tg (a :: l) 0 = a from rfl, oneP_right (fine_ne fl.1)]
      rfl
    | a :: l, b :: m =>
      rw [List.all_cons, Bool.and_eq_true] at fl fm
      rw [show tg (a :: l) 0 = a from rfl, show tg (b :: m) 0 = b from rfl, oneP_one fl.1 fm.1, kR]
      simp at hl hm
      rw [show (a :: l).tail = l from rfl, show (b :: m).tail = m from rfl, ih l m hl hm fl.2 fm.2]
def cpre (a b : List UInt8) : Int := if a = [] then 1 else if b = [] then -1 else dX 4 (lst a).1 (lst b).1
theorem p8 {p : List UInt8} (h : qQ p = true) (hne : p ≠ []) : (lst p).1 = pcs p ∧ (pcs p).all nL = true ∧ (pcs p).length ≤ 4 := by
  have e : p.isEmpty = false := by cases p <;> simp_all
  have hl : kU p = true := by unfold qQ at h; rw [Bool.and_eq_true] at h; exact h.1
  have h1 := lst_all p hl
  rw [e] at h1
  have h1' : (lst p).1 = pcs p := by simpa using h1
  refine ⟨h1', ?_, ?_⟩
  · unfold qQ at h; rw [e, Bool.false_or, Bool.and_eq_true] at h
    unfold kU at hl; rw [e, Bool.false_or, Bool.and_eq_true] at hl
    rw [List.all_eq_true]
    intro x hx
    unfold nL
    rw [List.all_eq_true.1 hl.2 x hx, List.all_eq_true.1 h.2 x hx]; rfl
  · rw [← h1']; exact lst_len p
theorem cpre_pres {a b : List UInt8} (ha : qQ a = true) (hb : qQ b = true) (hne : a ≠ b) : cpre a b = vD a b := by
  unfold cpre vD
  rw [if_neg hne]
  by_cases h1 : a = []
  · rw [if_pos h1, if_pos h1]
  · rw [if_neg h1, if_neg h1]
    by_cases h2 : b = []
    · rw [if_pos h2, if_pos h2]
    · rw [if_neg h2, if_neg h2]
      obtain ⟨e1, f1, l1⟩ := p8 ha h1
      obtain ⟨e2, f2, l2⟩ := p8 hb h2
      rw [e1, e2]
      exact seqP_pres 4 _ _ l1 l2 f1 f2
theorem pO {v w : Ver} (h : v.may = false ∨ w.may = false) : kD v w = 0 := by
  unfold kD
  rw [if_neg]
  rcases h with h | h <;> simp [h]
def yK (v : Ver) : Ver := { v with build := [] }
theorem kZ (x : Int) : Lib.compareInt x x = 0 := by unfold Lib.compareInt; simp
theorem cmpR_core {v w : Ver} (h : yK v = yK w) : kD v w = 0 := by
  unfold yK at h
  simp only [Ver.mk.injEq, and_true] at h
  obtain ⟨h1, h2, h3, h4⟩ := h
  unfold kD cmpN vD
  rw [h1, h2, h3, h4]
  simp [kZ]
theorem xH {a b : Int} (h : Lib.compareInt a b = 0) : a = b := by
  unfold Lib.compareInt at h
  split at h
  · omega
  · split at h
    · omega
    · omega
theorem cmpR_go {v w : Ver} (hv : v.may = true) (hw : w.may = true) (hc : ¬ yK v = yK w) : kD v w = if cmpN v w ≠ 0 then cmpN v w else cpre v.pre w.pre := by
  unfold kD
  rw [hv, hw]
  simp only [Bool.and_true, if_true]
  by_cases h : cmpN v w = 0
  · rw [if_neg (by simpa using h), if_neg (by simpa using h)]
    refine (cpre_pres ?_ ?_ ?_).symm
    · unfold Ver.may at hv; simp only [Bool.and_eq_true] at hv; exact hv.1.2
    · unfold Ver.may at hw; simp only [Bool.and_eq_true] at hw; exact hw.1.2
    · intro e
      apply hc
      unfold cmpN at h
      have h1 : Lib.compareInt v.maj w.maj = 0 := by
        by_cases g : Lib.compareInt v.maj w.maj = 0
        · exact g
        · rw [if_pos g] at h; exact absurd h g
      rw [if_neg (by simpa using h1)] at h
      have h2 : Lib.compareInt v.min w.min = 0 := by
        by_cases g : Lib.compareInt v.min w.min = 0
        · exact g
        · rw [if_pos g] at h; exact absurd h g
      rw [if_neg (by simpa using h2)] at h
      unfold yK
      rw [xH h1, xH h2, xH h, e]
  · rw [if_pos h, if_pos h]
end
section
theorem cmpB_eq (a : List UInt8) : ∀ b, Lib.compareBytes a b = 0 → a = b := by
  induction a with
  | nil => intro b; cases b <;> simp [Lib.compareBytes]
  | cons x l ih =>
    intro b
    cases b with
    | nil => simp [Lib.compareBytes]
    | cons y m =>
      rw [Lib.compareBytes]
      by_cases h1 : x < y
      · rw [if_pos h1]; intro h; omega
      · by_cases h2 : y < x
        · rw [if_neg h1, if_pos h2]; intro h; omega
        · rw [if_neg h1, if_neg h2]
          intro h
          rw [ih m h, UInt8.le_antisymm (UInt8.not_lt.1 h2) (UInt8.not_lt.1 h1)]
theorem fine_num {t : List UInt8} (h : nL t = true) (hn : xZ t = true) : t = Lib.decDigits (x7 t).toNat := by
  unfold nL at h; rw [Bool.and_eq_true] at h
  have hi := (n8 h.2).trans hn
  unfold kT at hi
  obtain ⟨n, hg⟩ := Option.isSome_iff_exists.1 hi
  have e := (nD t n hg).1
  have hd : x7 t = (n : Nat) := by unfold x7; rw [hg]; rfl
  rw [hd]; exact e
theorem oneR_zero {a b : List UInt8} (fa : nL a = true) (fb : nL b = true) (h : fA a b = 0) : a = b := by
  unfold fA at h
  cases ha : xZ a <;> cases hb : xZ b
  · rw [ha, hb] at h; exact cmpB_eq a b (by simpa using h)
  · rw [ha, hb] at h; simp at h
  · rw [ha, hb] at h; simp at h
  · rw [ha, hb] at h
    have e := xH (by simpa using h)
    rw [fine_num fa ha, fine_num fb hb, e]
theorem presL_zero (l : List (List UInt8)) : ∀ m, l.all nL = true → m.all nL = true → kR l m = 0 → l = m := by
  induction l with
  | nil => intro m _ _ h; cases m <;> simp [kR] at h ⊢
  | cons a l ih =>
    intro m fl fm h
    cases m with
    | nil => simp [kR] at h
    | cons b m =>
      rw [List.all_cons, Bool.and_eq_true] at fl fm
      rw [kR] at h
      by_cases h0 : fA a b = 0
      · rw [if_neg (by simpa using h0)] at h
        rw [oneR_zero fl.1 fm.1 h0, ih m fl.2 fm.2 h]
      · rw [if_pos h0] at h; exact absurd h h0
theorem presR_zero {a b : List UInt8} (ha : qQ a = true) (hb : qQ b = true) (h : vD a b = 0) : a = b := by
  unfold vD at h
  by_cases h0 : a = b
  · exact h0
  · rw [if_neg h0] at h
    by_cases h1 : a = []
    · rw [if_pos h1] at h; omega
    · by_cases h2 : b = []
      · rw [if_neg h1, if_pos h2] at h; omega
      · rw [if_neg h1, if_neg h2] at h
        have e := presL_zero _ _ (p8 ha h1).2.1 (p8 hb h2).2.1 h
        have j1 := nH 46 a []
        have j2 := nH 46 b []
        unfold pcs at e
        rw [e] at j1
        simpa using j1.symm.trans j2
theorem pB {v : Ver} (h : v.may = true) : qQ v.pre = true := by
  unfold Ver.may at h; simp only [Bool.and_eq_true] at h; exact h.1.2
theorem cmpR_zero {v w : Ver} (hv : v.may = true) (hw : w.may = true) (h : kD v w = 0) : yK v = yK w := by
  by_cases hc : yK v = yK w
  · exact hc
  · unfold kD at h
    rw [hv, hw] at h
    simp only [Bool.and_true, if_true] at h
    by_cases h0 : cmpN v w = 0
    · rw [if_neg (by simpa using h0)] at h
      have hp := presR_zero (pB hv) (pB hw) h
      unfold cmpN at h0
      by_cases g1 : Lib.compareInt v.maj w.maj = 0
      · rw [if_neg (by simpa using g1)] at h0
        by_cases g2 : Lib.compareInt v.min w.min = 0
        · rw [if_neg (by simpa using g2)] at h0
          unfold yK
          rw [xH g1, xH g2, xH h0, hp]
        · rw [if_pos g2] at h0; exact absurd h0 g2
      · rw [if_pos g1] at h0; exact absurd h0 g1
    · rw [if_pos h0] at h; exact absurd h h0
theorem fI {v : Ver} (h : v.may = true) : (yK v).may = true := by
  have e : kU [] = true := by decide
  unfold Ver.may at h ⊢; simp only [Bool.and_eq_true] at h ⊢
  exact ⟨⟨h.1.1, h.1.2⟩, e⟩
theorem order_anti {a b : Ver} (ha : a.may = true) (hb : b.may = true) : kD b a = - kD a b := by
  rw [jC hb ha, jC ha hb, cmpL_anti]
theorem order_self {a : Ver} : kD a a = 0 := cmpR_core rfl
theorem order_core {a b : Ver} (ha : a.may = true) (hb : b.may = true) : kD (yK a) b = kD a b := by
  rw [jC (fI ha) hb, jC ha hb]; rfl
def Ver.code (v : Ver) : Int := (v.maj * 10000 + v.min) * 10000 + v.pat
theorem ci_lt {x y : Int} (h : x < y) : Lib.compareInt x y = -1 := by unfold Lib.compareInt; rw [if_pos h]
theorem ci_gt {x y : Int} (h : y < x) : Lib.compareInt x y = 1 := by unfold Lib.compareInt; rw [if_neg (by omega), if_pos h]
theorem rel_may4 (a b c : Int) : (Ver.rel a b c).may = (zV a && zV b && zV c) := by
  unfold Ver.may Ver.rel
  have h1 : qQ [] = true := by decide
  have h2 : kU [] = true := by decide
  dsimp only
  rw [h1, h2, Bool.and_true, Bool.and_true]
theorem num_in {a : Int} (h : 0 ≤ a ∧ a ≤ 9999) : zV a = true := by unfold zV; simp; omega
end
section
theorem ownsRow_below {w w' : World} {B : Nat} {e : TypeId} {size : Nat} {v : Value} {n : Nat} {xs : List Value} (h : w.ownsRow B e size v n xs) (hb : Below w.heap.size w w') : w'.ownsRow B e size v n xs := by
  obtain ⟨h1, h2⟩ := h
  refine ⟨h1, ?_⟩
  rcases h2 with h2 | ⟨g, cap, cur, hv, hg, hh, r⟩
  · exact Or.inl h2
  · exact Or.inr ⟨g, cap, cur, hv, hg, by rw [hb.block g (Array.getElem?_eq_some_iff.1 hh).1]; exact hh, r⟩
end
section
def HasTab (w : World) : Prop := Lib.TabBelow Tryz.prog w.heap.size w "internal/strconv.uint64pow10" .u64 Lib.pow10Tab
theorem HasTab.on {w w' : World} (h : HasTab w) (hb : Below w.heap.size w w') : HasTab w' := fun w2 hb2 => h w2 (hb.old.trans (hb2.mono hb.size))
theorem below_growD (w : World) (k : Nat) (os : Array Obj) : Below w.heap.size w (Go.Sort.grow (w.drewN k) os) :=
  have h := Lib.below_grow w.heap.size w (Nat.le_refl _) k os
  ⟨h.os, h.tape, h.output, h.size, (fK (Below.refl w.heap.size w) k).drawn, h.block⟩
def digS (n : Int) : ByteArray := ⟨(Lib.itoa n).toArray⟩
theorem digits_any (n : Int) (h0 : -9223372036854775808 ≤ n) (h1 : n ≤ 9223372036854775807) (w : World) (ht : HasTab w) :
    Calls Tryz.prog 140 #[.int .i64 n] w fun e w' => e = .returned (.string (digS n)) ∧ Below w.heap.size w w' := by
  have H := Lib.hid ht
  clear ht
  go_enter Tryz.func140, Tryz.ntmps140
  go_wp2_with (go_at_call 176; refine (Tryz.strconv_Itoa n h0 h1 _ H.out.here).mono ?_; rintro e w' ⟨rfl, k, os, rfl⟩)
  go_ret
  exact ⟨rfl, below_growD _ _ _⟩
theorem v8 {a b : ByteArray} (h : a = b) : Ending.returned (.string a) = .returned (.string b) := by rw [h]
theorem of_list {t : ByteArray} {l : List UInt8} (h : l = t.data.toList) : t = ⟨l.toArray⟩ := by subst h; rfl
def one (x : Int) : ByteArray := ⟨#[UInt8.ofNat x.toNat]⟩
theorem one_list (n : Nat) : (one (48 + (n : Int) % 10)).data.toList = [UInt8.ofNat (48 + n % 10)] := by
  unfold one
  rw [show (48 + (n : Int) % 10).toNat = 48 + n % 10 from by omega]
theorem conv1 (w : World) (x : Int) : (convert 35 9 (.slice (some ⟨w.heap.size, 0, none⟩) 1 1)).run Tryz.prog (w.alloc (.cells #[.int .u8 x] 5)) = .ok (.string (one x)) (w.alloc (.cells #[.int .u8 x] 5)) := by
  refine (run_convert_bytes_arg (P := Tryz.prog) _ 35 5 Tryz.underlying35 Tryz.underlying5 w.heap.size 0 1 1 [x] rfl ?_ 9 Tryz.underlying9).trans ?_
  · intro i hi
    obtain rfl : i = 0 := by omega
    simp
  · rfl
theorem dec_start (n : Nat) : Lib.decDigits n = (if n < 10 then [] else Lib.decDigits (n / 10)) ++ [UInt8.ofNat (48 + n % 10)] := by
  rw [Lib.decDigits]
  by_cases h : n < 10
  · rw [dif_pos h, if_pos h, Nat.mod_eq_of_lt h]; rfl
  · rw [dif_neg h, if_neg h]
def decS (n : Nat) : ByteArray := ⟨(Lib.decDigits n).toArray⟩
theorem whole_any (n : Nat) (hn : n ≤ 18446744073709551615) (w : World) :
    Calls Tryz.prog 199 #[.int .u64 n] w fun e w' => e = .returned (.string (decS n)) ∧ Below w.heap.size w w' := by
  have hcv := fun (w : World) (x : Int) => conv1 w x
  go_enter Tryz.func199, Tryz.ntmps199
  go_wp2
  go_loopw [0, 3] (fun v s wr => ∃ (m : Nat) (t : ByteArray), v = .int .u64 m ∧ s = .string t ∧ m ≤ 18446744073709551615 ∧ Below w.heap.size w wr ∧ t.size ≤ 20 ∧ Hid (Lib.decDigits n = (if m < 10 then [] else Lib.decDigits (m / 10)) ++ t.data.toList)) (fun v _ _ => (intOf v).toNat)
  case atStart => exact ⟨n, _, rfl, rfl, hn, (Below.refl _ w).alloc (Nat.le_refl _) _, by show 1 ≤ 20; omega, by show _ = _; rw [one_list]; exact dec_start n⟩
  case round =>
    obtain ⟨m, t, rfl, rfl, hm, hb, ht, HR⟩ := hrel
    have hsz := hb.size
    by_cases h9 : 9 < m
    · have hos : (one (48 + (m : Int) / 10 % 10)).size ≤ 1 := Nat.le_of_eq rfl
      go_wp2
      go_roundw
      case rel =>
        have HE : Lib.decDigits n = (if m / 10 < 10 then [] else Lib.decDigits (m / 10 / 10)) ++ (one (48 + ((m / 10 : Nat) : Int) % 10) ++ t).data.toList := by
          rw [HR.out, if_neg (by omega), dec_start (m / 10), ByteArray.data_append, Array.toList_append, one_list, List.append_assoc]
        rw [show ((m / 10 : Nat) : Int) = (m : Int) / 10 from by omega] at HE
        refine ⟨m / 10, _, by go_num, rfl, by omega, hb.alloc hsz _, ?_, HE⟩
        have hl := congrArg List.length HE
        rw [Lib.decDigits_length, List.length_append] at hl
        have := Lib.nDigits_le20 n (by omega)
        have hz : (one (48 + (m : Int) / 10 % 10) ++ t).data.toList.length = (one (48 + (m : Int) / 10 % 10) ++ t).size := by simp
        omega
      case measure => simp [intOf]; omega
    · go_wp2
      go_ret
      have HE := HR.out
      rw [if_pos (by omega), List.nil_append] at HE
      exact ⟨v8 (of_list HE), hb⟩
theorem rdigits_any (n : Int) (h0 : -9223372036854775808 ≤ n) (h1 : n ≤ 9223372036854775807) (w : World) :
    Calls Tryz.prog 165 #[.int .i64 n] w fun e w' => e = .returned (.string (digS n)) ∧ Below w.heap.size w w' := by
  by_cases hn : n < 0
  · obtain ⟨u, hu1, rfl⟩ : ∃ u : Nat, 1 ≤ u ∧ n = -(u : Int) := ⟨n.natAbs, by omega, by omega⟩
    go_enter Tryz.func165, Tryz.ntmps165
    go_wp2_with fail
    rw [show (-(-(u : Int) + 1) + 1) = (u : Int) from by omega]
    refine (whole_any u (by omega) _).mono ?_
    rintro e w' ⟨rfl, hb⟩
    have hl : (decS u).size ≤ 20 := by
      show (Lib.decDigits u).toArray.size ≤ 20
      rw [List.size_toArray, Lib.decDigits_length]
      exact Lib.nDigits_le20 u (by omega)
    go_wp2
    go_ret
    exact ⟨v8 (by unfold decS digS; rw [Lib.itoa_neg u (by omega)]; apply ByteArray.ext; simp), hb⟩
  · obtain ⟨u, rfl⟩ : ∃ u : Nat, n = (u : Int) := ⟨n.toNat, by omega⟩
    go_enter Tryz.func165, Tryz.ntmps165
    go_wp2_with (go_at_call 199; refine (whole_any u (by omega) _).mono ?_; rintro e w' ⟨rfl, hb⟩)
    go_ret
    exact ⟨v8 (by unfold decS digS; rw [Lib.itoa_nonneg]), hb⟩
end
section
theorem joinL_snoc (b : UInt8) (P : List (List UInt8)) (x : List UInt8) : x6 b (P ++ [x]) = if P = [] then x else x6 b P ++ b :: x := by
  induction P with
  | nil => rfl
  | cons y r ih =>
    rw [if_neg (by simp)]
    cases r with
    | nil => rfl
    | cons z r2 =>
      rw [List.cons_append, List.cons_append, x6, ← List.cons_append, ih, if_neg (by simp), x6, List.append_assoc]; rfl
theorem joinL_take_le (b : UInt8) (l : List (List UInt8)) : ∀ k, (x6 b (l.take k)).length ≤ (x6 b l).length := by
  intro k
  induction l generalizing k with
  | nil => simp
  | cons y r ih =>
    cases k with
    | zero => simp [x6]
    | succ k =>
      cases r with
      | nil => simp
      | cons z r2 =>
        cases k with
        | zero => simp [x6]
        | succ k =>
          have := ih (k + 1)
          rw [List.take_succ_cons] at this ⊢
          rw [List.take_succ_cons, x6, x6]
          simp only [List.length_append, List.length_cons]
          omega
def ReadsT (w : World) (B : Nat) (v : Value) (l : List (List UInt8)) : Prop :=
  ∃ A cap, v = .slice A l.length cap ∧ (0 < l.length → ∃ ad : Addr, A = some ad ∧ ad.block < B ∧ ∀ j (h : j < l.length), w.cell? (ad.add j) = some (.string (mkS l[j])))
theorem addr_block (a : Addr) (n : Nat) : (a.add n).block = a.block := by unfold Addr.add; split <;> rfl
theorem ReadsT.of_own {w : World} {base : Nat} {e : TypeId} {v : Value} {l : List (List UInt8)} (h : w.ownsRow base e 1 v l.length (d5 l)) : ReadsT w w.heap.size v l := by
  rcases h.2 with ⟨rfl, h0⟩ | ⟨g, cap, cur, rfl, hg, hh, hn, _⟩
  · exact ⟨none, 0, by rw [h0], fun hpos => by omega⟩
  · refine ⟨some ⟨g, 0, none⟩, cap, rfl, fun hpos => ⟨⟨g, 0, none⟩, rfl, (Array.getElem?_eq_some_iff.1 hh).1, fun j hj => ?_⟩⟩
    exact h.cells (g := g) rfl j _ (by unfold d5; rw [List.getElem?_map, List.getElem?_eq_getElem hj]; rfl)
theorem xR (a b : List UInt8) : mkS a ++ mkS b = mkS (a ++ b) := by
  unfold mkS; apply ByteArray.ext; simp
theorem mkS_size (a : List UInt8) : (mkS a).size = a.length := by unfold mkS; simp [ByteArray.size]
theorem take_snocL (l : List (List UInt8)) (k : Nat) (h : k < l.length) : l.take (k + 1) = l.take k ++ [l[k]] := by
  rw [List.take_succ_eq_append_getElem h]
theorem nT (l : List (List UInt8)) (k : Nat) (h : k < l.length) (h0 : 0 < k) : l.take k ≠ [] := by
  intro e; have := congrArg List.length e; rw [List.length_take, List.length_nil] at this; omega
theorem byteCells_one (c : UInt8) : Lib.byteCells [c] = [.int .u8 (c.toNat : Int)] := rfl
theorem tS (l : List UInt8) : Lib.strCells (mkS l) = Lib.byteCells l := rfl
theorem bc_join (x y : List UInt8) (b : UInt8) : Lib.byteCells (x ++ b :: y) = Lib.byteCells x ++ [.int .u8 (b.toNat : Int)] ++ Lib.strCells (mkS y) := by
  rw [tS, ← byteCells_one, ← Lib.byteCells_append, ← Lib.byteCells_append, List.append_assoc]; rfl
theorem pG (v : Value) (l : List (List UInt8)) (b : UInt8) (w : World) (hv : ReadsT w w.heap.size v l) (hl : (x6 b l).length ≤ 1000000000) (hn : l.length ≤ 1000000000) (hne : x6 b l ≠ []) :
    Calls Tryz.prog 141 #[v, .int .u8 b.toNat] w fun e w' => e = .returned (.string (mkS (x6 b l))) ∧ Below w.heap.size w w' := by
  obtain ⟨A, cap, rfl, hcell⟩ := hv
  go_enter Tryz.func141, Tryz.ntmps141
  go_wp2
  go_loopw [10] (fun iv wr => ∃ (k : Nat), iv = .int .i64 k ∧ k ≤ l.length ∧ Lib.IsBuilder 44 5 w.heap.size w.heap.size (Lib.byteCells (x6 b (l.take k))) wr ∧ Below w.heap.size w wr) (fun iv _ => l.length - (intOf iv).toNat)
  case atStart => exact ⟨0, rfl, Nat.zero_le _, Lib.fresh_isBuilder 44 5 w, (Below.refl _ _).alloc (Nat.le_refl _) _⟩
  case round =>
    obtain ⟨k, rfl, hk, hI, hb⟩ := hrel
    have hsz := hb.size
    by_cases hp : k < l.length
    · obtain ⟨ad, rfl, hlt, hc⟩ := hcell (by omega)
      have hck : wr.cell? (ad.add k) = some (.string (mkS l[k])) := (hb.cell (by rw [addr_block]; exact hlt)).trans (hc k hp)
      have hln : (x6 b (l.take (k + 1))).length ≤ 1000000000 := Nat.le_trans (joinL_take_le b l (k + 1)) hl
      have HJ := Lib.hid (joinL_snoc b (l.take k) l[k])
      rw [← take_snocL l k hp] at HJ
      clear hc hcell
      by_cases h0 : k = 0
      · subst h0
        have hx2 : (mkS l[0]).size ≤ 1000000000 := by
          rw [mkS_size]; rw [HJ.out, if_pos List.take_zero] at hln; exact hln
        have hck0 : wr.cell? ad = some (.string (mkS l[0])) := hck
        clear hck
        go_wp2_with (go_at_call 23; refine (dP w.heap.size w.heap.size _ (mkS l[0]) _ hI ?_ hsz).mono ?_)
        · rw [Lib.byteCells_length]; simp [x6]; omega
        rintro e w1 ⟨rfl, h1, hb1⟩
        go_wp2
        go_roundw
        case rel => exact ⟨0 + 1, by go_num, by omega, by rw [HJ.out, if_pos List.take_zero]; exact Or.inr h1, hb.trans hb1⟩
        case measure => simp [intOf]; omega
      · have h0p : 0 < k := by omega
        have hlen : (x6 b (l.take k)).length + (l[k].length + 1) ≤ 1000000000 := by
          rw [HJ.out, if_neg (nT l k hp h0p), List.length_append, List.length_cons] at hln; exact hln
        go_wp2_with (go_at_call 69; refine (writeByte_any w.heap.size w.heap.size _ _ _ hI ?_ hsz).mono ?_)
        · rw [Lib.byteCells_length]; omega
        rintro e w1 ⟨rfl, h1, hb1⟩
        have hsz1 := (hb.trans hb1).size
        go_wp2_with (go_at_call 23; refine (dP w.heap.size w.heap.size _ (mkS l[k]) _ (Or.inr h1) ?_ hsz1).mono ?_)
        · rw [List.length_append, Lib.byteCells_length, mkS_size]; simp; omega
        rintro e w2 ⟨rfl, h2, hb2⟩
        go_wp2
        go_roundw
        case rel => exact ⟨k + 1, by go_num, by omega, by rw [HJ.out, if_neg (nT l k hp h0p), bc_join]; exact Or.inr h2, (hb.trans hb1).trans hb2⟩
        case measure => simp [intOf]; omega
    · obtain rfl : k = l.length := by omega
      go_wp2_with (go_at_call 24; refine (string_any w.heap.size w.heap.size _ _ hI (by rw [List.take_length]; exact hne)).mono ?_)
      rintro e w1 ⟨rfl, hb1⟩
      go_wp2
      go_ret
      exact ⟨v8 rfl, hb.trans hb1⟩
end
section
def jD (f : Nat → Value) : List (Nat × Value) → Nat → Value
  | [] => f
  | p :: r => upd (jD f r) (some p.1) p.2
def Agrees (f : Nat → Value) : List (Nat × Value) → Prop
  | [] => True
  | p :: r => f p.1 = p.2 ∧ Agrees f r
theorem upds_self {f : Nat → Value} : ∀ (l : List (Nat × Value)), Agrees f l → f = jD f l
  | [], _ => rfl
  | p :: r, h => by
    have e := upds_self r h.2
    have h1 : jD f r p.1 = p.2 := by rw [← e]; exact h.1
    show f = upd (jD f r) (some p.1) p.2
    rw [← upd_self h1]; exact e
theorem ZU {f : Nat → Value} {l : List (Nat × Value)} (h : Agrees f l := by repeat (first | exact trivial | refine ⟨by kernel_rfl, ?_⟩)) : f = jD f l := upds_self l h
def Reads {α : Type} (g : α → List Value) (w : World) (B : Nat) (A : Option Addr) (l : List α) : Prop :=
  0 < l.length → ∃ b off, A = some ⟨b, off, none⟩ ∧ b < B ∧ ∀ k u, (l.flatMap g)[k]? = some u → w.cell? ⟨b, off + k, none⟩ = some u
theorem Reads.on {α : Type} {g : α → List Value} {w w' : World} {B B' : Nat} {A : Option Addr} {l : List α} (h : Reads g w B A l) (hb : Below B w w') (hB : B ≤ B') : Reads g w' B' A l := fun h0 => by
  obtain ⟨b, off, e, hlt, hc⟩ := h h0
  exact ⟨b, off, e, by omega, fun k u hk => (hb.cell (p := ⟨b, off + k, none⟩) hlt).trans (hc k u hk)⟩
theorem Sl.reads {α : Type} {g : α → List Value} {T sz n : Nat} {A : Option Addr} {cap : Nat} {l : List α} {ob : List Blk} {M : List Nat} {W w : World} {L : List Blk} (h : Sl T sz (.slice A n cap) n (l.flatMap g) ob) (hn : l.length = n) (hO : Own M W w L) (hs : ∀ x ∈ ob, x ∈ L) :
    Reads g w w.heap.size A l := fun h0 => by
  rcases h.2 with ⟨_, h2, _⟩ | ⟨b, c, cur, e, rfl, h3, h4, h5, h6⟩
  · omega
  · obtain ⟨rfl, _, rfl⟩ : A = some ⟨b, 0, none⟩ ∧ True ∧ cap = c := by
      simp only [Value.slice.injEq] at e; exact ⟨e.1, trivial, e.2.2⟩
    have hb := hs ⟨b, cur, T⟩ (by simp)
    refine ⟨b, 0, rfl, hO.lt hb, fun k u hk => ?_⟩
    rw [cell_of_row w b (0 + k) cur T _ (hO.held _ hb)]
    rw [← h6, List.getElem?_take] at hk
    split at hk
    · simpa using hk
    · cases hk
section
variable {P : Program}
theorem old_load {ty : TypeId} {w : World} {b o : Nat} (cs : List Value) (v : Value) (h : ∀ k u, cs[k]? = some u → w.cell? ⟨b, o + k, none⟩ = some u) (hr : kA P ty cs.toArray 0 = some v) : (loadVar ty ⟨b, o, none⟩).run P w = .ok v w := by
  unfold kA at hr
  cases hu : P.underlying ty with
  | none => rw [hu] at hr; simp at hr
  | some d =>
    cases hi : P.info? ty with
    | none => rw [hu, hi] at hr; cases d <;> simp at hr
    | some i =>
      rw [hu, hi] at hr
      by_cases hd : m8 d = true
      · have h2 : (if 0 + i.size ≤ cs.toArray.size then some (Value.agg (cs.toArray.toList.drop 0 |>.take i.size).toArray) else none) = some v := by
          cases d <;> first | exact hr | (simp [m8] at hd)
        split at h2
        · rename_i hle
          obtain rfl := Option.some.inj h2
          have hlen : (cs.take i.size).length = i.size := by simp at hle ⊢; omega
          have hl := run_loadCells_list (P := P) w ⟨b, o, none⟩ (cs.take i.size) (fun j u hj => by
            rw [yM]
            rw [List.getElem?_take] at hj
            split at hj
            · exact h j u hj
            · cases hj)
          rw [hlen] at hl
          have hagg : (isAgg ty).run P w = .ok true w := by
            unfold isAgg
            rw [Sem.run_bind, run_underlying hu w]
            cases d <;> simp_all [m8]
          simp [loadVar, Sem.run_bind, hagg, sizeOf, typeInfo, hi, hl]
        · cases h2
      · have h2 : cs.toArray[0]? = some v := by cases d <;> first | exact hr | (simp [m8] at hd)
        have hagg : (isAgg ty).run P w = .ok false w := by
          unfold isAgg
          rw [Sem.run_bind, run_underlying hu w]
          cases d <;> simp_all [m8]
        have hc : w.cell? ⟨b, o, none⟩ = some v := by simpa using h 0 v (by simpa using h2)
        simp [loadVar, Sem.run_bind, hagg, run_load, hc, Result.andThen]
theorem yH {α : Type} {g : α → List Value} {sz : Nat} (hg : ∀ x, (g x).length = sz) {ty : TypeId} {w : World} {b off o : Nat} {l : List α} (hc : ∀ k u, (l.flatMap g)[k]? = some u → w.cell? ⟨b, off + k, none⟩ = some u) (k fo : Nat) (hk : k < l.length) (ho : o = off + k * sz + fo) (v : Value)
    (hr : kA P ty ((g l[k]).drop fo).toArray 0 = some v) : (loadVar ty ⟨b, o, none⟩).run P w = .ok v w := by
  subst ho
  refine old_load ((g l[k]).drop fo) v (fun j u hj => ?_) hr
  have e : ((l.flatMap g)[k * sz + (fo + j)]?) = some u := by
    rw [List.getElem?_drop] at hj
    have := flat_at hg l k hk
    rw [← this, List.getElem?_take] at hj
    split at hj
    · rw [List.getElem?_drop] at hj; exact hj
    · cases hj
  have := hc _ u e
  rw [show off + (k * sz + (fo + j)) = off + k * sz + fo + j from by omega] at this
  exact this
theorem qR {ρ : Operand → Value} {o : Oper} {t e : TypeId} {x ix : Operand} {A : Option Addr} {b off off' n c sz : Nat} {k : IntKind} {j : Int} (ho : o.op = .indexAddr t x ix) (hx : ρ x = .slice A n c) (hA : A = some ⟨b, off, none⟩) (hi : ρ ix = .int k j)
    (hu : P.underlying t = some (.slice e)) (hs : (P.info? e).map (·.size) = some sz) (h0 : 0 ≤ j) (h1 : j < n) (hoff : off + j.toNat * sz = off') (w : World) : (execOp ρ o).run P w = .ok (.value (.pointer (some ⟨b, off', none⟩))) w := by
  subst hA
  exact qP ho hx hi hu hs h0 h1 hoff w
theorem ZA {ρ : Operand → Value} {o : Oper} {t e : TypeId} {x ix : Operand} {A : Option Addr} {b off off' n c sz : Nat} {k : IntKind} {j : Int} (hA : A = some ⟨b, off, none⟩) (ho : o.op = .indexAddr t x ix := by rfl) (hx : ρ x = .slice A n c := by kernel_rfl) (hi : ρ ix = .int k j := by kernel_rfl) (hu : P.underlying t = some (.slice e) := by kernel_rfl) (hs : (P.info? e).map (·.size) = some sz := by kernel_rfl) (h0 : 0 ≤ j := by omega) (h1 : j < n := by omega) (hoff : off + j.toNat * sz = off' := by omega) (w : World) : (execOp ρ o).run P w = .ok (.value (.pointer (some ⟨b, off', none⟩))) w := qR ho hx hA hi hu hs h0 h1 hoff w
end
end
end Go.Proofs.YtiekhkapgjdblaaGreatDoor
