/-
  Texts of this claim, one behind the other: Sh4 Oqv Opd Oqd Oqn Gen Trm Rp0 Rp1 Rp2 Rp5 Txr Txh Renc Byt Rwr Sze0 Rpr Rp6 Nms Rrd Txs Lin0 Rwd Rp7 Rp8 Rs0 Edm Edd Re0 Edl Spk Kys Opm Opb Opc Ope Oph Opn Opo Oqs Opx.
-/
import Derived.Shelf.Strings.Builder1
import Derived.Shelf.Strings.OnBuilder
import Derived.Shelf.Small.Utf8
import Derived.Shelf.Small.Bits
import Derived.Shelf.Small.Strs
import Derived.Shelf.Small.Wraps
import Derived.Shelf.Strconv.Itoa0
import Derived.Shelf.Strconv.Itoa1
import Derived.Shelf.Strconv.Itoa2
import Derived.Shelf.Strconv.Itoa3
import Derived.Ground.MpProg
import Derived.Shelf.Pu.ParseUintPublic10
import Derived.Shelf.Pu.ErrVarParseUint
import Derived.Shelf.Strings.Search1
import Derived.Shelf.Strings.Search2
import Derived.Shelf.Strings.Search3
import Derived.Shelf.Strings.Count
import Derived.Shelf.Strings.Prefix
import Derived.Shelf.Strings.Split
import Derived.Shelf.Strings.SplitShaped
import Derived.Shelf.Strings.Runes
import Derived.Shelf.Strings.IndexAny
import Derived.Shelf.Strings.AsciiSet
import Derived.Shelf.Strings.IndexAnyAll
import Derived.Shelf.Unicode.DecodeSlow
import Derived.Shelf.Slices.Equal
import Derived.Ground.Names2Prog
import Derived.Shelf.Slices.Clone
import Derived.Shelf.Slices.Empties2
import Derived.Ground.SlgnProg
import Derived.Shelf.SlicesE.Equal
import Derived.Shelf.SlicesE.Clone
import Derived.Ground.SlgfProg
import Derived.Shelf.SlicesE.IndexFunc
import Derived.Test.YtjoimhmhiophfaaGreatDoorProg
import Derived.Shelf.SlGeneric
import Derived.Shelf.SlicesQ.IndexFunc
import Derived.Shelf.SlSortCmp.InsertionK
import Derived.Ground.NamesProg
import Derived.Shelf.Lays
import Derived.Ground.SlgqProg
import Derived.Shelf.SlLaysQ
import Derived.Shelf.SlicesQ.Equal
import Derived.Test.YtjoimhmhiophfaaGreatDoorPa
import Derived.Lib.LaidTab
import Derived.RowKit
import Derived.Lib.ParseIntB
import Derived.Lib.ItoaNum
import Derived.Lib.ItoaMem
import Derived.Test.YtjoimhmhiophfaaGreatDoorPb
import Derived.Test.YtjoimhmhiophfaaGreatDoorPc
import Derived.Deep.CutRange
import Derived.Laws.StructEq
import Derived.Laws.Runes
namespace Go.Proofs
open Go.Shelf
open Go.RowKit Go.Lib in
theorem Tryz.strings_Index (s sub : ByteArray) (m : Int) (w : World) (hs : s.size < 4294967281) (hm : w.cell? ⟨0, 0, none⟩ = some (.int .i64 m)) :
    Calls Tryz.prog 89 #[.string s, .string sub] w fun e w' => e = .returned (.int .i64 (Lib.index s.data.toList sub.data.toList)) ∧ w' = w := Any.strings_Index Tryz.lays143 s sub m w hs hm
def Tryz.lays146_ren : Go.Shelf.Ren := ⟨fun | 146 => 51 | 221 => 90 | 268 => 135 | 138 => 136 | 143 => 89 | 195 => 173 | 197 => 88 | 218 => 174 | 219 => 134 | 260 => 133 | 217 => 169 | 225 => 170 | 224 => 171 | 267 => 172 | 266 => 199 | 314 => 200 | n => n, fun | 9 => 9 | 31 => 45 | 3 => 3 | 4 => 4 | 0 => 0 | 105 => 116 | 21 => 21 | 5 => 5 | 46 => 164 | 119 => 175 | 139 => 178 | 138 => 177 | 146 => 197 | 51 => 193 | n => n, fun | 1 => 0 | 3 => 1 | 4 => 2 | n => n⟩
theorem Tryz.lays146 : Go.Proofs.Lays.n146 Tryz.prog Tryz.lays146_ren := {
  mixed := by kernel_rfl
  f138 := Tryz.func136.trans (congrArg some (by kernel_rfl))
  f143 := Tryz.func89.trans (congrArg some (by kernel_rfl))
  f146 := Tryz.func51.trans (congrArg some (by kernel_rfl))
  f195 := Tryz.func173.trans (congrArg some (by kernel_rfl))
  f197 := Tryz.func88.trans (congrArg some (by kernel_rfl))
  f217 := Tryz.func169.trans (congrArg some (by kernel_rfl))
  f218 := Tryz.func174.trans (congrArg some (by kernel_rfl))
  f219 := Tryz.func134.trans (congrArg some (by kernel_rfl))
  f221 := Tryz.func90.trans (congrArg some (by kernel_rfl))
  f224 := Tryz.func171.trans (congrArg some (by kernel_rfl))
  f225 := Tryz.func170.trans (congrArg some (by kernel_rfl))
  f260 := Tryz.func133.trans (congrArg some (by kernel_rfl))
  f266 := Tryz.func199.trans (congrArg some (by kernel_rfl))
  f267 := Tryz.func172.trans (congrArg some (by kernel_rfl))
  f268 := Tryz.func135.trans (congrArg some (by kernel_rfl))
  f314 := Tryz.func200.trans (congrArg some (by kernel_rfl))
  t0 := Tryz.underlying0
  a0 := Tryz.isAgg0
  z0 := Tryz.sizeOf0
  v0 := Tryz.zeroValue0
  t3 := Tryz.underlying3
  a3 := Tryz.isAgg3
  z3 := Tryz.sizeOf3
  v3 := Tryz.zeroValue3
  t4 := Tryz.underlying4
  a4 := Tryz.isAgg4
  z4 := Tryz.sizeOf4
  v4 := Tryz.zeroValue4
  t5 := Tryz.underlying5
  a5 := Tryz.isAgg5
  z5 := Tryz.sizeOf5
  v5 := Tryz.zeroValue5
  t9 := Tryz.underlying9
  a9 := Tryz.isAgg9
  z9 := Tryz.sizeOf9
  v9 := Tryz.zeroValue9
  t21 := Tryz.underlying21
  a21 := Tryz.isAgg21
  z21 := Tryz.sizeOf21
  v21 := Tryz.zeroValue21
  t31 := Tryz.underlying45
  a31 := Tryz.isAgg45
  z31 := Tryz.sizeOf45
  v31 := Tryz.zeroValue45
  t46 := Tryz.underlying164
  a46 := Tryz.isAgg164
  z46 := Tryz.sizeOf164
  v46 := Tryz.zeroValue164
  t51 := Tryz.underlying193
  a51 := Tryz.isAgg193
  z51 := Tryz.sizeOf193
  v51 := Tryz.zeroValue193
  t105 := Tryz.underlying116
  a105 := Tryz.isAgg116
  z105 := Tryz.sizeOf116
  v105 := Tryz.zeroValue116
  t119 := Tryz.underlying175
  a119 := Tryz.isAgg175
  z119 := Tryz.sizeOf175
  t138 := Tryz.underlying177
  a138 := Tryz.isAgg177
  z138 := Tryz.sizeOf177
  v138 := Tryz.zeroValue177
  t139 := Tryz.underlying178
  a139 := Tryz.isAgg178
  z139 := Tryz.sizeOf178
  v139 := Tryz.zeroValue178
  t146 := Tryz.underlying197
  a146 := Tryz.isAgg197
  z146 := Tryz.sizeOf197
  v146 := Tryz.zeroValue197
  g1 := by kernel_rfl
  g3 := by kernel_rfl
  g4 := by kernel_rfl }
open Go.RowKit Go.Lib in
theorem Tryz.strings_Split (s sep : ByteArray) (m : Int) (w : World) (hs : s.size < 4294967281) (hm : w.cell? ⟨0, 0, none⟩ = some (.int .i64 m)) (h1 : 1 ≤ sep.size) :
    Calls Tryz.prog 51 #[.string s, .string sep] w fun e w' =>
      e = .returned (.slice (some ⟨w.heap.size, 0, none⟩) (Lib.countB s sep + 1) (Lib.countB s sep + 1)) ∧ w' = w.alloc (.cells ((Lib.splitB sep 0 (Lib.countB s sep) s).map Value.string).toArray 9) := Any.strings_Split Tryz.lays146 (by kernel_rfl) s sep m w hs hm h1
def Tryz.laysM171_ren : Go.Shelf.Ren := ⟨fun | 171 => 65 | 243 => 108 | 246 => 149 | 283 => 157 | 284 => 158 | 285 => 159 | 286 => 160 | 129 => 194 | 317 => 193 | 318 => 195 | 319 => 196 | 320 => 197 | 337 => 229 | 338 => 230 | n => n, fun | 3 => 3 | 9 => 9 | 2 => 2 | 4 => 4 | 171 => 168 | 0 => 0 | 53 => 39 | 37 => 76 | 5 => 5 | 173 => 171 | 212 => 192 | 51 => 193 | 20 => 20 | 213 => 194 | 46 => 164 | 232 => 236 | 233 => 237 | n => n, fun | 17 => 4 | 18 => 7 | 19 => 8 | n => n⟩
theorem Tryz.laysM171 : Go.Proofs.LaysM.n171 Tryz.prog Tryz.laysM171_ren := {
  mixed := by kernel_rfl
  f129 := Tryz.func194.trans (congrArg some (by kernel_rfl))
  f171 := Tryz.func65.trans (congrArg some (by kernel_rfl))
  f243 := Tryz.func108.trans (congrArg some (by kernel_rfl))
  f246 := Tryz.func149.trans (congrArg some (by kernel_rfl))
  f283 := Tryz.func157.trans (congrArg some (by kernel_rfl))
  f284 := Tryz.func158.trans (congrArg some (by kernel_rfl))
  f285 := Tryz.func159.trans (congrArg some (by kernel_rfl))
  f286 := Tryz.func160.trans (congrArg some (by kernel_rfl))
  f317 := Tryz.func193.trans (congrArg some (by kernel_rfl))
  f318 := Tryz.func195.trans (congrArg some (by kernel_rfl))
  f319 := Tryz.func196.trans (congrArg some (by kernel_rfl))
  f320 := Tryz.func197.trans (congrArg some (by kernel_rfl))
  f337 := Tryz.func229.trans (congrArg some (by kernel_rfl))
  f338 := Tryz.func230.trans (congrArg some (by kernel_rfl))
  t0 := Tryz.underlying0
  a0 := Tryz.isAgg0
  z0 := Tryz.sizeOf0
  v0 := Tryz.zeroValue0
  t2 := Tryz.underlying2
  a2 := Tryz.isAgg2
  z2 := Tryz.sizeOf2
  v2 := Tryz.zeroValue2
  t3 := Tryz.underlying3
  a3 := Tryz.isAgg3
  z3 := Tryz.sizeOf3
  v3 := Tryz.zeroValue3
  t4 := Tryz.underlying4
  a4 := Tryz.isAgg4
  z4 := Tryz.sizeOf4
  v4 := Tryz.zeroValue4
  t5 := Tryz.underlying5
  a5 := Tryz.isAgg5
  z5 := Tryz.sizeOf5
  v5 := Tryz.zeroValue5
  t9 := Tryz.underlying9
  a9 := Tryz.isAgg9
  z9 := Tryz.sizeOf9
  v9 := Tryz.zeroValue9
  t20 := Tryz.underlying20
  a20 := Tryz.isAgg20
  z20 := Tryz.sizeOf20
  v20 := Tryz.zeroValue20
  t37 := Tryz.underlying76
  a37 := Tryz.isAgg76
  z37 := Tryz.sizeOf76
  v37 := Tryz.zeroValue76
  t46 := Tryz.underlying164
  a46 := Tryz.isAgg164
  z46 := Tryz.sizeOf164
  v46 := Tryz.zeroValue164
  t51 := Tryz.underlying193
  a51 := Tryz.isAgg193
  z51 := Tryz.sizeOf193
  v51 := Tryz.zeroValue193
  t53 := Tryz.underlying39
  a53 := Tryz.isAgg39
  z53 := Tryz.sizeOf39
  v53 := Tryz.zeroValue39
  t171 := Tryz.underlying168
  a171 := Tryz.isAgg168
  z171 := Tryz.sizeOf168
  v171 := Tryz.zeroValue168
  t173 := Tryz.underlying171
  a173 := Tryz.isAgg171
  z173 := Tryz.sizeOf171
  v173 := Tryz.zeroValue171
  t212 := Tryz.underlying192
  a212 := Tryz.isAgg192
  z212 := Tryz.sizeOf192
  v212 := Tryz.zeroValue192
  t213 := Tryz.underlying194
  a213 := Tryz.isAgg194
  z213 := Tryz.sizeOf194
  t232 := Tryz.underlying236
  a232 := Tryz.isAgg236
  z232 := Tryz.sizeOf236
  v232 := Tryz.zeroValue236
  t233 := Tryz.underlying237
  a233 := Tryz.isAgg237
  z233 := Tryz.sizeOf237
  v233 := Tryz.zeroValue237
  g17 := by kernel_rfl
  g18 := by kernel_rfl
  g19 := by kernel_rfl
  i0 := by kernel_rfl
  i2 := by kernel_rfl
  i3 := by kernel_rfl
  i4 := by kernel_rfl
  i5 := by kernel_rfl
  i9 := by kernel_rfl
  i20 := by kernel_rfl
  i37 := by kernel_rfl
  i46 := by kernel_rfl
  i51 := by kernel_rfl
  i53 := by kernel_rfl
  i171 := by kernel_rfl
  i173 := by kernel_rfl
  i212 := by kernel_rfl
  i232 := by kernel_rfl
  i233 := by kernel_rfl
  m17 := by kernel_rfl
  m18 := by kernel_rfl
  m19 := by kernel_rfl }
open Go.RowKit Go.Sort Go.Lib in
theorem Tryz.strconv_Itoa (n : Int) (h0 : -9223372036854775808 ≤ n) (h1 : n ≤ 9223372036854775807) (w : World) (htab : Lib.TabIs Tryz.prog w "internal/strconv.uint64pow10" .u64 Lib.pow10Tab) :
    Calls Tryz.prog 65 #[.int .i64 n] w fun e w' => e = .returned (.string ⟨(Lib.itoa n).toArray⟩) ∧ ∃ k os, w' = grow (w.drewN k) os := Any.strconv_Itoa Tryz.laysM171 n h0 h1 w htab
def Tryz.lays283_ren : Go.Shelf.Ren := ⟨fun | 283 => 157 | n => n, fun | 3 => 3 | 9 => 9 | 4 => 4 | n => n, fun | n => n⟩
theorem Tryz.lays283 : Go.Proofs.Lays.n283 Tryz.prog Tryz.lays283_ren := {
  mixed := by kernel_rfl
  f283 := Tryz.func157.trans (congrArg some (by kernel_rfl))
  t3 := Tryz.underlying3
  a3 := Tryz.isAgg3
  z3 := Tryz.sizeOf3
  v3 := Tryz.zeroValue3
  t4 := Tryz.underlying4
  a4 := Tryz.isAgg4
  z4 := Tryz.sizeOf4
  v4 := Tryz.zeroValue4
  t9 := Tryz.underlying9
  a9 := Tryz.isAgg9
  z9 := Tryz.sizeOf9
  v9 := Tryz.zeroValue9 }
open Go.Lib in
theorem Tryz.internal_strconv_small (i : Nat) (h : i < 100) (w : World) :
    Calls Tryz.prog 157 #[.int .i64 i] w fun e w' => e = .returned (.string ⟨(Lib.decDigits i).toArray⟩) ∧ w' = w := Any.internal_strconv_small Tryz.lays283 i h w
def Tryz.laysM284_ren : Go.Shelf.Ren := ⟨fun | 284 => 158 | 129 => 194 | 317 => 193 | 318 => 195 | n => n, fun | 53 => 39 | 3 => 3 | 212 => 192 | 0 => 0 | 4 => 4 | 46 => 164 | 5 => 5 | 9 => 9 | n => n, fun | 17 => 4 | n => n⟩
theorem Tryz.laysM284 : Go.Proofs.LaysM.n284 Tryz.prog Tryz.laysM284_ren := {
  mixed := by kernel_rfl
  f129 := Tryz.func194.trans (congrArg some (by kernel_rfl))
  f284 := Tryz.func158.trans (congrArg some (by kernel_rfl))
  f317 := Tryz.func193.trans (congrArg some (by kernel_rfl))
  f318 := Tryz.func195.trans (congrArg some (by kernel_rfl))
  t0 := Tryz.underlying0
  a0 := Tryz.isAgg0
  z0 := Tryz.sizeOf0
  v0 := Tryz.zeroValue0
  t3 := Tryz.underlying3
  a3 := Tryz.isAgg3
  z3 := Tryz.sizeOf3
  v3 := Tryz.zeroValue3
  t4 := Tryz.underlying4
  a4 := Tryz.isAgg4
  z4 := Tryz.sizeOf4
  v4 := Tryz.zeroValue4
  t5 := Tryz.underlying5
  a5 := Tryz.isAgg5
  z5 := Tryz.sizeOf5
  v5 := Tryz.zeroValue5
  t9 := Tryz.underlying9
  a9 := Tryz.isAgg9
  z9 := Tryz.sizeOf9
  v9 := Tryz.zeroValue9
  t46 := Tryz.underlying164
  a46 := Tryz.isAgg164
  z46 := Tryz.sizeOf164
  v46 := Tryz.zeroValue164
  t53 := Tryz.underlying39
  a53 := Tryz.isAgg39
  z53 := Tryz.sizeOf39
  v53 := Tryz.zeroValue39
  t212 := Tryz.underlying192
  a212 := Tryz.isAgg192
  z212 := Tryz.sizeOf192
  v212 := Tryz.zeroValue192
  g17 := by kernel_rfl
  i0 := by kernel_rfl
  i3 := by kernel_rfl
  i4 := by kernel_rfl
  i5 := by kernel_rfl
  i9 := by kernel_rfl
  i46 := by kernel_rfl
  i53 := by kernel_rfl
  i212 := by kernel_rfl
  m17 := by kernel_rfl }
open Go.Lib in
theorem Tryz.internal_strconv_numDigits (u : Nat) (h1 : 1 ≤ u) (h2 : u < 18446744073709551616) (w : World) (htab : Lib.TabIs Tryz.prog w "internal/strconv.uint64pow10" .u64 Lib.pow10Tab) :
    Calls Tryz.prog 158 #[.int .u64 u] w fun e w' => e = .returned (.int .i64 (Lib.nDigits u)) ∧ w' = w := Any.internal_strconv_numDigits Tryz.laysM284 u h1 h2 w htab
def Tryz.lays285_ren : Go.Shelf.Ren := ⟨fun | 285 => 159 | n => n, fun | 37 => 76 | 53 => 39 | 3 => 3 | 4 => 4 | 51 => 193 | 9 => 9 | 5 => 5 | 0 => 0 | n => n, fun | n => n⟩
theorem Tryz.lays285 : Go.Proofs.Lays.n285 Tryz.prog Tryz.lays285_ren := {
  mixed := by kernel_rfl
  f285 := Tryz.func159.trans (congrArg some (by kernel_rfl))
  t0 := Tryz.underlying0
  a0 := Tryz.isAgg0
  z0 := Tryz.sizeOf0
  v0 := Tryz.zeroValue0
  t3 := Tryz.underlying3
  a3 := Tryz.isAgg3
  z3 := Tryz.sizeOf3
  v3 := Tryz.zeroValue3
  t4 := Tryz.underlying4
  a4 := Tryz.isAgg4
  z4 := Tryz.sizeOf4
  v4 := Tryz.zeroValue4
  t5 := Tryz.underlying5
  a5 := Tryz.isAgg5
  z5 := Tryz.sizeOf5
  v5 := Tryz.zeroValue5
  t9 := Tryz.underlying9
  a9 := Tryz.isAgg9
  z9 := Tryz.sizeOf9
  v9 := Tryz.zeroValue9
  t37 := Tryz.underlying76
  a37 := Tryz.isAgg76
  z37 := Tryz.sizeOf76
  v37 := Tryz.zeroValue76
  t51 := Tryz.underlying193
  a51 := Tryz.isAgg193
  z51 := Tryz.sizeOf193
  v51 := Tryz.zeroValue193
  t53 := Tryz.underlying39
  a53 := Tryz.isAgg39
  z53 := Tryz.sizeOf39
  v53 := Tryz.zeroValue39 }
open Go.RowKit Go.Sort Go.Lib in
theorem Tryz.internal_strconv_formatBase10 (blk off cap : Nat) (u : Nat) (d : Array UInt8) (w : World) (hH : Holds (fun (b : UInt8) => Value.int .u8 (b.toNat : Int)) w blk off d) (hu : u < 10 ^ d.size) (hu64 : u < 18446744073709551616) (hsz : d.size < 4611686018427387904) :
    Calls Tryz.prog 159 #[.slice (some ⟨blk, off, none⟩) d.size cap, .int .u64 u] w fun e w' =>
      e = .returned (.tuple #[]) ∧ ∃ (n v' : Nat) (dk : Array UInt8), w' = (putRow (fun (b : UInt8) => Value.int .u8 (b.toNat : Int)) w blk off dk).drewN n ∧ FmtInv d.size u 0 v' dk := Any.internal_strconv_formatBase10 Tryz.lays285 blk off cap u d w hH hu hu64 hsz
def Tryz.laysPu14_ren : Go.Shelf.Ren := ⟨fun | 14 => 143 | 16 => 182 | 17 => 183 | 19 => 211 | 20 => 212 | 21 => 213 | 22 => 214 | 23 => 215 | 24 => 216 | 25 => 233 | 27 => 65 | 26 => 234 | 28 => 108 | 29 => 149 | 30 => 157 | 31 => 158 | 32 => 159 | 33 => 160 | 35 => 194 | 34 => 193 | 36 => 195 | 37 => 196 | 38 => 197 | 39 => 229 | 40 => 230 | n => n, fun | 9 => 9 | 3 => 3 | 22 => 39 | 24 => 81 | 25 => 159 | 4 => 4 | 34 => 210 | 5 => 5 | 36 => 164 | 37 => 76 | 0 => 0 | 39 => 211 | 21 => 21 | 44 => 228 | 47 => 107 | 50 => 242 | 48 => 240 | 2 => 2 | 52 => 168 | 55 => 171 | 59 => 192 | 60 => 193 | 20 => 20 | 61 => 194 | 65 => 236 | 66 => 237 | 67 => 84 | n => n, fun | 0 => 5 | 1 => 6 | 2 => 4 | 3 => 7 | 4 => 8 | n => n⟩
theorem Tryz.laysPu14 : Go.Proofs.LaysPu.n14 Tryz.prog Tryz.laysPu14_ren := {
  mixed := by kernel_rfl
  f14 := Tryz.func143.trans (congrArg some (by kernel_rfl))
  f16 := Tryz.func182.trans (congrArg some (by kernel_rfl))
  f17 := Tryz.func183.trans (congrArg some (by kernel_rfl))
  f19 := Tryz.func211.trans (congrArg some (by kernel_rfl))
  f20 := Tryz.func212.trans (congrArg some (by kernel_rfl))
  f21 := Tryz.func213.trans (congrArg some (by kernel_rfl))
  f22 := Tryz.func214.trans (congrArg some (by kernel_rfl))
  f23 := Tryz.func215.trans (congrArg some (by kernel_rfl))
  f24 := Tryz.func216.trans (congrArg some (by kernel_rfl))
  f25 := Tryz.func233.trans (congrArg some (by kernel_rfl))
  f26 := Tryz.func234.trans (congrArg some (by kernel_rfl))
  f27 := Tryz.func65.trans (congrArg some (by kernel_rfl))
  f28 := Tryz.func108.trans (congrArg some (by kernel_rfl))
  f29 := Tryz.func149.trans (congrArg some (by kernel_rfl))
  f30 := Tryz.func157.trans (congrArg some (by kernel_rfl))
  f31 := Tryz.func158.trans (congrArg some (by kernel_rfl))
  f32 := Tryz.func159.trans (congrArg some (by kernel_rfl))
  f33 := Tryz.func160.trans (congrArg some (by kernel_rfl))
  f34 := Tryz.func193.trans (congrArg some (by kernel_rfl))
  f35 := Tryz.func194.trans (congrArg some (by kernel_rfl))
  f36 := Tryz.func195.trans (congrArg some (by kernel_rfl))
  f37 := Tryz.func196.trans (congrArg some (by kernel_rfl))
  f38 := Tryz.func197.trans (congrArg some (by kernel_rfl))
  f39 := Tryz.func229.trans (congrArg some (by kernel_rfl))
  f40 := Tryz.func230.trans (congrArg some (by kernel_rfl))
  t0 := Tryz.underlying0
  a0 := Tryz.isAgg0
  z0 := Tryz.sizeOf0
  v0 := Tryz.zeroValue0
  i0 := by kernel_rfl
  t2 := Tryz.underlying2
  a2 := Tryz.isAgg2
  z2 := Tryz.sizeOf2
  v2 := Tryz.zeroValue2
  i2 := by kernel_rfl
  t3 := Tryz.underlying3
  a3 := Tryz.isAgg3
  z3 := Tryz.sizeOf3
  v3 := Tryz.zeroValue3
  i3 := by kernel_rfl
  t4 := Tryz.underlying4
  a4 := Tryz.isAgg4
  z4 := Tryz.sizeOf4
  v4 := Tryz.zeroValue4
  i4 := by kernel_rfl
  t5 := Tryz.underlying5
  a5 := Tryz.isAgg5
  z5 := Tryz.sizeOf5
  v5 := Tryz.zeroValue5
  i5 := by kernel_rfl
  t9 := Tryz.underlying9
  a9 := Tryz.isAgg9
  z9 := Tryz.sizeOf9
  v9 := Tryz.zeroValue9
  i9 := by kernel_rfl
  t20 := Tryz.underlying20
  a20 := Tryz.isAgg20
  z20 := Tryz.sizeOf20
  v20 := Tryz.zeroValue20
  i20 := by kernel_rfl
  t21 := Tryz.underlying21
  a21 := Tryz.isAgg21
  z21 := Tryz.sizeOf21
  v21 := Tryz.zeroValue21
  i21 := by kernel_rfl
  t22 := Tryz.underlying39
  a22 := Tryz.isAgg39
  z22 := Tryz.sizeOf39
  v22 := Tryz.zeroValue39
  i22 := by kernel_rfl
  t24 := Tryz.underlying81
  a24 := Tryz.isAgg81
  z24 := Tryz.sizeOf81
  v24 := Tryz.zeroValue81
  i24 := by kernel_rfl
  t25 := Tryz.underlying159
  a25 := Tryz.isAgg159
  z25 := Tryz.sizeOf159
  v25 := Tryz.zeroValue159
  i25 := by kernel_rfl
  t34 := Tryz.underlying210
  a34 := Tryz.isAgg210
  z34 := Tryz.sizeOf210
  v34 := Tryz.zeroValue210
  i34 := by kernel_rfl
  c34 := by kernel_rfl
  t36 := Tryz.underlying164
  a36 := Tryz.isAgg164
  z36 := Tryz.sizeOf164
  v36 := Tryz.zeroValue164
  i36 := by kernel_rfl
  t37 := Tryz.underlying76
  a37 := Tryz.isAgg76
  z37 := Tryz.sizeOf76
  v37 := Tryz.zeroValue76
  i37 := by kernel_rfl
  t39 := Tryz.underlying211
  a39 := Tryz.isAgg211
  z39 := Tryz.sizeOf211
  v39 := Tryz.zeroValue211
  i39 := by kernel_rfl
  t44 := Tryz.underlying228
  a44 := Tryz.isAgg228
  z44 := Tryz.sizeOf228
  v44 := Tryz.zeroValue228
  i44 := by kernel_rfl
  t47 := Tryz.underlying107
  a47 := Tryz.isAgg107
  z47 := Tryz.sizeOf107
  v47 := Tryz.zeroValue107
  i47 := by kernel_rfl
  t48 := Tryz.underlying240
  a48 := Tryz.isAgg240
  z48 := Tryz.sizeOf240
  v48 := Tryz.zeroValue240
  i48 := by kernel_rfl
  t50 := Tryz.underlying242
  a50 := Tryz.isAgg242
  z50 := Tryz.sizeOf242
  v50 := Tryz.zeroValue242
  i50 := by kernel_rfl
  t52 := Tryz.underlying168
  a52 := Tryz.isAgg168
  z52 := Tryz.sizeOf168
  v52 := Tryz.zeroValue168
  i52 := by kernel_rfl
  t55 := Tryz.underlying171
  a55 := Tryz.isAgg171
  z55 := Tryz.sizeOf171
  v55 := Tryz.zeroValue171
  i55 := by kernel_rfl
  t59 := Tryz.underlying192
  a59 := Tryz.isAgg192
  z59 := Tryz.sizeOf192
  v59 := Tryz.zeroValue192
  i59 := by kernel_rfl
  t60 := Tryz.underlying193
  a60 := Tryz.isAgg193
  z60 := Tryz.sizeOf193
  v60 := Tryz.zeroValue193
  i60 := by kernel_rfl
  t61 := Tryz.underlying194
  a61 := Tryz.isAgg194
  z61 := Tryz.sizeOf194
  t65 := Tryz.underlying236
  a65 := Tryz.isAgg236
  z65 := Tryz.sizeOf236
  v65 := Tryz.zeroValue236
  i65 := by kernel_rfl
  t66 := Tryz.underlying237
  a66 := Tryz.isAgg237
  z66 := Tryz.sizeOf237
  v66 := Tryz.zeroValue237
  i66 := by kernel_rfl
  t67 := Tryz.underlying84
  a67 := Tryz.isAgg84
  z67 := Tryz.sizeOf84
  v67 := Tryz.zeroValue84
  i67 := by kernel_rfl
  g0 := by kernel_rfl
  m0 := by kernel_rfl
  g1 := by kernel_rfl
  m1 := by kernel_rfl
  g2 := by kernel_rfl
  m2 := by kernel_rfl
  g3 := by kernel_rfl
  m3 := by kernel_rfl
  g4 := by kernel_rfl
  m4 := by kernel_rfl }
open Go.RowKit in
theorem Tryz.strconv_ParseUint_10_at64_ok (s : ByteArray) (hmax : s.size ≤ 9223372036854775806) (u : Nat) (h : Lib.parseUintB 64 s.data.toList = .ok u) (w : World) :
    Calls Tryz.prog 143 #[.string s, .int .i64 10, .int .i64 64] w fun e w' => e = .returned (.tuple #[.int .u64 u, .nilIface]) ∧ (w' = w ∨ w' = Lib.bytesWorld w 5 s) := Any.strconv_ParseUint_10_at64_ok Tryz.laysPu14 s hmax u h w
open Go.RowKit in
theorem Tryz.strconv_ParseUint_10_at64_syntax (s : ByteArray) (hlim : s.size ≤ 281474976710656) (h : Lib.parseUintB 64 s.data.toList = .«syntax») (ev : Value) (w : World) (hv : w.cell? ⟨5, 0, none⟩ = some ev) (hev : ev = .nilIface ∨ ∃ te pe, ev = .iface te pe) :
    Calls Tryz.prog 143 #[.string s, .int .i64 10, .int .i64 64] w fun e w' => ∃ N, e = .returned (.tuple #[.int .u64 0, .iface 211 (.pointer (some ⟨N, 0, none⟩))]) ∧ w.heap.size ≤ N ∧ w'.heap[N]? = some (.cells #[.string ⟨#[80, 97, 114, 115, 101, 85, 105, 110, 116]⟩, .string s, ev] 228 (0, 0)) ∧ Below w.heap.size w w' := Any.strconv_ParseUint_10_at64_syntax Tryz.laysPu14 s hlim h ev w hv hev
open Go.RowKit in
theorem Tryz.strconv_ParseUint_10_at64_range (s : ByteArray) (hlim : s.size ≤ 281474976710656) (h : Lib.parseUintB 64 s.data.toList = .range) (ev : Value) (w : World) (hv : w.cell? ⟨6, 0, none⟩ = some ev) (hev : ev = .nilIface ∨ ∃ te pe, ev = .iface te pe) :
    Calls Tryz.prog 143 #[.string s, .int .i64 10, .int .i64 64] w fun e w' => ∃ N, e = .returned (.tuple #[.int .u64 18446744073709551615, .iface 211 (.pointer (some ⟨N, 0, none⟩))]) ∧ w.heap.size ≤ N ∧ w'.heap[N]? = some (.cells #[.string ⟨#[80, 97, 114, 115, 101, 85, 105, 110, 116]⟩, .string s, ev] 228 (0, 0)) ∧ Below w.heap.size w w' := Any.strconv_ParseUint_10_at64_range Tryz.laysPu14 s hlim h ev w hv hev
def Tryz.lays101_ren : Go.Shelf.Ren := ⟨fun | 101 => 93 | 208 => 137 | 206 => 86 | n => n, fun | 9 => 9 | 4 => 4 | 3 => 3 | n => n, fun | n => n⟩
theorem Tryz.lays101 : Go.Proofs.Lays.n101 Tryz.prog Tryz.lays101_ren := {
  mixed := by kernel_rfl
  f101 := Tryz.func93.trans (congrArg some (by kernel_rfl))
  f206 := Tryz.func86.trans (congrArg some (by kernel_rfl))
  f208 := Tryz.func137.trans (congrArg some (by kernel_rfl))
  t3 := Tryz.underlying3
  a3 := Tryz.isAgg3
  z3 := Tryz.sizeOf3
  v3 := Tryz.zeroValue3
  t4 := Tryz.underlying4
  a4 := Tryz.isAgg4
  z4 := Tryz.sizeOf4
  v4 := Tryz.zeroValue4
  t9 := Tryz.underlying9
  a9 := Tryz.isAgg9
  z9 := Tryz.sizeOf9
  v9 := Tryz.zeroValue9 }
open Go.RowKit Go.Lib in
theorem Tryz.strings_TrimPrefix (s p : ByteArray) (w : World) :
    Calls Tryz.prog 93 #[.string s, .string p] w fun e w' => e = .returned (.string ⟨(Lib.trimPrefix s.data.toList p.data.toList).toArray⟩) ∧ w' = w := Any.strings_TrimPrefix Tryz.lays101 s p w
def Tryz.eqEdt_ren : Go.Shelf.Ren := ⟨fun | 8 => 57 | n => n, fun | 22 => 37 | 24 => 49 | 4 => 4 | 3 => 3 | 0 => 0 | n => n, fun | n => n⟩
theorem Tryz.eqEdt : Go.Proofs.SlLaysQ.n8 Tryz.prog Tryz.eqEdt_ren := {
  mixed := by kernel_rfl
  f8 := ⟨Tryz.f57.name, by decide, Tryz.func57.trans (congrArg some (by kernel_rfl))⟩
  t0 := Tryz.underlying0
  a0 := Tryz.isAgg0
  z0 := Tryz.sizeOf0
  v0 := Tryz.zeroValue0
  t3 := Tryz.underlying3
  a3 := Tryz.isAgg3
  z3 := Tryz.sizeOf3
  v3 := Tryz.zeroValue3
  t4 := Tryz.underlying4
  a4 := Tryz.isAgg4
  z4 := Tryz.sizeOf4
  v4 := Tryz.zeroValue4
  t22 := Tryz.underlying37
  a22 := Tryz.isAgg37
  z22 := Tryz.sizeOf37
  v22 := Tryz.zeroValue37 }
end Go.Proofs

namespace Go.Proofs.YtjoimhmhiophfaaGreatDoor
open Go.RowKit Go.Lib
def ErrIn (g : Nat) (w : World) : Prop := ∃ ev, w.cell? ⟨g, 0, none⟩ = some ev ∧ (ev = .nilIface ∨ ∃ te pe, ev = .iface te pe)
theorem ErrIn.on {g : Nat} {w w' : World} (h : ErrIn g w) (hb : Below w.heap.size w w') : ErrIn g w' := by
  obtain ⟨ev, h1, h2⟩ := h
  have hlt : g < w.heap.size := by
    rcases Nat.lt_or_ge g w.heap.size with h | h
    · exact h
    · unfold World.cell? at h1
      simp only [Array.getElem?_eq_none h] at h1
      cases h1
  exact ⟨ev, (hb.cell (p := ⟨g, 0, none⟩) hlt).trans h1, h2⟩
theorem tab_on {w w' : World} {name : String} {k : IntKind} {zs : List Int} (h : TabIs Tryz.prog w name k zs) (hb : Below w.heap.size w w') : TabIs Tryz.prog w' name k zs := by
  unfold TabIs World.var? at *
  cases hg : Tryz.prog.globalNamed name with
  | none => simp [hg] at h
  | some g =>
    simp only [hg, Option.bind_some] at h ⊢
    have hlt : g < w.heap.size := by
      rcases Nat.lt_or_ge g w.heap.size with h' | h'
      · exact h'
      · rw [Array.getElem?_eq_none h'] at h; simp at h
    rw [hb.block g hlt]
    exact h
structure OpVars (w : World) : Prop where
  plain : PlainAt w
  max : ∃ m : Int, w.cell? ⟨0, 0, none⟩ = some (.int .i64 m)
  pow : TabIs Tryz.prog w "internal/strconv.uint64pow10" .u64 pow10Tab
  syn : ErrIn 5 w
  ran : ErrIn 6 w
theorem OpVars.on {w w' : World} (h : OpVars w) (hb : Below w.heap.size w w') : OpVars w' := by
  refine ⟨h.plain.on hb, ?_, tab_on h.pow hb, h.syn.on hb, h.ran.on hb⟩
  obtain ⟨m, hm⟩ := h.max
  have hlt : (0 : Nat) < w.heap.size := by
    rcases Nat.lt_or_ge (0 : Nat) w.heap.size with h | h
    · exact h
    · unfold World.cell? at hm
      simp only [Array.getElem?_eq_none h] at hm
      cases hm
  exact ⟨m, (hb.cell (p := ⟨0, 0, none⟩) hlt).trans hm⟩
end Go.Proofs.YtjoimhmhiophfaaGreatDoor

namespace Go.Proofs.YtjoimhmhiophfaaGreatDoor
def decL (n : Nat) : List UInt8 := if n < 10 then [UInt8.ofNat (48 + n)] else decL (n / 10) ++ [UInt8.ofNat (48 + n % 10)]
  termination_by n
  decreasing_by omega
theorem decL_one {n : Nat} (h : n < 10) : decL n = [UInt8.ofNat (48 + n % 10)] := by
  unfold decL; rw [if_pos h, Nat.mod_eq_of_lt h]
theorem decL_more {n : Nat} (h : ¬ n < 10) : decL n = decL (n / 10) ++ [UInt8.ofNat (48 + n % 10)] := by
  conv => lhs; unfold decL
  rw [if_neg h]
theorem digit_nat {d : Nat} (h : d < 10) : (UInt8.ofNat (48 + d)).toNat = 48 + d := by
  rw [UInt8.toNat_ofNat']; exact Nat.mod_eq_of_lt (by omega)
theorem decL_ne (n : Nat) : decL n ≠ [] := by
  by_cases h : n < 10
  · rw [decL_one h]; simp
  · rw [decL_more h]; simp
theorem decL_digit (n : Nat) : ∀ c ∈ decL n, 48 ≤ c.toNat ∧ c.toNat ≤ 57 := by
  induction n using Nat.strongRecOn with
  | ind n ih =>
    by_cases h : n < 10
    · rw [decL_one h]
      intro c hc
      rw [List.mem_singleton] at hc
      rw [hc, digit_nat (Nat.mod_lt _ (by omega))]
      omega
    · rw [decL_more h]
      intro c hc
      rcases List.mem_append.1 hc with hc | hc
      · exact ih (n / 10) (by omega) c hc
      · rw [List.mem_singleton] at hc
        rw [hc, digit_nat (Nat.mod_lt _ (by omega))]
        omega
theorem decL_head (n : Nat) (h0 : 0 < n) : (decL n).head? ≠ some 48 := by
  induction n using Nat.strongRecOn with
  | ind n ih =>
    by_cases h : n < 10
    · rw [decL_one h]
      intro e
      have e1 : UInt8.ofNat (48 + n % 10) = 48 := by simpa using e
      have e2 := congrArg UInt8.toNat e1
      rw [digit_nat (Nat.mod_lt _ (by omega))] at e2
      have e3 : (48 : UInt8).toNat = 48 := rfl
      omega
    · rw [decL_more h]
      have hi := ih (n / 10) (by omega) (by omega)
      cases hd : decL (n / 10) with
      | nil => exact absurd hd (decL_ne _)
      | cons x r => rw [hd] at hi; simpa using hi
theorem decL_len (n k : Nat) (h : n < 10 ^ (k + 1)) : (decL n).length ≤ k + 1 := by
  induction k generalizing n with
  | zero => rw [decL_one (by simpa using h)]; simp
  | succ k ih =>
    by_cases h1 : n < 10
    · rw [decL_one h1]; simp
    · rw [decL_more h1, List.length_append]
      have := ih (n / 10) (by rw [Nat.pow_succ] at h; omega)
      simp only [List.length_cons, List.length_nil]
      omega
def numC (most : Nat) (n : Nat) (c : UInt8) : Option Nat :=
  if c.toNat < 48 ∨ 57 < c.toNat then none
  else if most < c.toNat - 48 ∨ (most - (c.toNat - 48)) / 10 < n then none
  else some (n * 10 + (c.toNat - 48))
def numA (most : Nat) : Nat → List UInt8 → Option Nat
  | n, [] => some n
  | n, c :: l => (numC most n c).bind fun m => numA most m l
def numL (most : Nat) (l : List UInt8) : Option Nat :=
  if l = [] then none else if 1 < l.length ∧ l.head? = some 48 then none else numA most 0 l
theorem numA_append (most : Nat) (a b : List UInt8) (n : Nat) : numA most n (a ++ b) = (numA most n a).bind fun m => numA most m b := by
  induction a generalizing n with
  | nil => rfl
  | cons c a ih =>
    simp only [List.cons_append, numA]
    cases numC most n c with
    | none => rfl
    | some m => simp only [Option.bind_some]; exact ih m
theorem numA_dec (most n : Nat) (h : n ≤ most) : numA most 0 (decL n) = some n := by
  induction n using Nat.strongRecOn with
  | ind n ih =>
    have hd := digit_nat (Nat.mod_lt n (by omega : 0 < 10))
    by_cases h1 : n < 10
    · rw [decL_one h1]
      simp only [numA, numC, hd]
      rw [if_neg (by omega), if_neg (by omega)]
      simp only [Option.bind_some]
      congr 1; omega
    · rw [decL_more h1, numA_append, ih (n / 10) (by omega) (by omega)]
      simp only [Option.bind_some, numA, numC, hd]
      rw [if_neg (by omega), if_neg (by omega)]
      simp only [Option.bind_some]
      congr 1; omega
theorem num_dec {most n : Nat} (h : n ≤ most) : numL most (decL n) = some n := by
  unfold numL
  rw [if_neg (decL_ne n), if_neg, numA_dec most n h]
  rintro ⟨h1, h2⟩
  by_cases h0 : 0 < n
  · exact decL_head n h0 h2
  · rw [decL_one (by omega)] at h1; simp at h1
theorem numA_le {most n : Nat} : ∀ {l : List UInt8} {m : Nat}, n ≤ most → numA most n l = some m → m ≤ most := by
  intro l
  induction l generalizing n with
  | nil => intro m h e; simp only [numA, Option.some.injEq] at e; omega
  | cons c l ih =>
    intro m h e
    simp only [numA] at e
    cases hc : numC most n c with
    | none => rw [hc] at e; cases e
    | some k =>
      rw [hc] at e
      refine ih ?_ e
      unfold numC at hc
      split at hc
      · cases hc
      · split at hc
        · cases hc
        · simp only [Option.some.injEq] at hc; omega
theorem numL_le {most : Nat} {l : List UInt8} {m : Nat} (e : numL most l = some m) : m ≤ most := by
  unfold numL at e
  split at e
  · cases e
  · split at e
    · cases e
    · exact numA_le (Nat.zero_le _) e
theorem decL_noblank (n : Nat) : (32 : UInt8) ∉ decL n := fun h => by
  have := (decL_digit n 32 h).1
  revert this; decide
end Go.Proofs.YtjoimhmhiophfaaGreatDoor

namespace Go.Proofs.YtjoimhmhiophfaaGreatDoor
open Go.Lib
theorem dec_lib (n : Nat) : decDigits n = decL n := by
  induction n using Nat.strongRecOn with
  | ind n ih =>
    by_cases h : n < 10
    · rw [decL, if_pos h, decDigits, dif_pos h]
    · rw [decL, if_neg h, decDigits, dif_neg h, ih (n / 10) (by omega)]
theorem parseM_append (M : Nat) (b : List UInt8) : ∀ (a : List UInt8) (acc m : Nat), parseUintM M acc a = .ok m → parseUintM M acc (a ++ b) = parseUintM M m b := by
  intro a
  induction a with
  | nil => intro acc m h; simp only [parseUintM, NumEnd.ok.injEq] at h; subst h; rfl
  | cons c a ih =>
    intro acc m h
    rw [parseUintM] at h
    rw [List.cons_append, parseUintM]
    split at h
    · rename_i h1
      rw [if_pos h1]
      split at h
      · cases h
      · rename_i h2
        rw [if_neg h2]
        split at h
        · cases h
        · rename_i h3
          rw [if_neg h3]
          exact ih _ _ h
    · cases h
theorem parseM_dec (n : Nat) (h : n ≤ 18446744073709551615) : parseUintM 18446744073709551615 0 (decL n) = .ok n := by
  induction n using Nat.strongRecOn with
  | ind n ih =>
    have hd := digit_nat (Nat.mod_lt n (by omega : 0 < 10))
    by_cases h1 : n < 10
    · rw [decL_one h1]
      simp only [parseUintM, hd]
      rw [if_pos (by omega), if_neg (by omega), if_neg (by omega)]
      congr 1; omega
    · rw [decL_more h1, parseM_append _ _ _ _ _ (ih (n / 10) (by omega) (by omega))]
      simp only [parseUintM, hd]
      rw [if_pos (by omega), if_neg (by omega), if_neg (by omega)]
      congr 1; omega
theorem parseB_dec (n : Nat) (h : n ≤ 18446744073709551615) : parseUintB 64 (decL n) = .ok n := by
  unfold parseUintB
  rw [if_neg (decL_ne n)]
  exact parseM_dec n h
theorem numC_is {most n m : Nat} {c : UInt8} (h : numC most n c = some m) : 48 ≤ c.toNat ∧ c.toNat ≤ 57 ∧ m = n * 10 + (c.toNat - 48) := by
  unfold numC at h
  split at h
  · cases h
  · split at h
    · cases h
    · simp only [Option.some.injEq] at h; omega
theorem byte_digit {c : UInt8} (h1 : 48 ≤ c.toNat) : UInt8.ofNat (48 + (c.toNat - 48)) = c := by
  rw [Nat.add_sub_cancel' h1]; simp
theorem decL_zero : decL 0 = [48] := by rw [decL_one (by omega)]; rfl
theorem numA_back (most : Nat) : ∀ (k : Nat) (l : List UInt8), l.length = k + 1 → ¬ (1 < l.length ∧ l.head? = some 48) → ∀ n, numA most 0 l = some n → decL n = l := by
  intro k
  induction k with
  | zero =>
    intro l hl h n hn
    match l, hl with
    | [c], _ =>
      simp only [numA] at hn
      cases hc : numC most 0 c with
      | none => rw [hc] at hn; cases hn
      | some m =>
        rw [hc] at hn
        simp only [Option.bind_some, Option.some.injEq] at hn
        obtain ⟨h1, h2, h3⟩ := numC_is hc
        subst hn
        rw [decL, if_pos (by omega)]
        have : m = c.toNat - 48 := by omega
        rw [this, byte_digit h1]
  | succ k ih =>
    intro l hl h n hn
    have hne : l ≠ [] := by intro e; rw [e] at hl; simp at hl
    obtain ⟨a, c, rfl⟩ : ∃ a c, l = a ++ [c] := ⟨l.dropLast, l.getLast hne, (List.dropLast_concat_getLast hne).symm⟩
    have hla : a.length = k + 1 := by simpa using hl
    have hda : a.head? ≠ some 48 := fun e => h ⟨by simp; omega, by
      cases a with
      | nil => simp at hla
      | cons x a => simpa using e⟩
    rw [numA_append] at hn
    cases ha : numA most 0 a with
    | none => rw [ha] at hn; cases hn
    | some m =>
      rw [ha] at hn
      have e1 := ih a hla (fun e => hda e.2) m ha
      simp only [Option.bind_some, numA] at hn
      cases hc : numC most m c with
      | none => rw [hc] at hn; cases hn
      | some q =>
        rw [hc] at hn
        simp only [Option.bind_some, Option.some.injEq] at hn
        subst hn
        obtain ⟨h1, h2, h3⟩ := numC_is hc
        have hm : 0 < m := by
          apply Nat.pos_of_ne_zero
          intro e0
          rw [e0, decL_zero] at e1
          exact hda (by rw [← e1]; rfl)
        rw [decL_more (by omega)]
        have eq1 : q / 10 = m := by omega
        have eq2 : q % 10 = c.toNat - 48 := by omega
        rw [eq1, eq2, e1, byte_digit h1]
theorem num_back {most n : Nat} {l : List UInt8} (h : numL most l = some n) : decL n = l := by
  unfold numL at h
  split at h
  · cases h
  · rename_i h0
    split at h
    · cases h
    · rename_i h1
      cases l with
      | nil => exact absurd rfl h0
      | cons c l => exact numA_back most l.length _ (by simp) h1 n h
def wholeL (l : List UInt8) : Option Nat := match parseUintB 64 l with
  | .ok u => if decDigits u = l then some u else none
  | _ => none
theorem parseM_le (M : Nat) : ∀ (l : List UInt8) (acc u : Nat), acc ≤ M → parseUintM M acc l = .ok u → u ≤ M := by
  intro l
  induction l with
  | nil => intro acc u h e; simp only [parseUintM, NumEnd.ok.injEq] at e; omega
  | cons c l ih =>
    intro acc u h e
    rw [parseUintM] at e
    split at e
    · split at e
      · cases e
      · split at e
        · cases e
        · exact ih _ _ (by omega) e
    · cases e
theorem parseB_le {l : List UInt8} {u : Nat} (h : parseUintB 64 l = .ok u) : u ≤ 18446744073709551615 := by
  unfold parseUintB at h
  split at h
  · cases h
  · exact parseM_le _ _ _ _ (by omega) h
theorem whole_num (l : List UInt8) : wholeL l = numL 18446744073709551615 l := by
  unfold wholeL
  cases hp : parseUintB 64 l with
  | ok u =>
    simp only
    have hu := parseB_le hp
    by_cases hd : decDigits u = l
    · rw [if_pos hd]
      rw [dec_lib] at hd
      rw [← hd, num_dec hu]
    · rw [if_neg hd]
      cases hn : numL 18446744073709551615 l with
      | none => rfl
      | some n =>
        exfalso
        have e := num_back hn
        have e2 := parseB_dec n (numL_le hn)
        rw [e, hp] at e2
        simp only [NumEnd.ok.injEq] at e2
        exact hd (by rw [dec_lib, e2, e])
  | _ =>
    simp only
    cases hn : numL 18446744073709551615 l with
    | none => rfl
    | some n =>
      exfalso
      have e2 := parseB_dec n (numL_le hn)
      rw [num_back hn, hp] at e2
      cases e2
theorem num_most {most : Nat} (hm : most ≤ 18446744073709551615) (l : List UInt8) :
    numL most l = (numL 18446744073709551615 l).bind fun n => if n ≤ most then some n else none := by
  cases hn : numL most l with
  | none =>
    cases hb : numL 18446744073709551615 l with
    | none => rfl
    | some n =>
      simp only [Option.bind_some]
      by_cases h : n ≤ most
      · exfalso
        have := num_dec h
        rw [num_back hb, hn] at this
        cases this
      · rw [if_neg h]
  | some n =>
    have h := numL_le hn
    have := num_dec (most := 18446744073709551615) (n := n) (by omega)
    rw [num_back hn] at this
    rw [this, Option.bind_some, if_pos h]
end Go.Proofs.YtjoimhmhiophfaaGreatDoor

namespace Go.Proofs.YtjoimhmhiophfaaGreatDoor
open Go.RowKit Go.Lib Go.Sort
theorem holds_zero0 (w : World) (T : TypeId) (nd : Nat) (hs : nd ≤ 24) : Holds (fun (b : UInt8) => Value.int .u8 (b.toNat : Int)) (w.alloc (.cells zeros24 T)) w.heap.size 0 (Array.replicate nd (0 : UInt8)) := fun j hj => by
  have hj' : j < nd := by simpa using hj
  refine ⟨?_, World.frozen?_alloc_new _ _ _ _⟩
  rw [World.cell?_alloc_new, zeros24_at _ (by omega), getElem!_pos _ j hj]
  simp
set_option maxHeartbeats 6400000 in
set_option maxRecDepth 100000 in
theorem fmtu_in (u : Nat) (h1 : u ≤ 18446744073709551615) (w : World) (htab : TabIs Tryz.prog w "internal/strconv.uint64pow10" .u64 pow10Tab) :
    Calls Tryz.prog 113 #[.int .u64 u, .int .i64 10] w fun e w' => e = .returned (.string ⟨(decDigits u).toArray⟩) ∧ Below w.heap.size w w' := by
  by_cases hs : u < 100
  · have hc : IntKind.i64.wrap (u : Int) = (u : Int) := by rw [IntKind.wrap_i64]; omega
    have hlt : (u : Int) < 100 := by omega
    go_enter Tryz.func113, Tryz.ntmps113
    go_wp2_with (go_at_call 157; refine (Tryz.internal_strconv_small u hs _).mono ?_; rintro e w' ⟨rfl, rfl⟩)
    go_ret
    exact ⟨rfl, Below.refl _ _⟩
  · have hlt : ¬ (u : Int) < 100 := by omega
    have hu1 : 1 ≤ u := by omega
    have hu64 : u < 18446744073709551616 := by omega
    have hnd20 : nDigits u ≤ 20 := by have := numDigits_eq u hu1 hu64; split at this <;> omega
    have hb3 : nDigits u ≤ 24 := by omega
    have hal : Tryz.prog.arrayLen 168 = 24 := by kernel_rfl
    have hsl1 : ∀ W, (Instr.sliceAt 168 (.pointer (some ⟨w.heap.size, 0, none⟩)) none (some (.int .i64 (nDigits u : Int))) none).run Tryz.prog W = .ok (.slice (some ⟨w.heap.size, 0, none⟩) (nDigits u) 24) W := fun W => by
      rw [run_sliceAt_array_h W 168 ⟨w.heap.size, 0, none⟩ (by kernel_rfl) .i64 (nDigits u : Int) (by omega) (by rw [hal]; omega)]
      go_simp
    have hH0 := holds_zero0 w 168 (nDigits u) (by omega)
    have hfmt := Tryz.internal_strconv_formatBase10 w.heap.size 0 24 u (Array.replicate (nDigits u) 0) (w.alloc (.cells zeros24 168)) hH0 (by rw [Array.size_replicate]; exact lt_pow_nDigits u) hu64 (by rw [Array.size_replicate]; omega)
    rw [Array.size_replicate] at hfmt
    have HH0 := hid hH0
    clear hH0 hal
    go_enter Tryz.func113, Tryz.ntmps113
    go_wp2_with (go_at_call 158; refine (Tryz.internal_strconv_numDigits u hu1 hu64 _ (tabIs_alloc htab _)).mono ?_; rintro e w' ⟨rfl, rfl⟩)
    go_at_call 159
    refine hfmt.mono ?_
    rintro e w' ⟨rfl, k, v', dk, rfl, hF⟩
    have hcv : (convert 76 9 (.slice (some ⟨w.heap.size, 0, none⟩) (nDigits u) 24)).run Tryz.prog ((putRow (fun (b : UInt8) => Value.int .u8 (b.toNat : Int)) (w.alloc (.cells zeros24 168)) w.heap.size 0 dk).drewN k) = .ok (.string ⟨(decDigits u).toArray⟩) ((putRow (fun (b : UInt8) => Value.int .u8 (b.toNat : Int)) (w.alloc (.cells zeros24 168)) w.heap.size 0 dk).drewN k) := by
      have h := run_convert_bytes_back (P := Tryz.prog) ((putRow (fun (b : UInt8) => Value.int .u8 (b.toNat : Int)) (w.alloc (.cells zeros24 168)) w.heap.size 0 dk).drewN k) 76 9 5 ⟨w.heap.size, 0, none⟩ 24 (decDigits u) Tryz.underlying76 Tryz.underlying5 Tryz.underlying9 (fun j hj => by
        rw [row_is_numeral hF j hj, add_plain, World.cell?_drewN]
        exact cell?_putRow (fun (b : UInt8) => Value.int .u8 (b.toNat : Int)) _ w.heap.size 0 _ dk HH0.out (by rw [hF.size, Array.size_replicate]) j (by rw [hF.size]; rw [decDigits_length] at hj; exact hj))
      rw [decDigits_length] at h
      exact h
    go_wp2
    go_ret
    refine ⟨rfl, ?_⟩
    obtain ⟨os, eo⟩ : ∃ os, (putRow (fun (b : UInt8) => Value.int .u8 (b.toNat : Int)) (w.alloc (.cells zeros24 168)) w.heap.size 0 dk).drewN k = grow (w.drewN k) os := by
      rw [alloc_eq_grow]
      obtain ⟨os', _, e⟩ := putRow_grow_new (fun (b : UInt8) => Value.int .u8 (b.toNat : Int)) w #[.cells zeros24 168] w.heap.size 0 dk (Nat.le_refl _)
      exact ⟨os', by rw [e]; rfl⟩
    rw [eo]
    exact ((Grown.refl w).on (q := k) (os := os)).below
theorem fmtu_any (u : Nat) (h1 : u ≤ 18446744073709551615) (w : World) (hv : OpVars w) :
    Calls Tryz.prog 69 #[.int .u64 u, .int .i64 10] w fun e w' => e = .returned (.string ⟨(decL u).toArray⟩) ∧ Below w.heap.size w w' := by
  go_enter Tryz.func69, Tryz.ntmps69
  go_wp2_with (go_at_call 113; refine (fmtu_in u h1 _ hv.pow).mono ?_; rintro e w1 ⟨rfl, hb⟩)
  go_ret
  exact ⟨by rw [dec_lib]; rfl, hb⟩
theorem itoa_any (n : Nat) (h1 : n ≤ 999999999) (w : World) (hv : OpVars w) :
    Calls Tryz.prog 65 #[.int .i64 n] w fun e w' => e = .returned (.string ⟨(decL n).toArray⟩) ∧ Below w.heap.size w w' :=
  (Tryz.strconv_Itoa n (by omega) (by omega) w hv.pow).mono (by
    rintro e w' ⟨rfl, k, os, rfl⟩
    refine ⟨by rw [itoa_nonneg, dec_lib], ((Grown.refl w).on (q := k) (os := os)).below⟩)
def numO (o : Option Nat) : Int := (o.getD 0 : Nat)
theorem parseu_any (s : ByteArray) (w : World) (hs : s.size ≤ 4294967000) (hv : OpVars w) :
    Calls Tryz.prog 143 #[.string s, .int .i64 10, .int .i64 64] w fun e w' =>
      (∃ (n : Int) (ev : Value), e = .returned (.tuple #[.int .u64 n, ev]) ∧ ((∃ u : Nat, parseUintB 64 s.data.toList = .ok u ∧ n = u ∧ ev = .nilIface) ∨ ((∀ u, parseUintB 64 s.data.toList ≠ .ok u) ∧ ∃ t p, ev = .iface t p))) ∧ Below w.heap.size w w' := by
  rcases hp : parseUintB 64 s.data.toList with u | _ | _
  · refine (Tryz.strconv_ParseUint_10_at64_ok s (by omega) u hp w).mono ?_
    rintro e w' ⟨rfl, hw⟩
    refine ⟨⟨_, _, rfl, .inl ⟨u, rfl, rfl, rfl⟩⟩, ?_⟩
    rcases hw with rfl | rfl
    · exact Below.refl _ _
    · exact bytesWorld_below w _ s
  · obtain ⟨ev, h1, h2⟩ := hv.syn
    refine (Tryz.strconv_ParseUint_10_at64_syntax s (by omega) hp ev w h1 h2).mono ?_
    rintro e w' ⟨N, rfl, _, _, hb⟩
    exact ⟨⟨_, _, rfl, .inr ⟨fun u h => (by cases h), _, _, rfl⟩⟩, hb⟩
  · obtain ⟨ev, h1, h2⟩ := hv.ran
    refine (Tryz.strconv_ParseUint_10_at64_range s (by omega) hp ev w h1 h2).mono ?_
    rintro e w' ⟨N, rfl, _, _, hb⟩
    exact ⟨⟨_, _, rfl, .inr ⟨fun u h => (by cases h), _, _, rfl⟩⟩, hb⟩
set_option maxHeartbeats 1000000 in
theorem whole_any (s : ByteArray) (w : World) (hs : s.size ≤ 4294967000) (hv : OpVars w) :
    Calls Tryz.prog 100 #[.string s] w fun e w' =>
      e = .returned (.tuple #[.int .u64 (numO (numL 18446744073709551615 s.data.toList)), .bool (numL 18446744073709551615 s.data.toList).isSome]) ∧ Below w.heap.size w w' := by
  have HV := hid hv
  have HW := hid (whole_num s.data.toList)
  clear hv
  go_enter Tryz.func100, Tryz.ntmps100
  go_wp2_with fail
  refine (parseu_any s w hs HV.out).mono ?_
  rintro e w1 ⟨⟨n, ev, rfl, hc⟩, hb⟩
  have HB1 := hid hb
  clear hb
  rcases hc with ⟨u, hp, rfl, rfl⟩ | ⟨hp, t, p, rfl⟩
  · have hu := parseB_le hp
    have HP := hid hp
    clear hp
    by_cases hd : (⟨(decL u).toArray⟩ : ByteArray) = s
    · have HE : numL 18446744073709551615 s.data.toList = some u := by rw [← hd]; exact num_dec hu
      go_wp2_with (go_at_call 69; refine (fmtu_any u hu _ (HV.out.on HB1.out)).mono ?_; rintro e w2 ⟨rfl, hb2⟩; have HB2 := hid hb2; clear hb2)
      go_ret2
      rw [HE]
      exact ⟨rfl, HB1.out.trans (HB2.out.mono HB1.out.size)⟩
    · have HE : numL 18446744073709551615 s.data.toList = none := by
        rw [← HW.out]
        unfold wholeL
        rw [HP.out]
        simp only
        rw [if_neg]
        intro q
        rw [dec_lib] at q
        exact hd (by rw [q])
      have hq : (decL u == s.toList) = false := beq_eq_false_iff_ne.2 fun q => hd (by rw [q, toList_data])
      go_wp2_with (go_at_call 69; refine (fmtu_any u hu _ (HV.out.on HB1.out)).mono ?_; rintro e w2 ⟨rfl, hb2⟩; have HB2 := hid hb2; clear hb2)
      go_ret2
      rw [HE]
      exact ⟨rfl, HB1.out.trans (HB2.out.mono HB1.out.size)⟩
  · have HE : numL 18446744073709551615 s.data.toList = none := by
      rw [← HW.out]
      unfold wholeL
      split
      · rename_i u hu; exact absurd hu (hp u)
      · rfl
    clear hp
    go_wp2_with fail
    go_ret2
    rw [HE]
    exact ⟨rfl, HB1.out⟩
set_option maxHeartbeats 1000000 in
theorem opcount_any (s : ByteArray) (w : World) (hs : s.size ≤ 4294967000) (hv : OpVars w) :
    Calls Tryz.prog 99 #[.string s] w fun e w' =>
      e = .returned (.tuple #[.int .i64 (numO (numL 999999999 s.data.toList)), .bool (numL 999999999 s.data.toList).isSome]) ∧ Below w.heap.size w w' := by
  have HM := hid (num_most (most := 999999999) (by omega) s.data.toList)
  have HV := hid hv
  clear hv
  go_enter Tryz.func99, Tryz.ntmps99
  go_wp2_with fail
  refine (whole_any s w hs HV.out).mono ?_
  rintro e w1 ⟨rfl, hb⟩
  have HB1 := hid hb
  clear hb
  cases hn : numL 18446744073709551615 s.data.toList with
  | none =>
    have HE : numL 999999999 s.data.toList = none := by rw [HM.out, hn]; rfl
    have h1 : (none : Option Nat).isSome = false := rfl
    rw [h1]
    go_wp2_with fail
    go_ret2
    rw [HE]
    exact ⟨rfl, HB1.out⟩
  | some n =>
    have hle := numL_le hn
    have h1 : (some n).isSome = true := rfl
    have h2 : numO (some n) = (n : Int) := rfl
    rw [h1, h2]
    by_cases h : n ≤ 999999999
    · have HE : numL 999999999 s.data.toList = some n := by rw [HM.out, hn, Option.bind_some, if_pos h]
      have hc : IntKind.i64.wrap (n : Int) = (n : Int) := by rw [IntKind.wrap_i64]; omega
      have hg : ¬ (999999999 : Int) < (n : Int) := by omega
      go_wp2_with fail
      go_ret2
      rw [HE]
      exact ⟨rfl, HB1.out⟩
    · have HE : numL 999999999 s.data.toList = none := by rw [HM.out, hn, Option.bind_some, if_neg h]
      have hg : (999999999 : Int) < (n : Int) := by omega
      go_wp2_with fail
      go_ret2
      rw [HE]
      exact ⟨rfl, HB1.out⟩
theorem ba_nil {b : ByteArray} (h : b.data.toList = []) : b = ⟨#[]⟩ := by
  cases b with | mk d => cases d with | mk l => simp only at h; rw [h]
def unifB (s : ByteArray) : List UInt8 := trimPrefix s.data.toList [105, 102, 32]
def condO (s : ByteArray) : Option Nat := if s.data.toList = [] then some 0 else (numL 999999999 (unifB s)).bind fun n => if 0 < n then some n else none
theorem trim_len (a b : List UInt8) : (trimPrefix a b).length ≤ a.length := by
  unfold trimPrefix
  split
  · simp
  · exact Nat.le_refl _
set_option maxHeartbeats 1000000 in
theorem condition_any (s : ByteArray) (w : World) (hs : s.size ≤ 4294967000) (hv : OpVars w) :
    Calls Tryz.prog 95 #[.string s] w fun e w' =>
      (∃ n : Int, e = .returned (.tuple #[.int .i64 n, .bool (condO s).isSome]) ∧ 0 ≤ n ∧ n ≤ 999999999 ∧ ∀ m, condO s = some m → n = m) ∧ Below w.heap.size w w' := by
  have HV := hid hv
  clear hv
  by_cases h0 : s = ⟨#[]⟩
  · subst h0
    go_enter Tryz.func95, Tryz.ntmps95
    go_wp2_with fail
    go_ret2
    exact ⟨⟨0, rfl, by omega, by omega, fun m hm => by have : (0 : Nat) = m := Option.some.inj hm; omega⟩, Below.refl _ _⟩
  · have hne : s.data.toList ≠ [] := fun q => h0 (ba_nil q)
    have HC : condO s = (numL 999999999 (unifB s)).bind fun n => if 0 < n then some n else none := by unfold condO; rw [if_neg hne]
    have HC' := hid HC
    have hse : s.toList.isEmpty = false := by
      rw [toList_data]
      cases hl : s.data.toList with
      | nil => exact absurd hl hne
      | cons _ _ => rfl
    clear HC hne
    have hsz : (⟨(unifB s).toArray⟩ : ByteArray).size ≤ 4294967000 := by
      have := trim_len s.data.toList [105, 102, 32]
      have e1 : (⟨(unifB s).toArray⟩ : ByteArray).size = (trimPrefix s.data.toList [105, 102, 32]).length := rfl
      have e2 : s.data.toList.length = s.size := rfl
      omega
    go_enter Tryz.func95, Tryz.ntmps95
    go_wp2_with (go_at_call 93; refine (Tryz.strings_TrimPrefix _ _ _).mono ?_; rintro e w1 ⟨rfl, rfl⟩)
    refine (opcount_any ⟨(unifB s).toArray⟩ _ hsz HV.out).mono ?_
    rintro e w1 ⟨rfl, hb⟩
    have HB1 := hid hb
    clear hb
    have eu : (⟨(unifB s).toArray⟩ : ByteArray).data.toList = unifB s := rfl
    rw [eu]
    cases hn : numL 999999999 (unifB s) with
    | none =>
      have HE : condO s = none := by rw [HC'.out, hn]; rfl
      have h1 : (none : Option Nat).isSome = false := rfl
      rw [h1]
      go_wp2_with fail
      go_ret2
      rw [HE]
      exact ⟨⟨_, rfl, by decide, by decide, fun m hm => by cases hm⟩, HB1.out⟩
    | some n =>
      have hle := numL_le hn
      have h1 : (some n).isSome = true := rfl
      have h2 : numO (some n) = (n : Int) := rfl
      rw [h1, h2]
      by_cases h : 0 < n
      · have HE : condO s = some n := by rw [HC'.out, hn, Option.bind_some, if_pos h]
        have hg : (0 : Int) < (n : Int) := by omega
        go_wp2_with fail
        go_ret2
        rw [HE]
        exact ⟨⟨_, rfl, by omega, by omega, fun m hm => by have := Option.some.inj hm; omega⟩, HB1.out⟩
      · have HE : condO s = none := by rw [HC'.out, hn, Option.bind_some, if_neg h]
        have hg : ¬ (0 : Int) < (n : Int) := by omega
        go_wp2_with fail
        go_ret2
        rw [HE]
        exact ⟨⟨_, rfl, by omega, by omega, fun m hm => by cases hm⟩, HB1.out⟩
end Go.Proofs.YtjoimhmhiophfaaGreatDoor

namespace Go.Proofs.YtjoimhmhiophfaaGreatDoor
open Go.RowKit
structure Kind (α : Type) where
  T : TypeId
  k : Nat
  enc : α → List Value
  len : ∀ x, (enc x).length = k
  pos : 0 < k
  one : ∀ x, ∀ u ∈ enc x, u.oneCell' = true
def Kind.cells {α : Type} (K : Kind α) (d : List α) : List Value := d.flatMap K.enc
theorem Kind.cells_one {α : Type} (K : Kind α) (x : α) : K.cells [x] = K.enc x := by simp [Kind.cells]
theorem Kind.cells_append {α : Type} (K : Kind α) (a b : List α) : K.cells (a ++ b) = K.cells a ++ K.cells b := List.flatMap_append
theorem Kind.cells_len {α : Type} (K : Kind α) (d : List α) : (K.cells d).length = d.length * K.k := by
  induction d with
  | nil => simp [Kind.cells]
  | cons x d ih =>
    have e : K.cells (x :: d) = K.enc x ++ K.cells d := rfl
    rw [e, List.length_append, K.len, ih, List.length_cons, Nat.add_mul, Nat.one_mul, Nat.add_comm]
theorem Kind.cells_get {α : Type} (K : Kind α) (d : List α) (i : Nat) (h : i < d.length) (j : Nat) (hj : j < K.k) : (K.cells d)[i * K.k + j]? = (K.enc d[i])[j]? := by
  induction d generalizing i with
  | nil => simp at h
  | cons x d ih =>
    have e : K.cells (x :: d) = K.enc x ++ K.cells d := rfl
    rw [e]
    cases i with
    | zero => rw [Nat.zero_mul, Nat.zero_add, List.getElem?_append_left (by rw [K.len]; exact hj)]; rfl
    | succ i =>
      have hl : (K.enc x).length ≤ (i + 1) * K.k + j := by rw [K.len, Nat.add_mul, Nat.one_mul]; omega
      rw [List.getElem?_append_right hl, K.len]
      have e2 : (i + 1) * K.k + j - K.k = i * K.k + j := by rw [Nat.add_mul, Nat.one_mul]; omega
      rw [e2]
      exact ih i (by simpa using h)
theorem Kind.cells_ones {α : Type} (K : Kind α) (d : List α) : ∀ u ∈ K.cells d, u.oneCell' = true := by
  intro u hu
  obtain ⟨x, _, hx⟩ := List.mem_flatMap.1 hu
  exact K.one x u hx
def Kind.At {α : Type} (K : Kind α) (w : World) (b off : Nat) (d : List α) : Prop :=
  ∀ i, (h : i < d.length) → ∀ j u, (K.enc d[i])[j]? = some u → w.cell? ⟨b, off + i * K.k + j, none⟩ = some u
def Kind.Is {α : Type} (K : Kind α) (w : World) (v : Value) (d : List α) : Prop :=
  ∃ p cap, v = .slice p d.length cap ∧ (d = [] ∨ ∃ b off, p = some ⟨b, off, none⟩ ∧ K.At w b off d)
def Kind.Own {α : Type} (K : Kind α) (n0 : Nat) (w : World) (v : Value) (d : List α) : Prop := w.ownsRow n0 K.T K.k v d.length (K.cells d)
theorem Kind.at_kept {α : Type} {K : Kind α} {w w' : World} {b off : Nat} {d : List α} (h : K.At w b off d) (hb : Below w.heap.size w w') : K.At w' b off d :=
  fun i hi j u hu => (hb.cell (p := ⟨b, off + i * K.k + j, none⟩) (cell_block (h i hi j u hu))).trans (h i hi j u hu)
theorem Kind.is_kept {α : Type} {K : Kind α} {w w' : World} {v : Value} {d : List α} (h : K.Is w v d) (hb : Below w.heap.size w w') : K.Is w' v d := by
  obtain ⟨p, cap, rfl, h⟩ := h
  refine ⟨p, cap, rfl, ?_⟩
  rcases h with h | ⟨b, off, hp, h⟩
  · exact Or.inl h
  · exact Or.inr ⟨b, off, hp, K.at_kept h hb⟩
theorem Kind.is_nil {α : Type} (K : Kind α) (w : World) : K.Is w (.slice none 0 0) [] := ⟨none, 0, rfl, Or.inl rfl⟩
theorem Kind.own_nil {α : Type} (K : Kind α) (n0 : Nat) (w : World) : K.Own n0 w (.slice none 0 0) [] := World.ownsRow_nil _ _ _ _
theorem Kind.own_on {α : Type} {K : Kind α} {n0 : Nat} {w w' : World} {v : Value} {d : List α} (h : K.Own n0 w v d) (hb : Below w.heap.size w w') : K.Own n0 w' v d := _root_.Go.Proofs.YtjoimhmhiophfaaGreatDoor.own_on h hb
theorem Kind.own_weak {α : Type} {K : Kind α} {n0 n1 : Nat} {w : World} {v : Value} {d : List α} (h : K.Own n0 w v d) (hn : n1 ≤ n0) : K.Own n1 w v d := _root_.Go.Proofs.YtjoimhmhiophfaaGreatDoor.own_weak h hn
theorem Kind.own_shape {α : Type} {K : Kind α} {n0 : Nat} {w : World} {v : Value} {d : List α} (h : K.Own n0 w v d) : ∃ p cap, v = .slice p d.length cap := by
  rcases h.2 with ⟨hv, h0⟩ | ⟨g, cap, cur, hv, _⟩
  · exact ⟨none, 0, by rw [hv, h0]⟩
  · exact ⟨_, _, hv⟩
theorem Kind.own_is {α : Type} {K : Kind α} {n0 : Nat} {w : World} {v : Value} {d : List α} (h : K.Own n0 w v d) : K.Is w v d := by
  rcases h.2 with ⟨rfl, h0⟩ | ⟨g, c, cur, rfl, _, hg, _, _, hsz, htk⟩
  · obtain rfl := List.length_eq_zero_iff.1 h0
    exact K.is_nil w
  · refine ⟨_, c, rfl, Or.inr ⟨g, 0, rfl, fun i hi j u hu => ?_⟩⟩
    have hj : j < K.k := by
      have := (List.getElem?_eq_some_iff.1 hu).1
      rwa [K.len] at this
    have hlt : i * K.k + j < d.length * K.k := by
      have h1 : (i + 1) * K.k ≤ d.length * K.k := Nat.mul_le_mul_right _ hi
      rw [Nat.add_mul, Nat.one_mul] at h1
      omega
    rw [Nat.zero_add, cell_of_row w g _ cur _ _ hg, ← Array.getElem?_toList]
    have : (K.cells d)[i * K.k + j]? = cur.toList[i * K.k + j]? := by rw [← htk, List.getElem?_take, if_pos hlt]
    rw [← this, K.cells_get d i hi j hj, hu]
theorem Kind.src {α : Type} {K : Kind α} {w : World} {p : Option Addr} {d : List α} (h : d = [] ∨ ∃ b off, p = some ⟨b, off, none⟩ ∧ K.At w b off d) :
    d.length = 0 ∨ ∃ ad, p = some ad ∧ ∀ j u, (K.cells d)[j]? = some u → w.cell? (ad.add j) = some u := by
  rcases h with rfl | ⟨b, off, rfl, hx⟩
  · exact Or.inl rfl
  · refine Or.inr ⟨_, rfl, fun j u hu => ?_⟩
    have hj : j < d.length * K.k := by
      have := (List.getElem?_eq_some_iff.1 hu).1
      rwa [K.cells_len] at this
    have hk : j / K.k < d.length := (Nat.div_lt_iff_lt_mul K.pos).2 hj
    have hm : j % K.k < K.k := Nat.mod_lt _ K.pos
    have e : j / K.k * K.k + j % K.k = j := by rw [Nat.mul_comm]; exact Nat.div_add_mod j K.k
    have hg := K.cells_get d (j / K.k) hk (j % K.k) hm
    rw [e, hu] at hg
    have := hx (j / K.k) hk (j % K.k) u hg.symm
    rw [addr_add]
    rw [Nat.add_assoc, e] at this
    exact this
theorem Kind.news {α : Type} (K : Kind α) (w : World) (x : α) : ∀ j u, (K.cells [x])[j]? = some u → (w.alloc (.cells (K.enc x).toArray K.T)).cell? ((⟨w.heap.size, 0, none⟩ : Addr).add j) = some u := by
  intro j u hu
  rw [K.cells_one] at hu
  rw [addr_add, Nat.zero_add, cell_of_row _ _ _ _ _ _ (heap_alloc_new w _)]
  simpa using hu
theorem Kind.own_snoc {α : Type} {K : Kind α} {n0 : Nat} {w : World} {v : Value} {d : List α} {x : α} {n : Nat} {xs : List Value} (h : w.ownsRow n0 K.T K.k v n xs) (hn : n = d.length + 1) (hx : xs = K.cells d ++ K.cells [x]) : K.Own n0 w v (d ++ [x]) := by
  subst hn hx
  unfold Kind.Own
  rw [K.cells_append, List.length_append]
  exact h
end Go.Proofs.YtjoimhmhiophfaaGreatDoor

namespace Go.Proofs.YtjoimhmhiophfaaGreatDoor
open Go.RowKit
abbrev Tm := ByteArray × Int × ByteArray
def encM (x : Tm) : List Value := [.string x.1, .int .i64 x.2.1, .string x.2.2]
def KM : Kind Tm := ⟨51, 3, encM, fun _ => rfl, by decide, fun x u hu => by simp [encM] at hu; rcases hu with rfl | rfl | rfl <;> rfl⟩
def FitM (p : List Tm) : Prop := p.length ≤ maxLen ∧ ∀ x ∈ p, x.1.size ≤ maxLen ∧ x.2.2.size ≤ maxLen ∧ -9223372036854775808 ≤ x.2.1 ∧ x.2.1 ≤ 9223372036854775807
def rightM (x : Tm) : Bool := decide (1 ≤ x.2.1) && decide (x.2.1 ≤ 7) && (decide (x.2.1 < 6) || decide (x.2.2.size = 0))
def namedM (x : Tm) : Bool := fieldB x.1.data.toList
def shortM (x : Tm) : Bool := decide (x.2.2.size ≤ 128)
def mayM (p : List Tm) : Int := if 8 < p.length then 5 else if p.all namedM = false then 2 else if p.all rightM = false then 1 else if p.all shortM = false then 5 else 0
def ltM (a b : Tm) : Bool := if a.1 ≠ b.1 then ltB a.1 b.1 else if a.2.1 ≠ b.2.1 then decide (a.2.1 < b.2.1) else ltB a.2.2 b.2.2
theorem ltM_irrefl (a : Tm) : ltM a a = false := by simp [ltM, ltB_irrefl]
theorem ltB_eq_false {a b : ByteArray} (h : ltB a b = true) : a ≠ b := by
  rintro rfl
  rw [ltB_irrefl] at h
  cases h
theorem ltM_cases (a b : Tm) : ltM a b = true ∨ a = b ∨ ltM b a = true := by
  obtain ⟨a1, a2, a3⟩ := a
  obtain ⟨b1, b2, b3⟩ := b
  unfold ltM
  simp only
  by_cases h1 : a1 = b1
  · subst h1
    by_cases h2 : a2 = b2
    · subst h2
      rcases ltB_cases a3 b3 with h | h | h
      · left; simpa using h
      · right; left; rw [h]
      · right; right; simpa using h
    · have h2' : b2 ≠ a2 := fun e => h2 e.symm
      rcases Int.lt_or_gt_of_ne h2 with h | h
      · left; simp [h2, h]
      · right; right; simp [h2', h]
  · have h1' : b1 ≠ a1 := fun e => h1 e.symm
    rcases ltB_cases a1 b1 with h | h | h
    · left; simp [h1, h]
    · exact absurd h h1
    · right; right; simp [h1', h]
theorem ltM_trans {a b c : Tm} (h : ltM a b = true) (k : ltM b c = true) : ltM a c = true := by
  obtain ⟨a1, a2, a3⟩ := a
  obtain ⟨b1, b2, b3⟩ := b
  obtain ⟨c1, c2, c3⟩ := c
  unfold ltM at *
  simp only at *
  by_cases h1 : a1 = b1
  · subst h1
    by_cases k1 : a1 = c1
    · subst k1
      simp only [ne_eq, not_true_eq_false, if_false] at *
      by_cases h2 : a2 = b2
      · subst h2
        by_cases k2 : a2 = c2
        · subst k2
          simp only [not_true_eq_false, if_false] at *
          exact ltB_trans h k
        · simp only [not_true_eq_false, if_false, k2, not_false_eq_true, if_true] at *
          exact k
      · by_cases k2 : b2 = c2
        · subst k2
          simp only [h2, not_false_eq_true, if_true] at *
          exact h
        · simp only [h2, k2, not_false_eq_true, if_true, decide_eq_true_eq] at h k
          have h3 : a2 ≠ c2 := by omega
          simp only [h3, not_false_eq_true, if_true, decide_eq_true_eq]
          omega
    · simp only [ne_eq, k1, not_false_eq_true, if_true] at *
      exact k
  · by_cases k1 : b1 = c1
    · subst k1
      simp only [ne_eq, h1, not_false_eq_true, if_true] at *
      exact h
    · simp only [ne_eq, h1, k1, not_false_eq_true, if_true] at h k
      have h3 : ltB a1 c1 = true := ltB_trans h k
      have h4 : a1 ≠ c1 := ltB_eq_false h3
      simp only [ne_eq, h4, not_false_eq_true, if_true]
      exact h3
theorem ltM_asymm {a b : Tm} (h : ltM a b = true) : ltM b a = false := by
  cases k : ltM b a with
  | false => rfl
  | true =>
    have := ltM_trans h k
    rw [ltM_irrefl] at this
    cases this
theorem ltM_ne {a b : Tm} (h : ltM a b = true) : a ≠ b := by
  rintro rfl
  rw [ltM_irrefl] at h
  cases h
def RisingM (l : List Tm) : Prop := l.Pairwise fun x y => ltM x y = true
theorem rising_unique : ∀ (a b : List Tm), RisingM a → RisingM b → (∀ x, x ∈ a ↔ x ∈ b) → a = b
  | [], [], _, _, _ => rfl
  | [], y :: b, _, _, h => by have := (h y).2 (by simp); simp at this
  | x :: a, [], _, _, h => by have := (h x).1 (by simp); simp at this
  | x :: a, y :: b, ha, hb, h => by
    have ha' := List.pairwise_cons.1 ha
    have hb' := List.pairwise_cons.1 hb
    have hxy : x = y := by
      rcases List.mem_cons.1 ((h x).1 (by simp)) with e | e
      · exact e
      · rcases List.mem_cons.1 ((h y).2 (by simp)) with e2 | e2
        · exact e2.symm
        · have h1 := hb'.1 x e
          have h2 := ha'.1 y e2
          rw [ltM_asymm h1] at h2
          cases h2
    subst hxy
    congr 1
    refine rising_unique a b ha'.2 hb'.2 fun z => ⟨fun hz => ?_, fun hz => ?_⟩
    · rcases List.mem_cons.1 ((h z).1 (by simp [hz])) with e | e
      · exact absurd e.symm (ltM_ne (ha'.1 z hz))
      · exact e
    · rcases List.mem_cons.1 ((h z).2 (by simp [hz])) with e | e
      · exact absurd e.symm (ltM_ne (hb'.1 z hz))
      · exact e
def insM (x : Tm) : List Tm → List Tm
  | [] => [x]
  | y :: l => if ltM x y then x :: y :: l else if x = y then y :: l else y :: insM x l
def sortM (p : List Tm) : List Tm := p.foldl (fun acc x => insM x acc) []
theorem mem_insM (x z : Tm) (l : List Tm) : z ∈ insM x l ↔ z = x ∨ z ∈ l := by
  induction l with
  | nil => simp [insM]
  | cons y l ih =>
    unfold insM
    split
    · simp
    · split
      · rename_i h; subst h; simp
      · simp [ih, or_left_comm]
theorem insM_rising (x : Tm) (l : List Tm) (h : RisingM l) : RisingM (insM x l) := by
  induction l with
  | nil => exact List.pairwise_singleton _ _
  | cons y l ih =>
    have h' := List.pairwise_cons.1 h
    unfold insM
    split
    · rename_i hlt
      refine List.pairwise_cons.2 ⟨fun z hz => ?_, h⟩
      rcases List.mem_cons.1 hz with rfl | hz
      · exact hlt
      · exact ltM_trans hlt (h'.1 z hz)
    · rename_i hlt
      split
      · exact h
      · rename_i hne
        refine List.pairwise_cons.2 ⟨fun z hz => ?_, ih h'.2⟩
        rcases (mem_insM x z l).1 hz with rfl | hz
        · rcases ltM_cases z y with h1 | h1 | h1
          · exact absurd h1 hlt
          · exact absurd h1 hne
          · exact h1
        · exact h'.1 z hz
theorem sortM_spec (p : List Tm) : RisingM (sortM p) ∧ ∀ x, x ∈ sortM p ↔ x ∈ p := by
  have : ∀ (l acc : List Tm), RisingM acc → RisingM (l.foldl (fun acc x => insM x acc) acc) ∧ ∀ x, x ∈ l.foldl (fun acc x => insM x acc) acc ↔ x ∈ acc ∨ x ∈ l := by
    intro l
    induction l with
    | nil => intro acc h; exact ⟨h, fun x => by simp⟩
    | cons y l ih =>
      intro acc h
      obtain ⟨h1, h2⟩ := ih (insM y acc) (insM_rising y acc h)
      refine ⟨h1, fun x => ?_⟩
      rw [List.foldl_cons, h2, mem_insM, List.mem_cons]
      constructor
      · rintro ((h | h) | h)
        · exact Or.inr (Or.inl h)
        · exact Or.inl h
        · exact Or.inr (Or.inr h)
      · rintro (h | h | h)
        · exact Or.inl (Or.inr h)
        · exact Or.inl (Or.inl h)
        · exact Or.inr h
  obtain ⟨h1, h2⟩ := this p [] List.Pairwise.nil
  exact ⟨h1, fun x => by rw [sortM, h2]; simp⟩
theorem sortM_unique {p l : List Tm} (h1 : RisingM l) (h2 : ∀ x, x ∈ l ↔ x ∈ p) : l = sortM p :=
  rising_unique _ _ h1 (sortM_spec p).1 fun x => (h2 x).trans ((sortM_spec p).2 x).symm
theorem sortM_len (p : List Tm) : (sortM p).length ≤ p.length := by
  have key : ∀ (x : Tm) (l : List Tm), (insM x l).length ≤ l.length + 1 := by
    intro x l
    induction l with
    | nil => simp [insM]
    | cons y l ih =>
      unfold insM
      split
      · simp
      · split
        · simp
        · simp; omega
  have : ∀ (l acc : List Tm), (l.foldl (fun acc x => insM x acc) acc).length ≤ acc.length + l.length := by
    intro l
    induction l with
    | nil => intro acc; simp
    | cons y l ih =>
      intro acc
      have h1 := ih (insM y acc)
      have h2 := key y acc
      rw [List.foldl_cons, List.length_cons]
      omega
  simpa [sortM] using this p []
theorem mayM_perm {p q : List Tm} (h : ∀ x, x ∈ p ↔ x ∈ q) (hl : p.length ≤ 8) (hm : q.length ≤ 8) : mayM p = mayM q := by
  have key : ∀ f : Tm → Bool, p.all f = q.all f := fun f => by
    rw [Bool.eq_iff_iff, List.all_eq_true, List.all_eq_true]
    exact ⟨fun H x hx => H x ((h x).2 hx), fun H x hx => H x ((h x).1 hx)⟩
  unfold mayM
  rw [if_neg (show ¬ 8 < p.length by omega), key namedM, key rightM, key shortM, if_neg (show ¬ 8 < q.length by omega)]
def ansM (p : List Tm) : List Tm := if mayM p = 0 then sortM p else []
theorem mayM_zero {p : List Tm} (h : mayM p = 0) : p.length ≤ 8 ∧ p.all namedM = true ∧ p.all rightM = true ∧ p.all shortM = true := by
  unfold mayM at h
  split at h
  · omega
  · rename_i h1
    split at h
    · omega
    · rename_i h2
      split at h
      · omega
      · rename_i h3
        split at h
        · omega
        · rename_i h4
          exact ⟨by omega, by simpa using h2, by simpa using h3, by simpa using h4⟩
end Go.Proofs.YtjoimhmhiophfaaGreatDoor

namespace Go.Proofs.YtjoimhmhiophfaaGreatDoor
open Go.RowKit
theorem km_cells {w : World} {b off : Nat} {p : List Tm} (h : KM.At w b off p) (i : Nat) (hi : i < p.length) :
    w.cell? ⟨b, off + i * 3, none⟩ = some (.string (p[i]).1) ∧ w.cell? ⟨b, off + i * 3 + 1, none⟩ = some (.int .i64 (p[i]).2.1) ∧ w.cell? ⟨b, off + i * 3 + 2, none⟩ = some (.string (p[i]).2.2) :=
  ⟨h i hi 0 _ rfl, h i hi 1 _ rfl, h i hi 2 _ rfl⟩
end Go.Proofs.YtjoimhmhiophfaaGreatDoor

namespace Go.Proofs.YtjoimhmhiophfaaGreatDoor
open Go.RowKit
theorem Tryz.infoTrm : (Tryz.prog.info? 51).map (fun i => (i.zero, i.size, i.bytes)) = some (some (.agg #[.string ⟨#[]⟩, .int .i64 0, .string ⟨#[]⟩]), 3, 40) := by kernel_rfl
theorem neq_term (a b : Tm) (w : World) : (binOp .neq 51 (.agg #[.string a.1, .int .i64 a.2.1, .string a.2.2]) (.agg #[.string b.1, .int .i64 b.2.1, .string b.2.2])).run Tryz.prog w = .ok (.bool (!decide (a = b))) w := by
  obtain ⟨a1, a2, a3⟩ := a
  obtain ⟨b1, b2, b3⟩ := b
  have hS : Tryz.prog.underlying 51 = some (.struct (Tryz.prog.fieldsOf 51)) := by kernel_rfl
  have hp : Tryz.prog.stoodInHeld 51 = false := by kernel_rfl
  have u9 := Tryz.underlying9
  have a9 := Tryz.isAgg9
  have z9 := Tryz.sizeOf9
  have u3 := Tryz.underlying3
  have a3' := Tryz.isAgg3
  have z3 := Tryz.sizeOf3
  rw [run_neq_struct, show (10000 : Nat) = 9999 + 1 from rfl, run_equalIn_agg w 9999 51 _ _ hS hp]
  simp only [Program.fieldsOf, Tryz.underlying51]
  go_simp
  by_cases h1 : a1 = b1
  · subst h1
    by_cases h2 : a2 = b2
    · subst h2
      by_cases h3 : a3 = b3
      · subst h3; simp
      · have e3 := beq_eq_false_iff_ne.1 (seq_false h3)
        simp [h3, e3]
    · simp [h2]
  · have e1 := beq_eq_false_iff_ne.1 (seq_false h1)
    simp [h1, e1]
set_option maxHeartbeats 2000000 in
set_option maxRecDepth 100000 in
theorem rsameM_any (v u : Value) (p q : List Tm) (w : World) (hv : KM.Is w v p) (hu : KM.Is w u q) (hl1 : p.length ≤ maxLen) :
    Calls Tryz.prog 31 #[v, u] w fun e w' => e = .returned (.bool (decide (p = q))) ∧ ∃ n, w' = w.drewN n := by
  unfold maxLen at hl1
  obtain ⟨a1, k1, rfl, hd1⟩ := hv
  obtain ⟨a2, k2, rfl, hd2⟩ := hu
  obtain ⟨r, hr⟩ : ∃ r, decide (p = q) = r := ⟨_, rfl⟩
  rw [hr]
  have HR := hid hr
  have HD1 := hid hd1
  have HD2 := hid hd2
  clear hr hd1 hd2
  by_cases hl : p.length = q.length
  · have hb : ((p.length : Int) != (q.length : Int)) = false := by simp [hl]
    have HL := hid hl
    clear hl
    go_enter Tryz.func31, Tryz.ntmps31
    go_wp2_with fail
    go_loopg [5] p.length (fun g vi wr => ∃ i m : Nat, vi = .int .i64 i ∧ i ≤ p.length ∧ p.length - i ≤ g ∧ wr = w.drewN m ∧ Hid (∀ j, j < i → p[j]? = q[j]?))
    case atStart => exact ⟨0, 0, rfl, by omega, by omega, rfl, fun j h => by omega⟩
    case round =>
      obtain ⟨i, m, rfl, hi, hg, rfl, HJ⟩ := hrel
      by_cases hlt : i < p.length
      · have hlt2 : i < q.length := by rw [← HL.out]; exact hlt
        have i1 : (0 : Int) ≤ ↑i := by omega
        have i2 : (↑i : Int) < ↑p.length := by omega
        have i3 : (↑i : Int) < ↑q.length := by omega
        rcases HD1.out with hn | ⟨b1, o1, rfl, k1⟩
        · rw [hn] at hlt; simp at hlt
        rcases HD2.out with hn | ⟨b2, o2, rfl, k2⟩
        · rw [hn] at hlt2; simp at hlt2
        obtain ⟨x0, x1, x2⟩ := km_cells k1 i hlt
        obtain ⟨y0, y1, y2⟩ := km_cells k2 i hlt2
        have hne := fun W => neq_term p[i] q[i] W
        have G1 := hid (List.getElem?_eq_getElem hlt)
        have G2 := hid (List.getElem?_eq_getElem hlt2)
        obtain ⟨x, hx⟩ : ∃ x, p[i] = x := ⟨_, rfl⟩
        obtain ⟨y, hy⟩ : ∃ y, q[i] = y := ⟨_, rfl⟩
        rw [hx] at x0 x1 x2 hne G1
        rw [hy] at y0 y1 y2 hne G2
        clear k1 k2 hx hy
        by_cases hst : x = y
        · have hd := decide_eq_true hst
          rw [hd] at hne
          have HS := hid hst
          clear hst hd
          go_wp2_with fail
          go_quiet (fail)
          go_wp2_with fail
          go_roundg (p.length - (i + 1))
          case measure => omega
          refine ⟨i + 1, _, by go_num, by omega, by omega, rfl, fun j hj => ?_⟩
          by_cases e : j = i
          · subst e; rw [G1.out, G2.out, HS.out]
          · exact HJ.out j (by omega)
        · have hd := decide_eq_false hst
          rw [hd] at hne
          have H0 : Hid (r = false) := HR.out.symm.trans (decide_eq_false fun e => hst (by
            have := G1.out
            rw [e, G2.out] at this
            exact (Option.some.inj this).symm))
          clear hst hd
          go_wp2_with fail
          go_quiet (fail)
          go_wp2_with fail
          go_ret
          exact ⟨ret_bool H0.out.symm, _, by rw [World.drewN_drewN]⟩
      · have hltz : ¬ (i : Int) < (p.length : Int) := by omega
        have H0 : Hid (r = true) := HR.out.symm.trans (decide_eq_true (List.ext_getElem? fun j => by
          by_cases hj : j < p.length
          · exact HJ.out j (by omega)
          · rw [List.getElem?_eq_none (by omega), List.getElem?_eq_none (by have := HL.out; omega)]))
        go_wp2_with fail
        go_ret
        exact ⟨ret_bool H0.out.symm, _, rfl⟩
  · have hb : ((p.length : Int) != (q.length : Int)) = true := by simp; omega
    have H0 : Hid (r = false) := HR.out.symm.trans (decide_eq_false fun e => hl (by rw [e]))
    go_enter Tryz.func31, Tryz.ntmps31
    go_wp2_with fail
    go_ret
    exact ⟨ret_bool H0.out.symm, 0, rfl⟩
end Go.Proofs.YtjoimhmhiophfaaGreatDoor

namespace Go.Proofs.YtjoimhmhiophfaaGreatDoor
open Go.RowKit
def NMPost (w : World) (p : List Tm) (e : Ending) (w' : World) : Prop :=
  (∃ u, e = .returned (.tuple #[u, .int .i64 (mayM p)]) ∧ KM.Own w.heap.size w' u (ansM p)) ∧ Below w.heap.size w w'
end Go.Proofs.YtjoimhmhiophfaaGreatDoor

namespace Go.Proofs.YtjoimhmhiophfaaGreatDoor
open Go.RowKit
def opN (c : Int) : Int := if 61 = c then 1 else if 33 = c then 2 else if 94 = c then 3 else if 60 = c then 4 else if 62 = c then 5 else if 63 = c then 6 else if 45 = c then 7 else 0
def opC (o : Int) : UInt8 := if o = 1 then 61 else if o = 2 then 33 else if o = 3 then 94 else if o = 4 then 60 else if o = 5 then 62 else if o = 6 then 63 else 45
theorem opN_range (c : Int) : 0 ≤ opN c ∧ opN c ≤ 7 := by
  unfold opN
  repeat' split
  all_goals omega
theorem opN_opC {o : Int} (h1 : 1 ≤ o) (h2 : o ≤ 7) : opN ((opC o).toNat : Int) = o := by
  have : o = 1 ∨ o = 2 ∨ o = 3 ∨ o = 4 ∨ o = 5 ∨ o = 6 ∨ o = 7 := by omega
  rcases this with rfl | rfl | rfl | rfl | rfl | rfl | rfl <;> decide
end Go.Proofs.YtjoimhmhiophfaaGreatDoor

namespace Go.Proofs.YtjoimhmhiophfaaGreatDoor
open Go.RowKit
end Go.Proofs.YtjoimhmhiophfaaGreatDoor

namespace Go.Proofs.YtjoimhmhiophfaaGreatDoor
open Go.RowKit
def hexN (c : UInt8) : Nat := if 48 ≤ c.toNat ∧ c.toNat ≤ 57 then c.toNat - 48 else if 97 ≤ c.toNat ∧ c.toNat ≤ 102 then c.toNat - 87 else 16
theorem hexN_table : ((List.range 256).all fun n => decide (hexv (UInt8.ofNat n) = if hexN (UInt8.ofNat n) = 16 then -1 else (hexN (UInt8.ofNat n) : Int))) = true := by kernel_rfl
theorem hexN_eq (c : UInt8) : hexv c = if hexN c = 16 then -1 else (hexN c : Int) := by
  have h := List.all_eq_true.1 hexN_table c.toNat (List.mem_range.2 c.toNat_lt)
  rw [decide_eq_true_eq, UInt8.ofNat_toNat] at h
  exact h
end Go.Proofs.YtjoimhmhiophfaaGreatDoor

namespace Go.Proofs.YtjoimhmhiophfaaGreatDoor
open Go.RowKit
end Go.Proofs.YtjoimhmhiophfaaGreatDoor

namespace Go.Proofs.YtjoimhmhiophfaaGreatDoor
open Go.RowKit
end Go.Proofs.YtjoimhmhiophfaaGreatDoor

namespace Go.Proofs.YtjoimhmhiophfaaGreatDoor
open Go.RowKit
end Go.Proofs.YtjoimhmhiophfaaGreatDoor

namespace Go.Proofs.YtjoimhmhiophfaaGreatDoor
open Go.RowKit Go.Lib
def blanks (l : List UInt8) : Nat := l.countP fun c => c == 32
theorem blanks_append (a b : List UInt8) : blanks (a ++ b) = blanks a + blanks b := List.countP_append ..
theorem field_noblank {l : List UInt8} (h : fieldB l = true) : blanks l = 0 := by
  unfold blanks
  rw [List.countP_eq_zero]
  intro c hc
  unfold fieldB spell at h
  cases l with
  | nil => simp at hc
  | cons x r =>
    simp only [Bool.and_eq_true, List.all_eq_true] at h
    have key : lodB (c.toNat : Int) = true ∨ smallB (c.toNat : Int) = true := by
      rcases List.mem_cons.1 hc with rfl | hc
      · exact Or.inr h.1.2
      · exact Or.inl (h.2 c hc)
    intro e
    have e : c = 32 := by simpa using e
    subst e
    rcases key with k | k
    · revert k; decide
    · revert k; decide
theorem hexd_noblank (k : Nat) (h : k < 16) : (hexd k == 32) = false := by
  have t : ((List.range 16).all fun k => !(hexd k == 32)) = true := by decide
  have := List.all_eq_true.1 t k (List.mem_range.2 h)
  simpa using this
theorem write_noblank (l : List UInt8) : blanks (writeL l) = 0 := by
  induction l with
  | nil => rfl
  | cons c l ih =>
    rw [writeL_cons, blanks_append, ih]
    unfold writeC
    cases hp : plainB (c.toNat : Int) with
    | true =>
      have : (c == 32) = false := by
        rw [beq_eq_false_iff_ne]
        intro e
        subst e
        revert hp; decide
      simp [blanks, this]
    | false =>
      have hc := c.toNat_lt
      simp [blanks, hexd_noblank (c.toNat / 16) (by omega), hexd_noblank (c.toNat % 16) (by omega)]
theorem word_data (n t : ByteArray) : (wordOf n t).data.toList = n.data.toList ++ [61] ++ writeL t.data.toList := by
  unfold wordOf
  obtain ⟨⟨n⟩⟩ := n
  simp
theorem word_noblank {n t : ByteArray} (h : fieldB n.data.toList = true) : blanks (wordOf n t).data.toList = 0 := by
  rw [word_data, blanks_append, blanks_append, field_noblank h, write_noblank]
  rfl
theorem join_size (c : Nat) : ∀ ws : List (List UInt8), (∀ w ∈ ws, w.length ≤ c) → (Lib.join ws [32]).length ≤ ws.length * (c + 1)
  | [], _ => by simp [Lib.join, List.intercalate]
  | [w], h => by
    have := h w (by simp)
    rw [Lib.join_one]
    simp
    omega
  | w :: v :: ws, h => by
    have h1 := h w (by simp)
    have ih := join_size c (v :: ws) (fun x hx => h x (by simp [hx]))
    have e : Lib.join (w :: v :: ws) [32] = w ++ [32] ++ Lib.join (v :: ws) [32] := by simp [Lib.join]
    have e2 : (w :: v :: ws).length * (c + 1) = (v :: ws).length * (c + 1) + (c + 1) := by rw [List.length_cons, Nat.add_mul, Nat.one_mul]
    have e3 : ([32] : List UInt8).length = 1 := rfl
    rw [e, List.length_append, List.length_append, e2, e3]
    omega
theorem line_size {fs : List Fld} (h : mayB fs = true) : (lineOf fs).size ≤ 53504 := by
  have e : (lineOf fs).size = (Lib.join ((wordsL fs).map (·.data.toList)) [32]).length := by
    show (Lib.join ((wordsL fs).map (·.data.toList)) [32]).toArray.size = _
    simp
  have h1 := join_size 417 ((wordsL fs).map (·.data.toList)) (fun w hw => by
    obtain ⟨x, hx, rfl⟩ := List.mem_map.1 hw
    obtain ⟨f, hf, hx⟩ := List.mem_flatMap.1 hx
    obtain ⟨t, ht, rfl⟩ := List.mem_map.1 hx
    simpa using word_len (may_fits h f hf) ht)
  have h2 := wordsL_len (fun f hf => may_fits h f hf) (may_parts h).1
  rw [List.length_map] at h1
  have h3 : (wordsL fs).length * (417 + 1) ≤ 128 * (417 + 1) := Nat.mul_le_mul_right _ h2
  omega
end Go.Proofs.YtjoimhmhiophfaaGreatDoor

namespace Go.Proofs.YtjoimhmhiophfaaGreatDoor
open Go.RowKit Go.Lib
def lineB (ws : List ByteArray) : ByteArray := ⟨(Lib.join (ws.map (·.data.toList)) [32]).toArray⟩
theorem lineB_data (ws : List ByteArray) : (lineB ws).data.toList = Lib.join (ws.map (·.data.toList)) [32] := by
  unfold lineB
  rw [List.toList_toArray]
theorem data_append (a b : ByteArray) : (a ++ b).data.toList = a.data.toList ++ b.data.toList := by
  simp
theorem lineB_size {ws : List ByteArray} (hn : ws.length ≤ 200) (hs : ∀ x ∈ ws, x.size ≤ 417) : (lineB ws).size ≤ 83600 := by
  have e : (lineB ws).size = (Lib.join (ws.map (·.data.toList)) [32]).length := by rw [← lineB_data]; simp
  have h1 := join_size 417 (ws.map (·.data.toList)) (fun w hw => by
    obtain ⟨x, hx, rfl⟩ := List.mem_map.1 hw
    simpa using hs x hx)
  rw [List.length_map] at h1
  have h3 : ws.length * (417 + 1) ≤ 200 * (417 + 1) := Nat.mul_le_mul_right _ hn
  omega
end Go.Proofs.YtjoimhmhiophfaaGreatDoor

namespace Go.Proofs.YtjoimhmhiophfaaGreatDoor
open Go.RowKit Go.Lib
def wordM (x : Tm) : ByteArray := x.1 ++ ⟨#[opC x.2.1]⟩ ++ ⟨(writeL x.2.2.data.toList).toArray⟩
def lineM (p : List Tm) : ByteArray := lineB (p.map wordM)
theorem wordM_data (x : Tm) : (wordM x).data.toList = x.1.data.toList ++ opC x.2.1 :: writeL x.2.2.data.toList := by
  unfold wordM
  simp only [data_append]
  simp
theorem wordM_len {x : Tm} (h1 : namedM x = true) (h2 : shortM x = true) : (wordM x).size ≤ 417 := by
  have e : (wordM x).size = (wordM x).data.toList.length := by simp
  have h3 := fieldB_len h1
  have h4 := writeL_len x.2.2.data.toList
  have h5 : x.2.2.data.toList.length = x.2.2.size := by simp
  have h6 := of_decide_eq_true h2
  rw [e, wordM_data, List.length_append, List.length_cons]
  omega
theorem ansM_all {p : List Tm} (x : Tm) (h : x ∈ ansM p) : namedM x = true ∧ rightM x = true ∧ shortM x = true := by
  unfold ansM at h
  by_cases hm : mayM p = 0
  · rw [if_pos hm] at h
    obtain ⟨_, h1, h2, h3⟩ := mayM_zero hm
    have hx := ((sortM_spec p).2 x).1 h
    exact ⟨List.all_eq_true.1 h1 x hx, List.all_eq_true.1 h2 x hx, List.all_eq_true.1 h3 x hx⟩
  · rw [if_neg hm] at h; simp at h
theorem ansM_len (p : List Tm) : (ansM p).length ≤ 8 := by
  unfold ansM
  by_cases hm : mayM p = 0
  · rw [if_pos hm]
    have := sortM_len p
    have := (mayM_zero hm).1
    omega
  · rw [if_neg hm]; simp
theorem rightM_range {x : Tm} (h : rightM x = true) : 1 ≤ x.2.1 ∧ x.2.1 ≤ 7 := by
  unfold rightM at h
  rw [Bool.and_eq_true, Bool.and_eq_true] at h
  exact ⟨of_decide_eq_true h.1.1, of_decide_eq_true h.1.2⟩
theorem sign_at (m : Nat) (h : m < 7) : Utf8.encode (((⟨#[61, 33, 94, 60, 62, 63, 45]⟩ : ByteArray)[m]'h).toNat : Int) = ⟨#[opC ((m : Int) + 1)]⟩ := by
  have : m = 0 ∨ m = 1 ∨ m = 2 ∨ m = 3 ∨ m = 4 ∨ m = 5 ∨ m = 6 := by omega
  rcases this with rfl | rfl | rfl | rfl | rfl | rfl | rfl <;> decide +revert
theorem wrap_i64 (n : Int) (h1 : -9223372036854775808 ≤ n) (h2 : n ≤ 9223372036854775807) : IntKind.i64.wrap n = n := by
  simp [IntKind.wrap, IntKind.signed, IntKind.bits]; omega
end Go.Proofs.YtjoimhmhiophfaaGreatDoor

namespace Go.Proofs.YtjoimhmhiophfaaGreatDoor
open Go.RowKit Go.Lib
end Go.Proofs.YtjoimhmhiophfaaGreatDoor

namespace Go.Proofs.YtjoimhmhiophfaaGreatDoor
open Go.RowKit
theorem firstP_plain {c : UInt8} {r : List UInt8} (h : plainB (c.toNat : Int) = true) : firstP (c :: r) = some (c, 1) := by
  simp [firstP, h]
theorem pct_plain : plainB 37 = false := by decide
theorem firstP_hex {a b : UInt8} {r : List UInt8} : firstP (37 :: a :: b :: r) = if hexN a = 16 ∨ hexN b = 16 then none else if plainB ((UInt8.ofNat (16 * hexN a + hexN b)).toNat : Int) then none else some (UInt8.ofNat (16 * hexN a + hexN b), 3) := by
  have e : firstP (37 :: a :: b :: r) = if hexv a < 0 ∨ hexv b < 0 then none else
      if plainB ((UInt8.ofNat (16 * (hexv a).toNat + (hexv b).toNat)).toNat : Int) then none else some (UInt8.ofNat (16 * (hexv a).toNat + (hexv b).toNat), 3) := by
    simp [firstP, pct_plain]
  rw [e, hexN_eq a, hexN_eq b]
  by_cases ha : hexN a = 16
  · rw [if_pos (Or.inl (by rw [if_pos ha]; decide)), if_pos (Or.inl ha)]
  · by_cases hb : hexN b = 16
    · rw [if_pos (Or.inr (by rw [if_pos hb]; decide)), if_pos (Or.inr hb)]
    · rw [if_neg (show ¬ (hexN a = 16 ∨ hexN b = 16) by omega), if_neg (show ¬ ((if hexN a = 16 then (-1 : Int) else (hexN a : Int)) < 0 ∨ (if hexN b = 16 then (-1 : Int) else (hexN b : Int)) < 0) by rw [if_neg ha, if_neg hb]; omega), if_neg ha, if_neg hb, Int.toNat_natCast, Int.toNat_natCast]
end Go.Proofs.YtjoimhmhiophfaaGreatDoor

namespace Go.Proofs.YtjoimhmhiophfaaGreatDoor
open Go.RowKit
theorem hexd_table : ((List.range 16).all fun k => decide (hexN (hexd k) = k)) = true := by decide
theorem hexN_hexd {k : Nat} (h : k < 16) : hexN (hexd k) = k := by
  have := List.all_eq_true.1 hexd_table k (List.mem_range.2 h)
  exact of_decide_eq_true this
theorem read_write (l : List UInt8) : readL (writeL l) = some l := by
  induction l with
  | nil => exact readL_nil
  | cons c l ih =>
    rw [writeL_cons]
    cases hp : plainB (c.toNat : Int) with
    | true =>
      have e : writeC c = [c] := by unfold writeC; rw [if_pos hp]
      rw [e, List.cons_append, List.nil_append, readL_some (firstP_plain hp)]
      show (readL (writeL l)).map _ = _
      rw [ih]; rfl
    | false =>
      have e : writeC c = [37, hexd (c.toNat / 16), hexd (c.toNat % 16)] := by unfold writeC; rw [hp]; rfl
      have hc := c.toNat_lt
      have h1 : hexN (hexd (c.toNat / 16)) = c.toNat / 16 := hexN_hexd (by omega)
      have h2 : hexN (hexd (c.toNat % 16)) = c.toNat % 16 := hexN_hexd (by omega)
      have hs : UInt8.ofNat (16 * (c.toNat / 16) + c.toNat % 16) = c := by
        rw [show 16 * (c.toNat / 16) + c.toNat % 16 = c.toNat by omega, UInt8.ofNat_toNat]
      have hf : firstP (37 :: hexd (c.toNat / 16) :: hexd (c.toNat % 16) :: writeL l) = some (c, 3) := by
        rw [firstP_hex, h1, h2, if_neg (by omega), hs, if_neg (by rw [hp]; simp)]
      rw [e]
      show readL (37 :: hexd (c.toNat / 16) :: hexd (c.toNat % 16) :: writeL l) = _
      rw [readL_some hf]
      show (readL (writeL l)).map _ = _
      rw [ih]; rfl
end Go.Proofs.YtjoimhmhiophfaaGreatDoor

namespace Go.Proofs.YtjoimhmhiophfaaGreatDoor
open Go.RowKit Go.Lib
theorem ix_here {a b : List UInt8} {c : UInt8} (h : c ∉ a) : Lib.indexByte (a ++ c :: b) c = (a.length : Int) := by
  rcases ix_cases (a ++ c :: b) c with ⟨_, h2⟩ | ⟨i, h1, h2, h3, h4⟩
  · exact absurd (by simp) h2
  · have h5 := ix_split _ c i h2 h3
    have := (ix_uniq h5 h h4).1
    rw [h1, this, List.length_take]
    omega
theorem ix_none {a : List UInt8} {c : UInt8} (h : c ∉ a) : Lib.indexByte a c = -1 := by
  rcases ix_cases a c with ⟨h1, _⟩ | ⟨i, _, h2, h3, _⟩
  · exact h1
  · exact absurd (List.mem_of_getElem? h3) h
theorem split_join : ∀ ws : List (List UInt8), ws ≠ [] → (∀ w ∈ ws, (32 : UInt8) ∉ w) → splitL (Lib.join ws [32]) = ws
  | [], h, _ => absurd rfl h
  | [w], _, h => by
    rw [Lib.join_one]
    exact splitL_no (ix_none (h w (by simp)))
  | w :: v :: ws, _, h => by
    have ih := split_join (v :: ws) (by simp) (fun x hx => h x (by simp [hx]))
    rw [join_two, splitL_yes (ix_here (h w (by simp)))]
    rw [List.take_left' rfl]
    congr 1
    rw [show w ++ 32 :: Lib.join (v :: ws) [32] = (w ++ [32]) ++ Lib.join (v :: ws) [32] by simp, List.drop_left' (by simp)]
    exact ih
theorem noblank_mem {l : List UInt8} (h : blanks l = 0) : (32 : UInt8) ∉ l := by
  intro hm
  have := List.countP_eq_zero.1 h 32 hm
  simp at this
theorem field_noeq {l : List UInt8} (h : fieldB l = true) : (61 : UInt8) ∉ l := by
  intro hc
  unfold fieldB spell at h
  cases l with
  | nil => simp at hc
  | cons x r =>
    simp only [Bool.and_eq_true, List.all_eq_true] at h
    have key : lodB ((61 : UInt8).toNat : Int) = true ∨ smallB ((61 : UInt8).toNat : Int) = true := by
      rcases List.mem_cons.1 hc with e | hc
      · exact Or.inr (by rw [e]; exact h.1.2)
      · exact Or.inl (h.2 _ hc)
    rcases key with k | k
    · revert k; decide
    · revert k; decide
theorem word_back {n t : ByteArray} (h : fieldB n.data.toList = true) : wordO (wordOf n t).data.toList = some (n.data.toList, t.data.toList) := by
  rw [word_data, List.append_assoc, List.singleton_append]
  have e := ix_here (b := writeL t.data.toList) (field_noeq h)
  unfold wordO
  rw [e, if_neg (by omega), Int.toNat_natCast, List.take_left' rfl]
  rw [show n.data.toList ++ 61 :: writeL t.data.toList = (n.data.toList ++ [61]) ++ writeL t.data.toList by simp, List.drop_left' (by simp), read_write]
  rfl
def singles (fs : List Fld) : List Fld := fs.flatMap fun f => f.2.map fun t => (f.1, [t])
theorem ba_back (b : ByteArray) : (⟨b.data.toList.toArray⟩ : ByteArray) = b := by obtain ⟨⟨l⟩⟩ := b; rfl
theorem words_back (fs : List Fld) (h : ∀ f ∈ fs, fieldB f.1.data.toList = true) : fieldsW ((wordsL fs).map (·.data.toList)) = some (singles fs) := by
  induction fs with
  | nil => rfl
  | cons f fs ih =>
    have hf := h f (by simp)
    have ih := ih fun g hg => h g (by simp [hg])
    have e1 : fieldsW ((wordsF f).map (·.data.toList)) = some (f.2.map fun t => (f.1, [t])) := by
      unfold wordsF
      generalize f.2 = ts
      induction ts with
      | nil => rfl
      | cons t ts iht =>
        simp only [List.map_cons, fieldsW]
        rw [word_back hf]
        simp only
        rw [iht, ba_back, ba_back]
        rfl
    unfold wordsL at ih ⊢
    rw [List.flatMap_cons, List.map_append, fieldsW_append, e1, ih]
    rfl
theorem single_filter (f : Fld) (c : ByteArray) : ((f.2.map fun t => ((f.1, [t]) : Fld)).filter fun x => decide (x.1 = c)).flatMap (·.2) = if f.1 = c then f.2 else [] := by
  obtain ⟨n, ts⟩ := f
  simp only
  by_cases e : n = c
  · rw [if_pos e, List.filter_eq_self.2 (fun x hx => by obtain ⟨t, _, rfl⟩ := List.mem_map.1 hx; simp [e])]
    induction ts with
    | nil => rfl
    | cons t ts ih => rw [List.map_cons, List.flatMap_cons, ih]; rfl
  · rw [if_neg e, List.filter_eq_nil_iff.2 (fun x hx => by obtain ⟨t, _, rfl⟩ := List.mem_map.1 hx; simp [e])]
    rfl
theorem txt_singles (fs : List Fld) (c : ByteArray) : txtOf (singles fs) c = txtOf fs c := by
  induction fs with
  | nil => rfl
  | cons f fs ih =>
    unfold txtOf singles at *
    rw [List.flatMap_cons, List.filter_append, List.flatMap_append, single_filter, ih]
    by_cases e : f.1 = c
    · rw [if_pos e, List.filter_cons_of_pos (by simp [e]), List.flatMap_cons]
    · rw [if_neg e, List.filter_cons_of_neg (by simp [e]), List.nil_append]
theorem may_rising {fs : List Fld} (h : mayB fs = true) : Rising fs := by
  have hs := (may_parts h).2
  have step : ∀ i, (hi : i + 1 < fs.length) → ltB (fs[i]).1 (fs[i + 1]).1 = true := fun i hi => by
    have := hs (i + 1) hi
    unfold stepOk at this
    rw [Bool.and_eq_true, Bool.or_eq_true] at this
    rcases this.2 with h | h
    · have := of_decide_eq_true h; omega
    · rw [ltN_eq, Nat.add_sub_cancel, List.getD_eq_getElem?_getD, List.getD_eq_getElem?_getD, List.getElem?_eq_getElem hi, List.getElem?_eq_getElem (show i < fs.length by omega)] at h
      exact h
  refine List.pairwise_iff_getElem.2 fun i j hi hj hij => ?_
  induction j with
  | zero => omega
  | succ j ih =>
    by_cases e : i = j
    · subst e; exact step i hj
    · exact ltB_trans (ih (by omega) (by omega)) (step j hj)
theorem rising_txt {fs : List Fld} (h : Rising fs) : ∀ f ∈ fs, f.2 = txtOf fs f.1 := by
  intro f hf
  obtain ⟨a, b, rfl⟩ := List.append_of_mem hf
  have hr := List.pairwise_append.1 h
  have hr2 := List.pairwise_cons.1 hr.2.1
  have ha : a.filter (fun x => decide (x.1 = f.1)) = [] := List.filter_eq_nil_iff.2 fun x hx e => ltB_ne (hr.2.2 x hx f (by simp)) (by simpa using e)
  have hb : b.filter (fun x => decide (x.1 = f.1)) = [] := List.filter_eq_nil_iff.2 fun x hx e => ltB_ne (hr2.1 x hx) (Eq.symm (of_decide_eq_true e))
  unfold txtOf
  rw [List.filter_append, ha, List.filter_cons_of_pos (by simp), hb]
  simp
theorem groups_singles {fs : List Fld} (h : Rising fs) (hne : ∀ f ∈ fs, f.2 ≠ []) : Groups (singles fs) fs := by
  refine ⟨h, fun c => ⟨?_, ?_⟩, fun f hf => ?_⟩
  · rintro ⟨f, hf, rfl⟩
    cases ht : f.2 with
    | nil => exact absurd ht (hne f hf)
    | cons t ts => exact ⟨(f.1, [t]), List.mem_flatMap.2 ⟨f, hf, List.mem_map.2 ⟨t, by rw [ht]; simp, rfl⟩⟩, rfl⟩
  · rintro ⟨x, hx, rfl⟩
    obtain ⟨f, hf, hx⟩ := List.mem_flatMap.1 hx
    obtain ⟨t, _, rfl⟩ := List.mem_map.1 hx
    exact ⟨f, hf, rfl⟩
  · rw [txt_singles]; exact rising_txt h f hf
theorem fits_ne {f : Fld} (h : fitsB f = true) : f.2 ≠ [] := fun e => by
  have := (fits_parts h).2.1
  rw [e] at this; simp at this
theorem may_nobare {fs : List Fld} (h : mayB fs = true) : fs.any bareB = false := by
  rw [List.any_eq_false]
  intro f hf hb
  exact fits_ne (may_fits h f hf) (List.isEmpty_iff.1 hb)
def fieldsP (l : List UInt8) : Option (List Fld) := if l = [] then some [] else fieldsW (splitL l)
def codeP (l : List UInt8) : Int := match fieldsP l with
  | none => 4
  | some fs => codeF fs
def ansP (l : List UInt8) : List Fld := match fieldsP l with
  | none => []
  | some fs => ansF fs
theorem norm_singles {fs : List Fld} (h : mayB fs = true) : codeF (singles fs) = 0 ∧ ansF (singles fs) = fs := by
  have hn : normF (singles fs) = fs := groups_unique (normF_groups _) (groups_singles (may_rising h) fun f hf => fits_ne (may_fits h f hf))
  have hm : (singles fs).any misB = false := by
    rw [List.any_eq_false]
    intro x hx
    obtain ⟨f, hf, hx⟩ := List.mem_flatMap.1 hx
    obtain ⟨t, _, rfl⟩ := List.mem_map.1 hx
    have := (fits_parts (may_fits h f hf)).2.2.2.2
    simp [misB, this]
  have hc : codeF (singles fs) = 0 := by unfold codeF; rw [hm, hn, may_nobare h, h]; rfl
  exact ⟨hc, by unfold ansF; rw [hc, hn]; rfl⟩
theorem codeF_nil : codeF [] = 0 := by decide
theorem ansF_nil : ansF [] = [] := by decide
def PPost (w : World) (l : List UInt8) (e : Ending) (w' : World) : Prop :=
  (∃ u o, e = .returned (.tuple #[u, .int .i64 (codeP l)]) ∧ OwnXs w.heap.size w' u o ∧ o.map Fx.fld = ansP l) ∧ Below w.heap.size w w'
theorem ansP_fit {d : List Fx} {l : List UInt8} (hm : d.map Fx.fld = ansP l) : FitX d := by
  unfold ansP at hm
  cases h : fieldsP l with
  | none =>
    rw [h] at hm
    rw [List.map_eq_nil_iff] at hm
    subst hm
    exact ⟨by unfold maxLen; simp, fun x hx => by simp at hx⟩
  | some fs => rw [h] at hm; exact ans_fit hm
theorem parse_plain (s : ByteArray) (w : World) (hp : PlainAt w) (hs : s.size ≤ 3000000000000) :
    Calls Tryz.prog 96 #[.string s] w fun e w' => PPost w s.data.toList e w' := by
  refine (parse_any s w hp hs).mono fun e w' h => ⟨?_, h.2⟩
  rcases h.1 with ⟨h0, rfl⟩ | ⟨h0, h1, rfl⟩ | ⟨h0, fs, d, h1, h2, h3⟩
  · have hf : fieldsP s.data.toList = some [] := by unfold fieldsP; rw [if_pos h0]
    exact ⟨_, [], by unfold codeP; rw [hf]; simp only [codeF_nil], own_none _ _, by unfold ansP; rw [hf]; simp only [ansF_nil]; rfl⟩
  · have hf : fieldsP s.data.toList = none := by unfold fieldsP; rw [if_neg h0]; exact h1
    exact ⟨_, [], by unfold codeP; rw [hf], own_none _ _, by unfold ansP; rw [hf]; rfl⟩
  · have hf : fieldsP s.data.toList = some fs := by unfold fieldsP; rw [if_neg h0]; exact h1
    unfold codeP ansP
    rw [hf]
    subst h2
    refine ansPlain ?_
    rcases h3.plain with h | ⟨h1, h | h | ⟨h2, h3, u, o, h4, h5, h6⟩⟩
    · exact Or.inl h
    · exact Or.inr ⟨h1, Or.inl h⟩
    · exact Or.inr ⟨h1, Or.inr (Or.inl h)⟩
    · exact Or.inr ⟨h1, Or.inr (Or.inr ⟨h2, h3, u, o, h4, h5.1, h6⟩)⟩
end Go.Proofs.YtjoimhmhiophfaaGreatDoor

namespace Go.Proofs.YtjoimhmhiophfaaGreatDoor
open Go.RowKit Go.Lib
def wordsAns (l : List UInt8) : List (List UInt8) := if l = [] then [] else splitL l
theorem own_snoc {n0 : Nat} {w : World} {v : Value} {ts : List ByteArray} {t : ByteArray} (h : w.ownsRow n0 9 1 v (ts.length + 1) (ts.map Value.string ++ [.string t])) : OwnT n0 w v (ts ++ [t]) := by
  unfold OwnT
  simp only [List.length_append, List.length_cons, List.length_nil, List.map_append, List.map_cons, List.map_nil]
  exact h
theorem fieldsP_words (l : List UInt8) : fieldsW (wordsAns l) = fieldsP l := by
  unfold wordsAns fieldsP
  split
  · rfl
  · rfl
end Go.Proofs.YtjoimhmhiophfaaGreatDoor

namespace Go.Proofs.YtjoimhmhiophfaaGreatDoor
open Go.RowKit Go.Lib
def isOp (c : UInt8) : Bool := opN (c.toNat : Int) != 0
def termO (l : List UInt8) : Option Tm :=
  match l.dropWhile (fun c => !isOp c) with
  | [] => none
  | c :: r => match readL r with
    | none => none
    | some t => if 5 < opN (c.toNat : Int) ∧ r ≠ [] then none else some (⟨(l.takeWhile (fun c => !isOp c)).toArray⟩, opN (c.toNat : Int), ⟨t.toArray⟩)
def termsW : List (List UInt8) → Option (List Tm)
  | [] => some []
  | l :: ls => match termO l with
    | none => none
    | some x => (termsW ls).map (x :: ·)
theorem termsW_append (a b : List (List UInt8)) : termsW (a ++ b) = (termsW a).bind fun xs => (termsW b).map (xs ++ ·) := by
  induction a with
  | nil => simp [termsW]
  | cons l a ih =>
    simp only [List.cons_append, termsW, ih]
    cases termO l with
    | none => rfl
    | some x =>
      cases termsW a with
      | none => rfl
      | some xs => cases termsW b <;> rfl
theorem termsW_no {a b : List (List UInt8)} {l : List UInt8} (h : termO l = none) : termsW (a ++ l :: b) = none := by
  rw [termsW_append]
  cases termsW a with
  | none => rfl
  | some x => simp [termsW, h]
theorem termsW_snoc {a : List (List UInt8)} {l : List UInt8} {xs : List Tm} {x : Tm} (ha : termsW a = some xs) (h : termO l = some x) : termsW (a ++ [l]) = some (xs ++ [x]) := by
  rw [termsW_append, ha]
  simp [termsW, h]
theorem op_split {l : List UInt8} {k : Nat} (hk : k < l.length) (h : ∀ d ∈ l.take k, isOp d = false) (h2 : isOp l[k] = true) :
    l.takeWhile (fun c => !isOp c) = l.take k ∧ l.dropWhile (fun c => !isOp c) = l[k] :: l.drop (k + 1) := by
  have e : l = l.take k ++ l[k] :: l.drop (k + 1) := by
    conv => lhs; rw [← List.take_append_drop k l, List.drop_eq_getElem_cons hk]
  have hp : ∀ d ∈ l.take k, (!isOp d) = true := fun d hd => by rw [h d hd]; rfl
  constructor
  · conv => lhs; rw [e]
    rw [List.takeWhile_append_of_pos hp, List.takeWhile_cons, h2]
    simp
  · conv => lhs; rw [e]
    rw [List.dropWhile_append_of_pos hp, List.dropWhile_cons, h2]
    simp
theorem op_none {l : List UInt8} (h : ∀ d ∈ l, isOp d = false) : termO l = none := by
  have : l.dropWhile (fun c => !isOp c) = [] := by
    induction l with
    | nil => rfl
    | cons c l ih =>
      rw [List.dropWhile_cons, h c (by simp)]
      simpa using ih fun d hd => h d (by simp [hd])
  unfold termO
  rw [this]
def codeW (o : Option (List Tm)) : Int := match o with | none => 4 | some p => mayM p
def ansW (o : Option (List Tm)) : List Tm := match o with | none => [] | some p => ansM p
def TWPost (w : World) (o : Option (List Tm)) (e : Ending) (w' : World) : Prop :=
  (∃ u, e = .returned (.tuple #[u, .int .i64 (codeW o)]) ∧ KM.Own w.heap.size w' u (ansW o)) ∧ Below w.heap.size w w'
end Go.Proofs.YtjoimhmhiophfaaGreatDoor

namespace Go.Proofs.YtjoimhmhiophfaaGreatDoor
open Go.RowKit Go.Lib
theorem op_sign {c : UInt8} (h : isOp c = true) : c = 61 ∨ c = 33 ∨ c = 94 ∨ c = 60 ∨ c = 62 ∨ c = 63 ∨ c = 45 := by
  unfold isOp at h
  rw [bne_iff_ne] at h
  unfold opN at h
  have key : ∀ k : UInt8, (k.toNat : Int) = (c.toNat : Int) → c = k := fun k e => UInt8.toNat_inj.1 (by omega)
  by_cases h1 : (61 : Int) = c.toNat
  · exact Or.inl (key 61 h1)
  by_cases h2 : (33 : Int) = c.toNat
  · exact Or.inr (Or.inl (key 33 h2))
  by_cases h3 : (94 : Int) = c.toNat
  · exact Or.inr (Or.inr (Or.inl (key 94 h3)))
  by_cases h4 : (60 : Int) = c.toNat
  · exact Or.inr (Or.inr (Or.inr (Or.inl (key 60 h4))))
  by_cases h5 : (62 : Int) = c.toNat
  · exact Or.inr (Or.inr (Or.inr (Or.inr (Or.inl (key 62 h5)))))
  by_cases h6 : (63 : Int) = c.toNat
  · exact Or.inr (Or.inr (Or.inr (Or.inr (Or.inr (Or.inl (key 63 h6))))))
  by_cases h7 : (45 : Int) = c.toNat
  · exact Or.inr (Or.inr (Or.inr (Or.inr (Or.inr (Or.inr (key 45 h7))))))
  rw [if_neg h1, if_neg h2, if_neg h3, if_neg h4, if_neg h5, if_neg h6, if_neg h7] at h
  exact absurd rfl h
theorem field_noop {l : List UInt8} (h : fieldB l = true) : ∀ c ∈ l, isOp c = false := by
  intro c hc
  unfold fieldB spell at h
  cases l with
  | nil => simp at hc
  | cons x r =>
    simp only [Bool.and_eq_true, List.all_eq_true] at h
    have key : lodB (c.toNat : Int) = true ∨ smallB (c.toNat : Int) = true := by
      rcases List.mem_cons.1 hc with e | hc
      · exact Or.inr (by rw [e]; exact h.1.2)
      · exact Or.inl (h.2 _ hc)
    cases ho : isOp c with
    | false => rfl
    | true =>
      rcases op_sign ho with rfl | rfl | rfl | rfl | rfl | rfl | rfl <;> (rcases key with k | k <;> (revert k; decide))
theorem opC_is {o : Int} (h1 : 1 ≤ o) (h2 : o ≤ 7) : isOp (opC o) = true := by
  unfold isOp
  rw [opN_opC h1 h2, bne_iff_ne]
  omega
theorem opC_noblank (o : Int) : opC o ≠ 32 := by
  unfold opC
  repeat' split
  all_goals decide
theorem termO_back {x : Tm} (h1 : namedM x = true) (h2 : rightM x = true) : termO (wordM x).data.toList = some x := by
  obtain ⟨n, o, t⟩ := x
  have hr := rightM_range h2
  simp only at hr
  have hno := field_noop h1
  simp only at hno
  rw [wordM_data]
  simp only
  have hk : n.data.toList.length < (n.data.toList ++ opC o :: writeL t.data.toList).length := by simp
  have hg : (n.data.toList ++ opC o :: writeL t.data.toList)[n.data.toList.length] = opC o := by simp
  obtain ⟨e1, e2⟩ := op_split hk (by rw [List.take_left' rfl]; exact hno) (by rw [hg]; exact opC_is hr.1 hr.2)
  rw [List.take_left' rfl] at e1
  rw [hg, show n.data.toList ++ opC o :: writeL t.data.toList = (n.data.toList ++ [opC o]) ++ writeL t.data.toList by simp, List.drop_left' (by simp)] at e2
  unfold termO
  rw [e1, show n.data.toList ++ opC o :: writeL t.data.toList = (n.data.toList ++ [opC o]) ++ writeL t.data.toList by simp, e2]
  simp only
  rw [read_write]
  simp only
  rw [opN_opC hr.1 hr.2, if_neg, ba_back, ba_back]
  rintro ⟨h5, hne⟩
  apply hne
  unfold rightM at h2
  simp only [Bool.and_eq_true, Bool.or_eq_true, decide_eq_true_eq] at h2
  have h0 : t.size = 0 := by
    rcases h2.2 with h | h
    · omega
    · exact h
  have : t.data.toList = [] := List.length_eq_zero_iff.1 (by simpa using h0)
  rw [this]
  rfl
theorem terms_back (p : List Tm) (h : ∀ x ∈ p, namedM x = true ∧ rightM x = true) : termsW ((p.map wordM).map (·.data.toList)) = some p := by
  induction p with
  | nil => rfl
  | cons x p ih =>
    have hx := h x (by simp)
    simp only [List.map_cons, termsW]
    rw [termO_back hx.1 hx.2, ih fun y hy => h y (by simp [hy])]
    rfl
theorem wordM_noblank {x : Tm} (h1 : namedM x = true) : (32 : UInt8) ∉ (wordM x).data.toList := by
  rw [wordM_data, List.mem_append, List.mem_cons]
  rintro (h | h | h)
  · exact noblank_mem (field_noblank h1) h
  · exact opC_noblank _ h.symm
  · exact noblank_mem (write_noblank _) h
theorem ansM_again {p : List Tm} (h : mayM p = 0) : mayM (ansM p) = 0 ∧ ansM (ansM p) = ansM p := by
  have e : ansM p = sortM p := by unfold ansM; rw [if_pos h]
  have h8 := (mayM_zero h).1
  have hl := sortM_len p
  obtain ⟨s1, s2⟩ := sortM_spec p
  rw [e]
  have hm : mayM (sortM p) = 0 := (mayM_perm s2 (by omega) h8).trans h
  refine ⟨hm, ?_⟩
  unfold ansM
  rw [if_pos hm]
  exact (sortM_unique s1 (fun _ => Iff.rfl)).symm
end Go.Proofs.YtjoimhmhiophfaaGreatDoor

namespace Go.Proofs.YtjoimhmhiophfaaGreatDoor
open Go.RowKit Go.Lib
abbrev Ky := ByteArray × ByteArray
end Go.Proofs.YtjoimhmhiophfaaGreatDoor

namespace Go.Proofs.YtjoimhmhiophfaaGreatDoor
open Go.RowKit
abbrev Ed := Int × ByteArray × ByteArray
def encE (x : Ed) : List Value := [.int .i64 x.1, .string x.2.1, .string x.2.2]
def KE : Kind Ed := ⟨49, 3, encE, fun _ => rfl, by decide, fun x u hu => by simp [encE] at hu; rcases hu with rfl | rfl | rfl <;> rfl⟩
def FitE (l : List Ed) : Prop := l.length ≤ maxLen ∧ ∀ x ∈ l, x.2.1.size ≤ maxLen ∧ x.2.2.size ≤ maxLen ∧ -9223372036854775808 ≤ x.1 ∧ x.1 ≤ 9223372036854775807
def namedE (x : Ed) : Bool := fieldB x.2.1.data.toList
def rightE (x : Ed) : Bool := decide (1 ≤ x.1) && decide (x.1 ≤ 5) && (decide (x.1 ≠ 4) || decide (x.2.2.size = 0))
def shortE (x : Ed) : Bool := decide (x.2.2.size ≤ 128)
def mayE (l : List Ed) : Int := if 16 < l.length then 5 else if l.all namedE = false then 2 else if l.all rightE = false then 1 else if l.all shortE = false then 5 else 0
theorem mayE_zero {l : List Ed} (h : mayE l = 0) : l.length ≤ 16 ∧ (∀ x ∈ l, namedE x = true) ∧ (∀ x ∈ l, rightE x = true) ∧ ∀ x ∈ l, shortE x = true := by
  unfold mayE at h
  split at h
  · omega
  · rename_i h1
    split at h
    · omega
    · rename_i h2
      split at h
      · omega
      · rename_i h3
        split at h
        · omega
        · rename_i h4
          exact ⟨by omega, List.all_eq_true.1 (by simpa using h2), List.all_eq_true.1 (by simpa using h3), List.all_eq_true.1 (by simpa using h4)⟩
end Go.Proofs.YtjoimhmhiophfaaGreatDoor

namespace Go.Proofs.YtjoimhmhiophfaaGreatDoor
open Go.RowKit
end Go.Proofs.YtjoimhmhiophfaaGreatDoor

namespace Go.Proofs.YtjoimhmhiophfaaGreatDoor
open Go.RowKit
theorem ke_cells {w : World} {b off : Nat} {p : List Ed} (h : KE.At w b off p) (i : Nat) (hi : i < p.length) :
    w.cell? ⟨b, off + i * 3, none⟩ = some (.int .i64 (p[i]).1) ∧ w.cell? ⟨b, off + i * 3 + 1, none⟩ = some (.string (p[i]).2.1) ∧ w.cell? ⟨b, off + i * 3 + 2, none⟩ = some (.string (p[i]).2.2) :=
  ⟨h i hi 0 _ rfl, h i hi 1 _ rfl, h i hi 2 _ rfl⟩
theorem all_snocE {p : List Ed} {f : Ed → Bool} {i : Nat} (h : i < p.length) : (p.take (i + 1)).all f = ((p.take i).all f && f p[i]) := by
  rw [List.take_succ_eq_append_getElem h, List.all_append]
  simp
set_option maxHeartbeats 4000000 in
set_option maxRecDepth 100000 in
theorem rmayE_any (v : Value) (p : List Ed) (w : World) (hv : KE.Is w v p) (hf : FitE p) :
    Calls Tryz.prog 76 #[v] w fun e w' => e = .returned (.int .i64 (mayE p)) ∧ w' = w := by
  obtain ⟨q, cap, rfl, hd⟩ := hv
  have hl := hf.1
  unfold maxLen at hl
  have HD := hid hd
  have HF := hid hf.2
  obtain ⟨r, hr⟩ : ∃ r, mayE p = r := ⟨_, rfl⟩
  rw [hr]
  have HR := hid hr
  clear hd hf hr
  by_cases h8 : 16 < p.length
  · have h8z : (16 : Int) < (p.length : Int) := by omega
    have H0 : Hid (r = 5) := by show _ = _; rw [← HR.out]; unfold mayE; rw [if_pos h8]
    clear h8
    go_enter Tryz.func76, Tryz.ntmps76
    go_wp2_with fail
    go_ret
    exact ⟨ret_int H0.out.symm, rfl⟩
  · have h8z : ¬ (16 : Int) < (p.length : Int) := by omega
    have HR2 : Hid (r = if p.all namedE = false then 2 else if p.all rightE = false then 1 else if p.all shortE = false then 5 else 0) := by show _ = _; rw [← HR.out]; unfold mayE; rw [if_neg h8]
    clear h8
    go_enter Tryz.func76, Tryz.ntmps76
    go_wp2_with fail
    go_loopg [3, 4, 5, 6] p.length (fun g v3 v4 v5 vi wr => ∃ i : Nat, vi = .int .i64 i ∧ i ≤ p.length ∧ p.length - i ≤ g ∧ v3 = .bool ((p.take i).all namedE) ∧ v4 = .bool ((p.take i).all rightE) ∧ v5 = .bool ((p.take i).all shortE) ∧ w = wr)
    case atStart => exact ⟨0, rfl, by omega, by omega, by simp, by simp, by simp, rfl⟩
    case round =>
    obtain ⟨i, rfl, hi, hgk, rfl, rfl, rfl, rfl⟩ := hrel
    by_cases hlt : i < p.length
    · have hltz : (i : Int) < (p.length : Int) := by omega
      have hiz : (0 : Int) ≤ (i : Int) := by omega
      obtain ⟨b, off, rfl, hat⟩ : ∃ b off, q = some ⟨b, off, none⟩ ∧ KE.At w b off p := by
        rcases HD.out with h | h
        · subst h; simp at hlt
        · exact h
      obtain ⟨c0, c1, c2⟩ := ke_cells hat i hlt
      have hfx := HF.out _ (List.getElem_mem hlt)
      have HN := hid (all_snocE (f := namedE) hlt)
      have HG := hid (all_snocE (f := rightE) hlt)
      have HS := hid (all_snocE (f := shortE) hlt)
      obtain ⟨x, hx⟩ : ∃ x, p[i] = x := ⟨_, rfl⟩
      rw [hx] at c0 c1 c2 hfx HN HG HS
      obtain ⟨xo, xf, xt⟩ := x
      simp only at c0 c1 c2
      obtain ⟨B1, hB1⟩ : ∃ B, (p.take i).all namedE = B := ⟨_, rfl⟩
      obtain ⟨B2, hB2⟩ : ∃ B, (p.take i).all rightE = B := ⟨_, rfl⟩
      obtain ⟨B3, hB3⟩ : ∃ B, (p.take i).all shortE = B := ⟨_, rfl⟩
      rw [hB1] at HN ⊢
      rw [hB2] at HG ⊢
      rw [hB3] at HS ⊢
      obtain ⟨hs1, hs2, hs3, hs4⟩ := hfx
      simp only at hs1 hs2 hs3 hs4
      have HFC : Hid (∀ W, Calls Tryz.prog 118 #[.string xf] W fun e w' => e = .returned (.bool (fieldB xf.data.toList)) ∧ w' = W) := fun W => rfield_any xf W hs1
      unfold maxLen at hs2
      clear hat hx hB1 hB2 hB3 hs1
      go_upto_region 7 with fail
      go_cut [3] from 10 to 67 (fun v wx => w = wx ∧ v = .bool (B1 && fieldB xf.data.toList))
      case first =>
        cases B1 with
        | false =>
          go_wp2_with fail
          go_meet
          case rel => exact ⟨rfl, rfl⟩
        | true =>
          go_wp2_with (first | (go_at_call 118; refine (HFC.out _).mono ?_; rintro e w1 ⟨rfl, rfl⟩))
          go_meet
          case rel => exact ⟨rfl, rfl⟩
      case rest =>
      obtain ⟨rfl, rfl⟩ := hcut
      go_upto_region 8 with fail
      go_cut [4] from 10 to 67 (fun v wx => w = wx ∧ v = .bool (B2 && rightE (xo, xf, xt)))
      case first =>
        have HRM : Hid (rightE (xo, xf, xt) = (decide (1 ≤ xo) && decide (xo ≤ 5) && (decide (xo ≠ 4) || decide (xt.size = 0)))) := rfl
        cases B2 with
        | false =>
          go_wp2_with fail
          go_meet
          case rel => exact ⟨rfl, rfl⟩
        | true =>
          by_cases g1 : 1 ≤ xo
          · have d1 : decide (1 ≤ xo) = true := decide_eq_true g1
            by_cases g2 : xo ≤ 5
            · have d2 : decide (xo ≤ 5) = true := decide_eq_true g2
              by_cases g3 : xo = 4
              · have d3 : (xo != 4) = false := by simp [g3]
                by_cases g4 : xt.size = 0
                · have e4 := sempty_of g4
                  have HV : Hid (rightE (xo, xf, xt) = true) := by show _ = _; rw [HRM.out, d1, d2, decide_eq_true g4]; simp
                  clear g4 g3
                  go_wp2_with fail
                  go_meet
                  case rel => exact ⟨rfl, by rw [HV.out]; rfl⟩
                · have e4 := sfull_of g4
                  have HV : Hid (rightE (xo, xf, xt) = false) := by show _ = _; rw [HRM.out, d1, d2, decide_eq_false g4, decide_eq_false (by simp [g3])]; rfl
                  clear g4 g3
                  go_wp2_with fail
                  go_meet
                  case rel => exact ⟨rfl, by rw [HV.out]; rfl⟩
              · have d3 : (xo != 4) = true := by simp [g3]
                have HV : Hid (rightE (xo, xf, xt) = true) := by show _ = _; rw [HRM.out, d1, d2, decide_eq_true (by simpa using g3)]; rfl
                clear g3
                go_wp2_with fail
                go_meet
                case rel => exact ⟨rfl, by rw [HV.out]; rfl⟩
            · have d2 : decide (xo ≤ 5) = false := decide_eq_false g2
              have HV : Hid (rightE (xo, xf, xt) = false) := by show _ = _; rw [HRM.out, d1, d2]; rfl
              go_wp2_with fail
              go_meet
              case rel => exact ⟨rfl, by rw [HV.out]; rfl⟩
          · have d1 : decide (1 ≤ xo) = false := decide_eq_false g1
            have HV : Hid (rightE (xo, xf, xt) = false) := by show _ = _; rw [HRM.out, d1]; rfl
            go_wp2_with fail
            go_meet
            case rel => exact ⟨rfl, by rw [HV.out]; rfl⟩
      case rest =>
      obtain ⟨rfl, rfl⟩ := hcut
      have HSM : Hid (shortE (xo, xf, xt) = decide (xt.size ≤ 128)) := rfl
      cases B3 with
      | false =>
        go_wp2_with fail
        go_roundg (p.length - (i + 1))
        case measure => omega
        case rel => exact ⟨i + 1, by go_num, by omega, by omega, by rw [HN.out]; rfl, by rw [HG.out], by rw [HS.out]; rfl, rfl⟩
      | true =>
        by_cases g1 : xt.size ≤ 128
        · have g1z : (xt.size : Int) ≤ 128 := by omega
          have HV : Hid (shortE (xo, xf, xt) = true) := by show _ = _; rw [HSM.out]; exact decide_eq_true g1
          go_wp2_with fail
          go_roundg (p.length - (i + 1))
          case measure => omega
          case rel => exact ⟨i + 1, by go_num, by omega, by omega, by rw [HN.out]; rfl, by rw [HG.out], by rw [HS.out, HV.out]; rfl, rfl⟩
        · have g1z : ¬ (xt.size : Int) ≤ 128 := by omega
          have HV : Hid (shortE (xo, xf, xt) = false) := by show _ = _; rw [HSM.out]; exact decide_eq_false g1
          go_wp2_with fail
          go_roundg (p.length - (i + 1))
          case measure => omega
          case rel => exact ⟨i + 1, by go_num, by omega, by omega, by rw [HN.out]; rfl, by rw [HG.out], by rw [HS.out, HV.out]; rfl, rfl⟩
    · have hltz : ¬ (i : Int) < (p.length : Int) := by omega
      rw [List.take_of_length_le (by omega)]
      cases h1 : p.all namedE with
      | false =>
        have H0 : Hid (r = 2) := by show _ = _; rw [HR2.out, h1]; rfl
        clear h1
        go_wp2_with fail
        go_ret
        exact ⟨ret_int H0.out.symm, rfl⟩
      | true =>
        cases h2 : p.all rightE with
        | false =>
          have H0 : Hid (r = 1) := by show _ = _; rw [HR2.out, h1, h2]; rfl
          clear h1 h2
          go_wp2_with fail
          go_ret
          exact ⟨ret_int H0.out.symm, rfl⟩
        | true =>
          cases h3 : p.all shortE with
          | false =>
            have H0 : Hid (r = 5) := by show _ = _; rw [HR2.out, h1, h2, h3]; rfl
            clear h1 h2 h3
            go_wp2_with fail
            go_ret
            exact ⟨ret_int H0.out.symm, rfl⟩
          | true =>
            have H0 : Hid (r = 0) := by show _ = _; rw [HR2.out, h1, h2, h3]; rfl
            clear h1 h2 h3
            go_wp2_with fail
            go_ret
            exact ⟨ret_int H0.out.symm, rfl⟩
theorem Tryz.infoEd : (Tryz.prog.info? 49).map (fun i => (i.zero, i.size, i.bytes)) = some (some (.agg #[.int .i64 0, .string ⟨#[]⟩, .string ⟨#[]⟩]), 3, 40) := by kernel_rfl
theorem neq_edit (a b : Ed) (w : World) : (binOp .neq 49 (.agg #[.int .i64 a.1, .string a.2.1, .string a.2.2]) (.agg #[.int .i64 b.1, .string b.2.1, .string b.2.2])).run Tryz.prog w = .ok (.bool (!decide (a = b))) w := by
  obtain ⟨a1, a2, a3⟩ := a
  obtain ⟨b1, b2, b3⟩ := b
  have hS : Tryz.prog.underlying 49 = some (.struct (Tryz.prog.fieldsOf 49)) := by kernel_rfl
  have hp : Tryz.prog.stoodInHeld 49 = false := by kernel_rfl
  have u9 := Tryz.underlying9
  have a9 := Tryz.isAgg9
  have z9 := Tryz.sizeOf9
  have u3 := Tryz.underlying3
  have a3' := Tryz.isAgg3
  have z3 := Tryz.sizeOf3
  rw [run_neq_struct, show (10000 : Nat) = 9999 + 1 from rfl, run_equalIn_agg w 9999 49 _ _ hS hp]
  simp only [Program.fieldsOf, Tryz.underlying49]
  go_simp
  by_cases h1 : a1 = b1
  · subst h1
    by_cases h2 : a2 = b2
    · subst h2
      by_cases h3 : a3 = b3
      · subst h3; simp
      · have e3 := beq_eq_false_iff_ne.1 (seq_false h3)
        simp [h3, e3]
    · have e2 := beq_eq_false_iff_ne.1 (seq_false h2)
      simp [h2, e2]
  · simp [h1]
set_option maxHeartbeats 2000000 in
set_option maxRecDepth 100000 in
theorem rsameE_any (v u : Value) (p q : List Ed) (w : World) (hv : KE.Is w v p) (hu : KE.Is w u q) (hl1 : p.length ≤ maxLen) :
    Calls Tryz.prog 30 #[v, u] w fun e w' => e = .returned (.bool (decide (p = q))) ∧ ∃ n, w' = w.drewN n := by
  unfold maxLen at hl1
  obtain ⟨a1, k1, rfl, hd1⟩ := hv
  obtain ⟨a2, k2, rfl, hd2⟩ := hu
  obtain ⟨r, hr⟩ : ∃ r, decide (p = q) = r := ⟨_, rfl⟩
  rw [hr]
  have HR := hid hr
  have HD1 := hid hd1
  have HD2 := hid hd2
  clear hr hd1 hd2
  by_cases hl : p.length = q.length
  · have hb : ((p.length : Int) != (q.length : Int)) = false := by simp [hl]
    have HL := hid hl
    clear hl
    go_enter Tryz.func30, Tryz.ntmps30
    go_wp2_with fail
    go_loopg [5] p.length (fun g vi wr => ∃ i m : Nat, vi = .int .i64 i ∧ i ≤ p.length ∧ p.length - i ≤ g ∧ wr = w.drewN m ∧ Hid (∀ j, j < i → p[j]? = q[j]?))
    case atStart => exact ⟨0, 0, rfl, by omega, by omega, rfl, fun j h => by omega⟩
    case round =>
      obtain ⟨i, m, rfl, hi, hg, rfl, HJ⟩ := hrel
      by_cases hlt : i < p.length
      · have hlt2 : i < q.length := by rw [← HL.out]; exact hlt
        have i1 : (0 : Int) ≤ ↑i := by omega
        have i2 : (↑i : Int) < ↑p.length := by omega
        have i3 : (↑i : Int) < ↑q.length := by omega
        rcases HD1.out with hn | ⟨b1, o1, rfl, k1⟩
        · rw [hn] at hlt; simp at hlt
        rcases HD2.out with hn | ⟨b2, o2, rfl, k2⟩
        · rw [hn] at hlt2; simp at hlt2
        obtain ⟨x0, x1, x2⟩ := ke_cells k1 i hlt
        obtain ⟨y0, y1, y2⟩ := ke_cells k2 i hlt2
        have hne := fun W => neq_edit p[i] q[i] W
        have G1 := hid (List.getElem?_eq_getElem hlt)
        have G2 := hid (List.getElem?_eq_getElem hlt2)
        obtain ⟨x, hx⟩ : ∃ x, p[i] = x := ⟨_, rfl⟩
        obtain ⟨y, hy⟩ : ∃ y, q[i] = y := ⟨_, rfl⟩
        rw [hx] at x0 x1 x2 hne G1
        rw [hy] at y0 y1 y2 hne G2
        clear k1 k2 hx hy
        by_cases hst : x = y
        · have hd := decide_eq_true hst
          rw [hd] at hne
          have HS := hid hst
          clear hst hd
          go_wp2_with fail
          go_quiet (fail)
          go_wp2_with fail
          go_roundg (p.length - (i + 1))
          case measure => omega
          refine ⟨i + 1, _, by go_num, by omega, by omega, rfl, fun j hj => ?_⟩
          by_cases e : j = i
          · subst e; rw [G1.out, G2.out, HS.out]
          · exact HJ.out j (by omega)
        · have hd := decide_eq_false hst
          rw [hd] at hne
          have H0 : Hid (r = false) := HR.out.symm.trans (decide_eq_false fun e => hst (by
            have := G1.out
            rw [e, G2.out] at this
            exact (Option.some.inj this).symm))
          clear hst hd
          go_wp2_with fail
          go_quiet (fail)
          go_wp2_with fail
          go_ret
          exact ⟨ret_bool H0.out.symm, _, by rw [World.drewN_drewN]⟩
      · have hltz : ¬ (i : Int) < (p.length : Int) := by omega
        have H0 : Hid (r = true) := HR.out.symm.trans (decide_eq_true (List.ext_getElem? fun j => by
          by_cases hj : j < p.length
          · exact HJ.out j (by omega)
          · rw [List.getElem?_eq_none (by omega), List.getElem?_eq_none (by have := HL.out; omega)]))
        go_wp2_with fail
        go_ret
        exact ⟨ret_bool H0.out.symm, _, rfl⟩
  · have hb : ((p.length : Int) != (q.length : Int)) = true := by simp; omega
    have H0 : Hid (r = false) := HR.out.symm.trans (decide_eq_false fun e => hl (by rw [e]))
    clear hl
    go_enter Tryz.func30, Tryz.ntmps30
    go_wp2_with fail
    go_ret
    exact ⟨ret_bool H0.out.symm, 0, rfl⟩
def signS (k : Int) : ByteArray := if k = 1 then ⟨#[58, 61]⟩ else if k = 2 then ⟨#[43, 61]⟩ else if k = 3 then ⟨#[45, 61]⟩ else if k = 4 then ⟨#[126]⟩ else ⟨#[61, 61]⟩
def kindN (c : Int) : Int := if c = 58 then 1 else if c = 43 then 2 else if c = 45 then 3 else if c = 126 then 4 else if c = 61 then 5 else 0
theorem kindN_range (c : Int) : 0 ≤ kindN c ∧ kindN c ≤ 5 := by
  unfold kindN
  repeat' split
  all_goals omega
end Go.Proofs.YtjoimhmhiophfaaGreatDoor

namespace Go.Proofs.YtjoimhmhiophfaaGreatDoor
open Go.RowKit Go.Lib
def wordE (x : Ed) : ByteArray := x.2.1 ++ signS x.1 ++ ⟨(writeL x.2.2.data.toList).toArray⟩
def lineE (l : List Ed) : ByteArray := lineB (l.map wordE)
theorem wordE_data (x : Ed) : (wordE x).data.toList = x.2.1.data.toList ++ ((signS x.1).data.toList ++ writeL x.2.2.data.toList) := by
  unfold wordE
  simp only [data_append]
  simp
theorem sign_size (k : Int) : (signS k).size ≤ 2 ∧ 1 ≤ (signS k).size := by
  unfold signS
  repeat' split
  all_goals exact ⟨by decide, by decide⟩
theorem wordE_len {x : Ed} (h1 : namedE x = true) (h2 : shortE x = true) : (wordE x).size ≤ 418 := by
  have h3 : x.2.1.size ≤ 32 := by simpa using fieldB_len h1
  have h4 := writeL_len x.2.2.data.toList
  have h5 : x.2.2.data.toList.length = x.2.2.size := by simp
  have h6 := of_decide_eq_true h2
  have h7 := sign_size x.1
  have h8 : (⟨(writeL x.2.2.data.toList).toArray⟩ : ByteArray).size = (writeL x.2.2.data.toList).length := by show (writeL x.2.2.data.toList).toArray.size = _; simp
  unfold wordE
  rw [ByteArray.size_append, ByteArray.size_append, h8]
  omega
theorem lineE_size {ws : List ByteArray} (hn : ws.length ≤ 16) (hs : ∀ x ∈ ws, x.size ≤ 418) : (lineB ws).size ≤ 6704 := by
  have e : (lineB ws).size = (Lib.join (ws.map (·.data.toList)) [32]).length := by rw [← lineB_data]; simp
  have h1 := join_size 418 (ws.map (·.data.toList)) (fun w hw => by
    obtain ⟨x, hx, rfl⟩ := List.mem_map.1 hw
    simpa using hs x hx)
  rw [List.length_map] at h1
  have h3 : ws.length * (418 + 1) ≤ 16 * (418 + 1) := Nat.mul_le_mul_right _ hn
  omega
theorem wrap_i64E (n : Int) (h1 : -9223372036854775808 ≤ n) (h2 : n ≤ 9223372036854775807) : IntKind.i64.wrap n = n := by
  simp [IntKind.wrap, IntKind.signed, IntKind.bits]; omega
def isK (c : UInt8) : Bool := kindN (c.toNat : Int) != 0
def editO (l : List UInt8) : Option Ed :=
  match l.dropWhile (fun c => !isK c) with
  | [] => none
  | c :: r =>
    if kindN (c.toNat : Int) = 4 then (if r = [] then some (4, ⟨(l.takeWhile (fun c => !isK c)).toArray⟩, ⟨#[]⟩) else none)
    else match r with
      | [] => none
      | d :: r2 => if d = 61 then (match readL r2 with
        | none => none
        | some t => some (kindN (c.toNat : Int), ⟨(l.takeWhile (fun c => !isK c)).toArray⟩, ⟨t.toArray⟩)) else none
def editsW : List (List UInt8) → Option (List Ed)
  | [] => some []
  | l :: ls => match editO l with
    | none => none
    | some x => (editsW ls).map (x :: ·)
theorem editsW_append (a b : List (List UInt8)) : editsW (a ++ b) = (editsW a).bind fun xs => (editsW b).map (xs ++ ·) := by
  induction a with
  | nil => simp [editsW]
  | cons l a ih =>
    simp only [List.cons_append, editsW, ih]
    cases editO l with
    | none => rfl
    | some x =>
      cases editsW a with
      | none => rfl
      | some xs => cases editsW b <;> rfl
theorem editsW_no {a b : List (List UInt8)} {l : List UInt8} (h : editO l = none) : editsW (a ++ l :: b) = none := by
  rw [editsW_append]
  cases editsW a with
  | none => rfl
  | some x => simp [editsW, h]
theorem editsW_snoc {a : List (List UInt8)} {l : List UInt8} {xs : List Ed} {x : Ed} (ha : editsW a = some xs) (h : editO l = some x) : editsW (a ++ [l]) = some (xs ++ [x]) := by
  rw [editsW_append, ha]
  simp [editsW, h]
theorem k_split {l : List UInt8} {k : Nat} (hk : k < l.length) (h : ∀ d ∈ l.take k, isK d = false) (h2 : isK l[k] = true) :
    l.takeWhile (fun c => !isK c) = l.take k ∧ l.dropWhile (fun c => !isK c) = l[k] :: l.drop (k + 1) := by
  have e : l = l.take k ++ l[k] :: l.drop (k + 1) := by
    conv => lhs; rw [← List.take_append_drop k l, List.drop_eq_getElem_cons hk]
  have hp : ∀ d ∈ l.take k, (!isK d) = true := fun d hd => by rw [h d hd]; rfl
  constructor
  · conv => lhs; rw [e]
    rw [List.takeWhile_append_of_pos hp, List.takeWhile_cons, h2]
    simp
  · conv => lhs; rw [e]
    rw [List.dropWhile_append_of_pos hp, List.dropWhile_cons, h2]
    simp
theorem k_none {l : List UInt8} (h : ∀ d ∈ l, isK d = false) : editO l = none := by
  have : l.dropWhile (fun c => !isK c) = [] := by
    induction l with
    | nil => rfl
    | cons c l ih =>
      rw [List.dropWhile_cons, h c (by simp)]
      simpa using ih fun d hd => h d (by simp [hd])
  unfold editO
  rw [this]
theorem kind_sign {c : UInt8} (h : isK c = true) : c = 58 ∨ c = 43 ∨ c = 45 ∨ c = 126 ∨ c = 61 := by
  unfold isK at h
  rw [bne_iff_ne] at h
  unfold kindN at h
  have key : ∀ k : UInt8, (c.toNat : Int) = (k.toNat : Int) → c = k := fun k e => UInt8.toNat_inj.1 (by omega)
  by_cases h1 : (c.toNat : Int) = 58
  · exact Or.inl (key 58 h1)
  by_cases h2 : (c.toNat : Int) = 43
  · exact Or.inr (Or.inl (key 43 h2))
  by_cases h3 : (c.toNat : Int) = 45
  · exact Or.inr (Or.inr (Or.inl (key 45 h3)))
  by_cases h4 : (c.toNat : Int) = 126
  · exact Or.inr (Or.inr (Or.inr (Or.inl (key 126 h4))))
  by_cases h5 : (c.toNat : Int) = 61
  · exact Or.inr (Or.inr (Or.inr (Or.inr (key 61 h5))))
  rw [if_neg h1, if_neg h2, if_neg h3, if_neg h4, if_neg h5] at h
  exact absurd rfl h
theorem field_nokind {l : List UInt8} (h : fieldB l = true) : ∀ c ∈ l, isK c = false := by
  intro c hc
  unfold fieldB spell at h
  cases l with
  | nil => simp at hc
  | cons x r =>
    simp only [Bool.and_eq_true, List.all_eq_true] at h
    have key : lodB (c.toNat : Int) = true ∨ smallB (c.toNat : Int) = true := by
      rcases List.mem_cons.1 hc with e | hc
      · exact Or.inr (by rw [e]; exact h.1.2)
      · exact Or.inl (h.2 _ hc)
    cases ho : isK c with
    | false => rfl
    | true =>
      rcases kind_sign ho with rfl | rfl | rfl | rfl | rfl <;> (rcases key with k | k <;> (revert k; decide))
theorem editO_back {x : Ed} (h1 : namedE x = true) (h2 : rightE x = true) : editO (wordE x).data.toList = some x := by
  obtain ⟨k, n, t⟩ := x
  have hr : (1 ≤ k ∧ k ≤ 5) ∧ (k ≠ 4 ∨ t.size = 0) := by
    unfold rightE at h2
    simp only [Bool.and_eq_true, Bool.or_eq_true, decide_eq_true_eq] at h2
    exact h2
  obtain ⟨⟨hk1, hk5⟩, hk4⟩ := hr
  have hno := field_nokind h1
  simp only at hno
  have key : ∀ (c : UInt8) (r : List UInt8), isK c = true → (n.data.toList ++ c :: r).takeWhile (fun c => !isK c) = n.data.toList ∧ (n.data.toList ++ c :: r).dropWhile (fun c => !isK c) = c :: r := fun c r hc => by
    have hkl : n.data.toList.length < (n.data.toList ++ c :: r).length := by simp
    have hg : (n.data.toList ++ c :: r)[n.data.toList.length] = c := by simp
    obtain ⟨e1, e2⟩ := k_split hkl (by rw [List.take_left' rfl]; exact hno) (by rw [hg]; exact hc)
    rw [List.take_left' rfl] at e1
    rw [hg, show n.data.toList ++ c :: r = (n.data.toList ++ [c]) ++ r by simp, List.drop_left' (by simp)] at e2
    refine ⟨e1, ?_⟩
    rw [show n.data.toList ++ c :: r = (n.data.toList ++ [c]) ++ r by simp]
    exact e2
  have hcs : k = 1 ∨ k = 2 ∨ k = 3 ∨ k = 4 ∨ k = 5 := by omega
  have hback : (⟨n.data.toList.toArray⟩ : ByteArray) = n := ba_back n
  have htb : (⟨t.data.toList.toArray⟩ : ByteArray) = t := ba_back t
  rw [wordE_data]
  simp only
  rcases hcs with rfl | rfl | rfl | rfl | rfl
  · obtain ⟨e1, e2⟩ := key 58 (61 :: writeL t.data.toList) rfl
    rw [show (signS 1).data.toList ++ writeL t.data.toList = 58 :: 61 :: writeL t.data.toList from rfl]
    unfold editO
    rw [e1, e2]
    simp only
    rw [if_neg (by decide), if_pos trivial, read_write]
    simp only
    rw [hback, htb]
    rfl
  · obtain ⟨e1, e2⟩ := key 43 (61 :: writeL t.data.toList) rfl
    rw [show (signS 2).data.toList ++ writeL t.data.toList = 43 :: 61 :: writeL t.data.toList from rfl]
    unfold editO
    rw [e1, e2]
    simp only
    rw [if_neg (by decide), if_pos trivial, read_write]
    simp only
    rw [hback, htb]
    rfl
  · obtain ⟨e1, e2⟩ := key 45 (61 :: writeL t.data.toList) rfl
    rw [show (signS 3).data.toList ++ writeL t.data.toList = 45 :: 61 :: writeL t.data.toList from rfl]
    unfold editO
    rw [e1, e2]
    simp only
    rw [if_neg (by decide), if_pos trivial, read_write]
    simp only
    rw [hback, htb]
    rfl
  · have h0 : t.size = 0 := by
      rcases hk4 with h | h
      · exact absurd rfl h
      · exact h
    have ht : t = ⟨#[]⟩ := ba_eq (List.length_eq_zero_iff.1 (by simpa using h0))
    subst ht
    obtain ⟨e1, e2⟩ := key 126 [] rfl
    rw [show (signS 4).data.toList ++ writeL (⟨#[]⟩ : ByteArray).data.toList = [126] from rfl]
    unfold editO
    rw [e1, e2]
    simp only
    rw [if_pos (by decide), if_pos trivial, hback]
  · obtain ⟨e1, e2⟩ := key 61 (61 :: writeL t.data.toList) rfl
    rw [show (signS 5).data.toList ++ writeL t.data.toList = 61 :: 61 :: writeL t.data.toList from rfl]
    unfold editO
    rw [e1, e2]
    simp only
    rw [if_neg (by decide), if_pos trivial, read_write]
    simp only
    rw [hback, htb]
    rfl
theorem edits_back (p : List Ed) (h : ∀ x ∈ p, namedE x = true ∧ rightE x = true) : editsW ((p.map wordE).map (·.data.toList)) = some p := by
  induction p with
  | nil => rfl
  | cons x p ih =>
    have hx := h x (by simp)
    simp only [List.map_cons, editsW]
    rw [editO_back hx.1 hx.2, ih fun y hy => h y (by simp [hy])]
    rfl
theorem sign_noblank (k : Int) : (32 : UInt8) ∉ (signS k).data.toList := by
  unfold signS
  repeat' split
  all_goals decide
theorem wordE_noblank {x : Ed} (h1 : namedE x = true) : (32 : UInt8) ∉ (wordE x).data.toList := by
  rw [wordE_data, List.mem_append, List.mem_append]
  rintro (h | h | h)
  · exact noblank_mem (field_noblank h1) h
  · exact sign_noblank _ h
  · exact noblank_mem (write_noblank _) h
def prE (l : List Ed) : ByteArray := if mayE l = 0 then lineE l else ⟨#[]⟩
def codeL (o : Option (List Ed)) : Int := match o with | none => 4 | some p => mayE p
def ansL (o : Option (List Ed)) : List Ed := match o with | none => [] | some p => if mayE p = 0 then p else []
end Go.Proofs.YtjoimhmhiophfaaGreatDoor

namespace Go.Proofs.YtjoimhmhiophfaaGreatDoor
open Go.RowKit
set_option maxHeartbeats 1000000 in
theorem id_any (n : Int) (w : World) : Calls Tryz.prog 161 #[.int .u8 n] w fun e w' => e = .returned (.bool (idB n)) ∧ w' = w := by
  go_enter Tryz.func161, Tryz.ntmps161
  go_wp2
  all_goals go_ret
  all_goals refine ⟨ret_bool ?_, rfl⟩
  all_goals (rw [Bool.eq_iff_iff]; simp_all [idB, lodB, digB, letB, bigB, smallB]; try omega)
set_option maxHeartbeats 1000000 in
theorem spelled_type (s : ByteArray) (w : World) (hs : s.size ≤ maxLen) :
    Calls Tryz.prog 123 #[.string s, .func (.func 126) #[] #[], .func (.func 127) #[] #[]] w fun e w' => e = .returned (.bool (typeB s.data.toList)) ∧ w' = w := by
  unfold maxLen at hs
  by_cases he : s.size = 0
  · have hb := spell_empty bigB letB s he
    have hlt : (s.size : Int) < 1 := by omega
    have HB : Hid (spell bigB letB s.data.toList = false) := hb
    clear he hb
    go_enter Tryz.func123, Tryz.ntmps123
    go_wp2_with fail
    go_ret
    exact ⟨ret_bool HB.out.symm, rfl⟩
  have hpos : 0 < s.size := by omega
  have hnl : ¬ (s.size : Int) < 1 := by omega
  by_cases hl : 32 < s.size
  · have hb := spell_long bigB letB s hl
    have HB : Hid (spell bigB letB s.data.toList = false) := hb
    have hgt : (32 : Int) < (s.size : Int) := by omega
    clear he hb
    go_enter Tryz.func123, Tryz.ntmps123
    go_wp2_with fail
    go_ret
    exact ⟨ret_bool HB.out.symm, rfl⟩
  have hle : ¬ (32 : Int) < (s.size : Int) := by omega
  clear he
  cases hc : bigB (s[0].toNat : Int) with
  | false =>
    have HB : Hid (spell bigB letB s.data.toList = false) := spell_first bigB letB s hpos hc
    go_enter Tryz.func123, Tryz.ntmps123
    go_wp2_with (go_at_call 126; refine (big_any _ _).mono ?_; rintro e w' ⟨rfl, rfl⟩)
    go_ret
    exact ⟨ret_bool HB.out.symm, rfl⟩
  | true =>
    have HT : Hid ((∀ k, 1 ≤ k → (hk : k < s.size) → letB (s[k].toNat : Int) = true) → spell bigB letB s.data.toList = true) := spell_true bigB letB s hpos (by omega) hc
    have HA : Hid (∀ k, 1 ≤ k → (hk : k < s.size) → letB (s[k].toNat : Int) = false → spell bigB letB s.data.toList = false) := fun k h1 hk => spell_at bigB letB s k h1 hk
    go_enter Tryz.func123, Tryz.ntmps123
    go_wp2_with (go_at_call 126; refine (big_any _ _).mono ?_; rintro e w' ⟨rfl, rfl⟩)
    go_loop [7] (fun i => ∃ k : Nat, 1 ≤ k ∧ k ≤ s.size ∧ i = .int .i64 k ∧ (∀ j, 1 ≤ j → j < k → (hj : j < s.size) → letB (s[j].toNat : Int) = true)) (fun i => s.size - (intOf i).toNat)
    case atStart => exact ⟨1, by omega, by omega, rfl, fun j h1 h2 => by omega⟩
    case round =>
      obtain ⟨k, hk1, hk, rfl, hall⟩ := hrel
      have HL : Hid (∀ j, 1 ≤ j → j < k → (hj : j < s.size) → letB (s[j].toNat : Int) = true) := hall
      clear hall
      by_cases hlt : k < s.size
      · cases hd : letB (s[k].toNat : Int) with
        | false =>
          go_wp2_with (go_at_call 127; refine (letter_any _ _).mono ?_; rintro e w' ⟨rfl, rfl⟩)
          go_ret
          exact ⟨ret_bool (HA.out k hk1 hlt hd).symm, rfl⟩
        | true =>
          go_wp2_with (go_at_call 127; refine (letter_any _ _).mono ?_; rintro e w' ⟨rfl, rfl⟩)
          go_round
          case rel =>
            refine ⟨k + 1, by omega, by omega, by go_num, fun j h1 h2 hj => ?_⟩
            by_cases hjk : j = k
            · subst hjk; exact hd
            · exact HL.out j h1 (by omega) hj
          case measure => simp [intOf]; omega
      · go_wp2_with fail
        go_ret
        exact ⟨ret_bool (HT.out fun j h1 hj => HL.out j h1 (by omega) hj).symm, rfl⟩
set_option maxHeartbeats 1000000 in
theorem type_any (s : ByteArray) (w : World) (hs : s.size ≤ maxLen) :
    Calls Tryz.prog 82 #[.string s] w fun e w' => e = .returned (.bool (typeB s.data.toList)) ∧ w' = w := by
  go_enter Tryz.func82, Tryz.ntmps82
  go_wp2_with (go_at_call 123; refine (spelled_type _ _ hs).mono ?_; rintro e w' ⟨rfl, rfl⟩)
  go_ret
  exact ⟨rfl, rfl⟩
set_option maxHeartbeats 1000000 in
theorem spelled_iden (s : ByteArray) (w : World) (hs : s.size ≤ maxLen) :
    Calls Tryz.prog 123 #[.string s, .func (.func 161) #[] #[], .func (.func 161) #[] #[]] w fun e w' => e = .returned (.bool (idenB s.data.toList)) ∧ w' = w := by
  unfold maxLen at hs
  by_cases he : s.size = 0
  · have hb := spell_empty idB idB s he
    have hlt : (s.size : Int) < 1 := by omega
    have HB : Hid (spell idB idB s.data.toList = false) := hb
    clear he hb
    go_enter Tryz.func123, Tryz.ntmps123
    go_wp2_with fail
    go_ret
    exact ⟨ret_bool HB.out.symm, rfl⟩
  have hpos : 0 < s.size := by omega
  have hnl : ¬ (s.size : Int) < 1 := by omega
  by_cases hl : 32 < s.size
  · have hb := spell_long idB idB s hl
    have HB : Hid (spell idB idB s.data.toList = false) := hb
    have hgt : (32 : Int) < (s.size : Int) := by omega
    clear he hb
    go_enter Tryz.func123, Tryz.ntmps123
    go_wp2_with fail
    go_ret
    exact ⟨ret_bool HB.out.symm, rfl⟩
  have hle : ¬ (32 : Int) < (s.size : Int) := by omega
  clear he
  cases hc : idB (s[0].toNat : Int) with
  | false =>
    have HB : Hid (spell idB idB s.data.toList = false) := spell_first idB idB s hpos hc
    go_enter Tryz.func123, Tryz.ntmps123
    go_wp2_with (go_at_call 161; refine (id_any _ _).mono ?_; rintro e w' ⟨rfl, rfl⟩)
    go_ret
    exact ⟨ret_bool HB.out.symm, rfl⟩
  | true =>
    have HT : Hid ((∀ k, 1 ≤ k → (hk : k < s.size) → idB (s[k].toNat : Int) = true) → spell idB idB s.data.toList = true) := spell_true idB idB s hpos (by omega) hc
    have HA : Hid (∀ k, 1 ≤ k → (hk : k < s.size) → idB (s[k].toNat : Int) = false → spell idB idB s.data.toList = false) := fun k h1 hk => spell_at idB idB s k h1 hk
    go_enter Tryz.func123, Tryz.ntmps123
    go_wp2_with (go_at_call 161; refine (id_any _ _).mono ?_; rintro e w' ⟨rfl, rfl⟩)
    go_loop [7] (fun i => ∃ k : Nat, 1 ≤ k ∧ k ≤ s.size ∧ i = .int .i64 k ∧ (∀ j, 1 ≤ j → j < k → (hj : j < s.size) → idB (s[j].toNat : Int) = true)) (fun i => s.size - (intOf i).toNat)
    case atStart => exact ⟨1, by omega, by omega, rfl, fun j h1 h2 => by omega⟩
    case round =>
      obtain ⟨k, hk1, hk, rfl, hall⟩ := hrel
      have HL : Hid (∀ j, 1 ≤ j → j < k → (hj : j < s.size) → idB (s[j].toNat : Int) = true) := hall
      clear hall
      by_cases hlt : k < s.size
      · cases hd : idB (s[k].toNat : Int) with
        | false =>
          go_wp2_with (go_at_call 161; refine (id_any _ _).mono ?_; rintro e w' ⟨rfl, rfl⟩)
          go_ret
          exact ⟨ret_bool (HA.out k hk1 hlt hd).symm, rfl⟩
        | true =>
          go_wp2_with (go_at_call 161; refine (id_any _ _).mono ?_; rintro e w' ⟨rfl, rfl⟩)
          go_round
          case rel =>
            refine ⟨k + 1, by omega, by omega, by go_num, fun j h1 h2 hj => ?_⟩
            by_cases hjk : j = k
            · subst hjk; exact hd
            · exact HL.out j h1 (by omega) hj
          case measure => simp [intOf]; omega
      · go_wp2_with fail
        go_ret
        exact ⟨ret_bool (HT.out fun j h1 hj => HL.out j h1 (by omega) hj).symm, rfl⟩
set_option maxHeartbeats 1000000 in
theorem iden_any (s : ByteArray) (w : World) (hs : s.size ≤ maxLen) :
    Calls Tryz.prog 125 #[.string s] w fun e w' => e = .returned (.bool (idenB s.data.toList)) ∧ w' = w := by
  go_enter Tryz.func125, Tryz.ntmps125
  go_wp2_with (go_at_call 123; refine (spelled_iden _ _ hs).mono ?_; rintro e w' ⟨rfl, rfl⟩)
  go_ret
  exact ⟨rfl, rfl⟩
set_option maxHeartbeats 1000000 in
theorem spelled_temp (s : ByteArray) (w : World) (hs : s.size ≤ maxLen) :
    Calls Tryz.prog 123 #[.string s, .func (.func 124) #[] #[], .func (.func 124) #[] #[]] w fun e w' => e = .returned (.bool (tempB s.data.toList)) ∧ w' = w := by
  unfold maxLen at hs
  by_cases he : s.size = 0
  · have hb := spell_empty lodB lodB s he
    have hlt : (s.size : Int) < 1 := by omega
    have HB : Hid (spell lodB lodB s.data.toList = false) := hb
    clear he hb
    go_enter Tryz.func123, Tryz.ntmps123
    go_wp2_with fail
    go_ret
    exact ⟨ret_bool HB.out.symm, rfl⟩
  have hpos : 0 < s.size := by omega
  have hnl : ¬ (s.size : Int) < 1 := by omega
  by_cases hl : 32 < s.size
  · have hb := spell_long lodB lodB s hl
    have HB : Hid (spell lodB lodB s.data.toList = false) := hb
    have hgt : (32 : Int) < (s.size : Int) := by omega
    clear he hb
    go_enter Tryz.func123, Tryz.ntmps123
    go_wp2_with fail
    go_ret
    exact ⟨ret_bool HB.out.symm, rfl⟩
  have hle : ¬ (32 : Int) < (s.size : Int) := by omega
  clear he
  cases hc : lodB (s[0].toNat : Int) with
  | false =>
    have HB : Hid (spell lodB lodB s.data.toList = false) := spell_first lodB lodB s hpos hc
    go_enter Tryz.func123, Tryz.ntmps123
    go_wp2_with (go_at_call 124; refine (lod_any _ _).mono ?_; rintro e w' ⟨rfl, rfl⟩)
    go_ret
    exact ⟨ret_bool HB.out.symm, rfl⟩
  | true =>
    have HT : Hid ((∀ k, 1 ≤ k → (hk : k < s.size) → lodB (s[k].toNat : Int) = true) → spell lodB lodB s.data.toList = true) := spell_true lodB lodB s hpos (by omega) hc
    have HA : Hid (∀ k, 1 ≤ k → (hk : k < s.size) → lodB (s[k].toNat : Int) = false → spell lodB lodB s.data.toList = false) := fun k h1 hk => spell_at lodB lodB s k h1 hk
    go_enter Tryz.func123, Tryz.ntmps123
    go_wp2_with (go_at_call 124; refine (lod_any _ _).mono ?_; rintro e w' ⟨rfl, rfl⟩)
    go_loop [7] (fun i => ∃ k : Nat, 1 ≤ k ∧ k ≤ s.size ∧ i = .int .i64 k ∧ (∀ j, 1 ≤ j → j < k → (hj : j < s.size) → lodB (s[j].toNat : Int) = true)) (fun i => s.size - (intOf i).toNat)
    case atStart => exact ⟨1, by omega, by omega, rfl, fun j h1 h2 => by omega⟩
    case round =>
      obtain ⟨k, hk1, hk, rfl, hall⟩ := hrel
      have HL : Hid (∀ j, 1 ≤ j → j < k → (hj : j < s.size) → lodB (s[j].toNat : Int) = true) := hall
      clear hall
      by_cases hlt : k < s.size
      · cases hd : lodB (s[k].toNat : Int) with
        | false =>
          go_wp2_with (go_at_call 124; refine (lod_any _ _).mono ?_; rintro e w' ⟨rfl, rfl⟩)
          go_ret
          exact ⟨ret_bool (HA.out k hk1 hlt hd).symm, rfl⟩
        | true =>
          go_wp2_with (go_at_call 124; refine (lod_any _ _).mono ?_; rintro e w' ⟨rfl, rfl⟩)
          go_round
          case rel =>
            refine ⟨k + 1, by omega, by omega, by go_num, fun j h1 h2 hj => ?_⟩
            by_cases hjk : j = k
            · subst hjk; exact hd
            · exact HL.out j h1 (by omega) hj
          case measure => simp [intOf]; omega
      · go_wp2_with fail
        go_ret
        exact ⟨ret_bool (HT.out fun j h1 hj => HL.out j h1 (by omega) hj).symm, rfl⟩
set_option maxHeartbeats 1000000 in
theorem temp_any (s : ByteArray) (w : World) (hs : s.size ≤ maxLen) :
    Calls Tryz.prog 80 #[.string s] w fun e w' => e = .returned (.bool (tempB s.data.toList)) ∧ w' = w := by
  go_enter Tryz.func80, Tryz.ntmps80
  go_wp2_with (go_at_call 123; refine (spelled_temp _ _ hs).mono ?_; rintro e w' ⟨rfl, rfl⟩)
  go_ret
  exact ⟨rfl, rfl⟩
end Go.Proofs.YtjoimhmhiophfaaGreatDoor

namespace Go.Proofs.YtjoimhmhiophfaaGreatDoor
open Go.RowKit
def keyB (a b : ByteArray) : Bool := typeB a.data.toList && idenB b.data.toList
theorem bcell {W w1 : World} (hb : Below W.heap.size W w1) : (∀ b o, b < W.heap.size → w1.cell? ⟨b, o, none⟩ = W.cell? ⟨b, o, none⟩) ∧ (∀ b o, b < W.heap.size → w1.frozen? ⟨b, o, none⟩ = W.frozen? ⟨b, o, none⟩) :=
  ⟨fun b o h => hb.cell (p := ⟨b, o, none⟩) h, fun b o h => hb.frozen (p := ⟨b, o, none⟩) h⟩
set_option maxHeartbeats 400000 in
theorem key_any (a b : ByteArray) (w : World) (ha : a.size ≤ maxLen) (hb : b.size ≤ maxLen) :
    Calls Tryz.prog 81 #[.agg #[.string a, .string b]] w fun e w' => e = .returned (.bool (keyB a b)) ∧ Below w.heap.size w w' := by
  have HK : Hid (keyB a b = (typeB a.data.toList && idenB b.data.toList)) := rfl
  cases ht : typeB a.data.toList
  all_goals
    go_enter Tryz.func81, Tryz.ntmps81
    go_wp2_with (first | (go_at_call 82; refine (type_any _ _ ha).mono ?_; rintro e w' ⟨rfl, rfl⟩) | (go_at_call 125; refine (iden_any _ _ hb).mono ?_; rintro e w' ⟨rfl, rfl⟩))
    go_ret
    exact ⟨ret_bool (by rw [HK.out, ht]; rfl), (Below.refl _ _).alloc (Nat.le_refl _) _⟩
set_option maxHeartbeats 400000 in
theorem nprint_yes (a b : ByteArray) (w : World) (ha : a.size ≤ maxLen) (hb : b.size ≤ maxLen) (ha32 : a.size ≤ 32) (hb32 : b.size ≤ 32) (hk : keyB a b = true) :
    Calls Tryz.prog 64 #[.agg #[.string a, .string b]] w fun e w' => e = .returned (.tuple #[.string (a ++ ⟨#[47]⟩ ++ b), .int .i64 0]) ∧ Below w.heap.size w w' := by
  go_enter Tryz.func64, Tryz.ntmps64
  go_wp2_with (go_at_call 81; refine (key_any _ _ _ ha hb).mono ?_; rintro e w1 ⟨rfl, hq⟩; obtain ⟨hc, hf⟩ := bcell hq)
  go_ret2
  refine ⟨?_, ((Below.refl _ _).alloc (Nat.le_refl _) _).trans (hq.mono (by simp))⟩
  rfl
theorem typeB_len {l : List UInt8} (h : typeB l = true) : l.length ≤ 32 := by
  cases l with
  | nil => simp
  | cons c r => simp [typeB, spell] at h; simp; omega
theorem idenB_len {l : List UInt8} (h : idenB l = true) : l.length ≤ 32 := by
  cases l with
  | nil => simp
  | cons c r => simp [idenB, spell] at h; simp; omega
theorem idenB_empty : idenB [] = false := rfl
theorem keyB_empty (a : ByteArray) : keyB a ⟨#[]⟩ = false := by
  unfold keyB
  rw [show (⟨#[]⟩ : ByteArray).data.toList = [] from rfl, idenB_empty, Bool.and_false]
theorem ext_size (s : ByteArray) (i j : Nat) (h : s.size ≤ maxLen) : (s.extract i j).size ≤ maxLen := by
  have : (s.extract i j).size ≤ s.size := by simp; omega
  omega
set_option maxHeartbeats 400000 in
theorem parse_bare (s : ByteArray) (w : World) (hs : s.size ≤ maxLen) (hix : Lib.indexByte s.data.toList 47 = -1) :
    Calls Tryz.prog 94 #[.string s] w fun e w' => e = .returned (.tuple #[.agg #[.string ⟨#[]⟩, .string ⟨#[]⟩], .int .i64 2]) ∧ Below w.heap.size w w' := by
  have HX : Hid (Lib.indexByte s.data.toList 47 = -1) := hix
  clear hix
  have hk := keyB_empty s
  have h0 : (⟨#[]⟩ : ByteArray).size ≤ maxLen := by decide
  go_enter Tryz.func94, Tryz.ntmps94
  go_wp2_with (first | (go_at_call 138; refine (cut_no _ _ _ HX.out).mono ?_; rintro e w' ⟨rfl, rfl⟩) | (go_at_call 81; refine (key_any _ _ _ hs h0).mono ?_; rintro e w1 ⟨rfl, hq⟩; obtain ⟨hc, hf⟩ := bcell hq))
  have c0 : w1.cell? ⟨w.heap.size, 0, none⟩ = some (.string ⟨#[]⟩) := by rw [hc _ _ (by simp; omega)]; simp [go_sem]
  have c1 : w1.cell? ⟨w.heap.size, 1, none⟩ = some (.string ⟨#[]⟩) := by rw [hc _ _ (by simp; omega)]; simp [go_sem]
  exact bodyPost_ret (v := .tuple #[.agg #[.string ⟨#[]⟩, .string ⟨#[]⟩], .int .i64 2]) (by simp [results, Tryz.results94, go_sem, c0, c1]) rfl
    ⟨rfl, (((((Below.refl _ _).alloc (Nat.le_refl _) _).alloc (by simp) _).trans (hq.mono (by simp; omega))).setCell (by simp) _).setCell (by simp) _⟩
set_option maxHeartbeats 400000 in
theorem parse_no (s : ByteArray) (w : World) (hs : s.size ≤ maxLen) (i : Nat) (hix : Lib.indexByte s.data.toList 47 = (i : Int)) (hi : i < s.size)
    (hk : keyB (s.extract 0 i) (s.extract (i + 1) s.size) = false) :
    Calls Tryz.prog 94 #[.string s] w fun e w' => e = .returned (.tuple #[.agg #[.string ⟨#[]⟩, .string ⟨#[]⟩], .int .i64 2]) ∧ Below w.heap.size w w' := by
  have HX : Hid (Lib.indexByte s.data.toList 47 = (i : Int)) := hix
  have h1 := ext_size s 0 i hs
  have h2 := ext_size s (i + 1) s.size hs
  have HH : Hid (i < s.size ∧ s.size ≤ maxLen ∧ (s.extract 0 i).size ≤ maxLen ∧ (s.extract (i + 1) s.size).size ≤ maxLen) := ⟨hi, hs, h1, h2⟩
  clear hix hi hs h1 h2
  go_enter Tryz.func94, Tryz.ntmps94
  go_wp2_with (first | (go_at_call 138; refine (cut_yes _ _ _ i HX.out HH.out.1 HH.out.2.1).mono ?_; rintro e w' ⟨rfl, n, rfl⟩) | (go_at_call 81; refine (key_any _ _ _ HH.out.2.2.1 HH.out.2.2.2).mono ?_; rintro e w1 ⟨rfl, hq⟩; obtain ⟨hc, hf⟩ := bcell hq))
  have c0 : w1.cell? ⟨w.heap.size, 0, none⟩ = some (.string ⟨#[]⟩) := by rw [hc _ _ (by simp; omega)]; simp [go_sem]
  have c1 : w1.cell? ⟨w.heap.size, 1, none⟩ = some (.string ⟨#[]⟩) := by rw [hc _ _ (by simp; omega)]; simp [go_sem]
  exact bodyPost_ret (v := .tuple #[.agg #[.string ⟨#[]⟩, .string ⟨#[]⟩], .int .i64 2]) (by simp [results, Tryz.results94, go_sem, c0, c1]) rfl
    ⟨rfl, ((((_root_.Go.below_drewN ((Below.refl _ _).alloc (Nat.le_refl _) _) _).alloc (by simp) _).trans (hq.mono (by simp; omega))).setCell (by simp) _).setCell (by simp) _⟩
set_option maxHeartbeats 400000 in
theorem parse_yes (s : ByteArray) (w : World) (hs : s.size ≤ maxLen) (i : Nat) (hix : Lib.indexByte s.data.toList 47 = (i : Int)) (hi : i < s.size)
    (hk : keyB (s.extract 0 i) (s.extract (i + 1) s.size) = true) :
    Calls Tryz.prog 94 #[.string s] w fun e w' => e = .returned (.tuple #[.agg #[.string (s.extract 0 i), .string (s.extract (i + 1) s.size)], .int .i64 0]) ∧ Below w.heap.size w w' := by
  have HX : Hid (Lib.indexByte s.data.toList 47 = (i : Int)) := hix
  have h1 := ext_size s 0 i hs
  have h2 := ext_size s (i + 1) s.size hs
  have HH : Hid (i < s.size ∧ s.size ≤ maxLen ∧ (s.extract 0 i).size ≤ maxLen ∧ (s.extract (i + 1) s.size).size ≤ maxLen) := ⟨hi, hs, h1, h2⟩
  clear hix hi hs h1 h2
  go_enter Tryz.func94, Tryz.ntmps94
  go_wp2_with (first | (go_at_call 138; refine (cut_yes _ _ _ i HX.out HH.out.1 HH.out.2.1).mono ?_; rintro e w' ⟨rfl, n, rfl⟩) | (go_at_call 81; refine (key_any _ _ _ HH.out.2.2.1 HH.out.2.2.2).mono ?_; rintro e w1 ⟨rfl, hq⟩; obtain ⟨hc, hf⟩ := bcell hq))
  have c0 : w1.cell? ⟨w.heap.size, 0, none⟩ = some (.string ⟨#[]⟩) := by rw [hc _ _ (by simp; omega)]; simp [go_sem]
  have c1 : w1.cell? ⟨w.heap.size, 1, none⟩ = some (.string ⟨#[]⟩) := by rw [hc _ _ (by simp; omega)]; simp [go_sem]
  exact bodyPost_ret (v := .tuple #[.agg #[.string (s.extract 0 i), .string (s.extract (i + 1) s.size)], .int .i64 0]) (by simp [results, Tryz.results94, go_sem, c0, c1]) rfl
    ⟨rfl, ((((_root_.Go.below_drewN ((Below.refl _ _).alloc (Nat.le_refl _) _) _).alloc (by simp) _).trans (hq.mono (by simp; omega))).setCell (by simp) _).setCell (by simp) _⟩
end Go.Proofs.YtjoimhmhiophfaaGreatDoor

namespace Go.Proofs.YtjoimhmhiophfaaGreatDoor
open Go.RowKit Go.Lib
structure En where
  kind : Int
  temp : ByteArray
  ka : ByteArray
  kb : ByteArray
  iff : Int
  val : List Fld
  eds : List Ed
  pred : List Tm
  stamp : Int
  num : Int
def nameN : Nat → List UInt8
  | 1 => [99, 114, 101, 97, 116, 101]
  | 2 => [101, 110, 115, 117, 114, 101]
  | 3 => [117, 112, 100, 97, 116, 101]
  | 4 => [112, 97, 116, 99, 104]
  | 5 => [100, 101, 108, 101, 116, 101]
  | 6 => [114, 101, 97, 100]
  | 7 => [110, 117, 109, 98, 101, 114]
  | 8 => [115, 101, 97, 114, 99, 104]
  | 9 => [104, 105, 115, 116, 111, 114, 121]
  | 10 => [115, 105, 110, 99, 101]
  | 11 => [97, 116]
  | 12 => [102, 105, 110, 100]
  | _ => []
def nameK (k : Int) : List UInt8 := nameN k.toNat
def typedK (k : Int) : Bool := decide (k = 8) || decide (k = 10) || decide (k = 12)
def keyEn (e : En) : Bool := if typedK e.kind = true then decide (e.kb = ⟨#[]⟩) && typeB e.ka.data.toList else keyB e.ka e.kb
def mayEn (e : En) : Bool :=
  decide (1 ≤ e.kind ∧ e.kind ≤ 12) && keyEn e &&
  (decide (e.temp = ⟨#[]⟩) || decide (e.kind ≤ 2) && tempB e.temp.data.toList) &&
  decide (e.iff ≠ 0 → 3 ≤ e.kind ∧ e.kind ≤ 5 ∧ 0 ≤ e.iff ∧ e.iff ≤ 999999999) &&
  decide (e.num ≠ 0 → e.kind = 7 ∧ 0 ≤ e.num ∧ e.num ≤ 999999999) &&
  decide (e.stamp ≠ 0 → 9 ≤ e.kind) &&
  decide (e.val ≠ [] → e.kind ≤ 3) && mayB e.val &&
  decide (e.eds ≠ [] ↔ e.kind = 4) && decide (mayE e.eds = 0) &&
  (decide (mayM e.pred = 0) && decide (sortM e.pred = e.pred)) && decide (e.pred ≠ [] → e.kind = 2 ∨ e.kind = 8 ∨ e.kind = 12)
def mayRq (l : List En) : Bool := decide (0 < l.length) && decide (l.length ≤ 16) && l.all mayEn
def bytesL (l : List ByteArray) : List (List UInt8) := l.map (·.data.toList)
def keyWd (e : En) : List UInt8 := e.ka.data.toList ++ (if e.kb = ⟨#[]⟩ then [] else 47 :: e.kb.data.toList)
def tailW (e : En) : List (List UInt8) :=
  if e.kind = 2 then bytesL (wordsL e.val) ++ [63] :: bytesL (e.pred.map wordM)
  else if e.kind = 7 then [decL e.num.toNat]
  else if e.kind = 9 ∨ e.kind = 10 then [decL e.stamp.toNat]
  else (if 0 < e.iff then [[105, 102], decL e.iff.toNat] else []) ++ (bytesL (wordsL e.val) ++ (bytesL (e.eds.map wordE) ++ bytesL (e.pred.map wordM)))
def wordsEn (e : En) : List (List UInt8) :=
  nameK e.kind :: ((if e.temp = ⟨#[]⟩ then [] else [64 :: e.temp.data.toList]) ++ ((if e.kind = 11 ∨ e.kind = 12 then [decL e.stamp.toNat] else []) ++ keyWd e :: tailW e))
def kindW (x : List UInt8) : Nat := if x = [] then 0 else ((List.range 13).find? fun k => decide (nameN k = x)).getD 0
def keyR (x : List UInt8) : Option (ByteArray × ByteArray) :=
  if Lib.indexByte x 47 = -1 then none
  else
    let i := (Lib.indexByte x 47).toNat
    if keyB ⟨(x.take i).toArray⟩ ⟨(x.drop (i + 1)).toArray⟩ = true then some (⟨(x.take i).toArray⟩, ⟨(x.drop (i + 1)).toArray⟩) else none
def valR (w : List (List UInt8)) : Option (List Fld) := (fieldsW w).bind fun fs => if codeF fs = 0 then some (ansF fs) else none
def edsR (w : List (List UInt8)) : Option (List Ed) := if codeL (editsW w) = 0 then some (ansL (editsW w)) else none
def prdR (w : List (List UInt8)) : Option (List Tm) := if codeW (termsW w) = 0 then some (ansW (termsW w)) else none
def restR (e : En) (w : List (List UInt8)) : Option En :=
  if e.kind = 1 ∨ e.kind = 3 then (valR w).map fun v => { e with val := v }
  else if e.kind = 2 then
    if [63] ∈ w then (valR (w.takeWhile fun x => decide (x ≠ [63]))).bind fun v => (prdR ((w.dropWhile fun x => decide (x ≠ [63])).drop 1)).map fun p => { e with val := v, pred := p }
    else none
  else if e.kind = 4 then (edsR w).map fun d => { e with eds := d }
  else if e.kind = 5 then if w = [] then some e else none
  else (prdR w).map fun p => { e with pred := p }
def smallR (x : Option (List UInt8)) : Option Nat := x.bind (numL 999999999)
def stampR (x : Option (List UInt8)) : Option Nat := x.bind (numL 18446744073709551615)
def tailR (e : En) (w : List (List UInt8)) : Option En :=
  if e.kind = 7 then if w.length = 1 then (smallR w[0]?).map fun n => { e with num := n } else none
  else if e.kind = 9 ∨ e.kind = 10 then if w.length = 1 then (stampR w[0]?).map fun n => { e with stamp := n } else none
  else if e.kind = 6 ∨ e.kind = 11 then if w = [] then some e else none
  else if 3 ≤ e.kind ∧ e.kind ≤ 5 ∧ w[0]? = some [105, 102] then (smallR w[1]?).bind fun n => if n = 0 then none else restR { e with iff := n } (w.drop 2)
  else restR e w
def keyT (e : En) : List (List UInt8) → Option En
  | [] => none
  | x :: w =>
    if typedK e.kind = true then tailR { e with ka := ⟨x.toArray⟩ } w
    else (keyR x).bind fun k => tailR { e with ka := k.1, kb := k.2 } w
def stampT (e : En) (w : List (List UInt8)) : Option En :=
  if 10 < e.kind then (stampR w[0]?).bind fun n => keyT { e with stamp := n } (w.drop 1) else keyT e w
def zeroEn (k : Int) : En := ⟨k, ⟨#[]⟩, ⟨#[]⟩, ⟨#[]⟩, 0, [], [], [], 0, 0⟩
def tempT (e : En) : List (List UInt8) → Option En
  | (64 :: t) :: w => if e.kind ≤ 2 then if t = [] then none else stampT { e with temp := ⟨t.toArray⟩ } w else stampT e ((64 :: t) :: w)
  | w => stampT e w
def entryR : List (List UInt8) → Option En
  | [] => none
  | x :: w => if kindW x = 0 then none else tempT (zeroEn (kindW x)) w
def entriesW : List En → List (List UInt8)
  | [] => []
  | [e] => wordsEn e
  | e :: f :: l => wordsEn e ++ [59] :: entriesW (f :: l)
def cutSemi : List (List UInt8) → List (List (List UInt8))
  | [] => [[]]
  | x :: w => if x = [59] then [] :: cutSemi w else match cutSemi w with
    | [] => [[x]]
    | c :: cs => (x :: c) :: cs
def entriesR : List (List (List UInt8)) → Option (List En)
  | [] => some []
  | c :: cs => (entryR c).bind fun e => (entriesR cs).map (e :: ·)
def onceW : List UInt8 := [111, 110, 99, 101]
def wordsRq (once : Bool) (l : List En) : List (List UInt8) := (if once = true then [onceW] else []) ++ entriesW l
def readRq (w : List (List UInt8)) : Option (Bool × List En) :=
  let once := decide (w.head? = some onceW)
  (entriesR (cutSemi (if once = true then w.drop 1 else w))).bind fun l => if mayRq l = true then some (once, l) else none
theorem kind_name : ∀ k : Nat, 1 ≤ k → k ≤ 12 → kindW (nameN k) = k := by
  intro k h1 h2
  match k with
  | 1 | 2 | 3 | 4 | 5 | 6 | 7 | 8 | 9 | 10 | 11 | 12 => decide
  | 0 => omega
  | n + 13 => omega
theorem cutSemi_no : ∀ w : List (List UInt8), (∀ x ∈ w, x ≠ [59]) → cutSemi w = [w]
  | [], _ => rfl
  | x :: w, h => by
    have ih := cutSemi_no w fun y hy => h y (by simp [hy])
    simp only [cutSemi, ih]
    rw [if_neg (h x (by simp))]
theorem cutSemi_at : ∀ (w v : List (List UInt8)), (∀ x ∈ w, x ≠ [59]) → cutSemi (w ++ [59] :: v) = w :: cutSemi v
  | [], v, _ => by simp only [List.nil_append, cutSemi]; rfl
  | x :: w, v, h => by
    have ih := cutSemi_at w v fun y hy => h y (by simp [hy])
    simp only [List.cons_append, cutSemi, ih]
    rw [if_neg (h x (by simp))]
theorem cut_entries : ∀ l : List En, l ≠ [] → (∀ e ∈ l, ∀ x ∈ wordsEn e, x ≠ [59]) → cutSemi (entriesW l) = l.map wordsEn
  | [], h, _ => absurd rfl h
  | [e], _, h => by
    simp only [entriesW, List.map_cons, List.map_nil]
    exact cutSemi_no _ (h e (by simp))
  | e :: f :: l, _, h => by
    have ih := cut_entries (f :: l) (by simp) fun g hg => h g (by simp [hg])
    simp only [entriesW]
    rw [cutSemi_at _ _ (h e (by simp)), ih]
    rfl
theorem read_entries (l : List En) (h : ∀ e ∈ l, entryR (wordsEn e) = some e) : entriesR (l.map wordsEn) = some l := by
  induction l with
  | nil => rfl
  | cons e l ih =>
    simp only [List.map_cons, entriesR]
    rw [h e (by simp), ih fun g hg => h g (by simp [hg])]
    rfl
end Go.Proofs.YtjoimhmhiophfaaGreatDoor

namespace Go.Proofs.YtjoimhmhiophfaaGreatDoor
open Go.RowKit Go.Lib
structure MayP (e : En) : Prop where
  k1 : 1 ≤ e.kind
  k2 : e.kind ≤ 12
  key : keyEn e = true
  tmp : e.temp = ⟨#[]⟩ ∨ e.kind ≤ 2 ∧ tempB e.temp.data.toList = true
  iff : e.iff ≠ 0 → 3 ≤ e.kind ∧ e.kind ≤ 5 ∧ 0 ≤ e.iff ∧ e.iff ≤ 999999999
  num : e.num ≠ 0 → e.kind = 7 ∧ 0 ≤ e.num ∧ e.num ≤ 999999999
  stamp : e.stamp ≠ 0 → 9 ≤ e.kind
  val : e.val ≠ [] → e.kind ≤ 3
  mayv : mayB e.val = true
  eds : e.eds ≠ [] ↔ e.kind = 4
  maye : mayE e.eds = 0
  mayp : mayM e.pred = 0
  srt : sortM e.pred = e.pred
  pred : e.pred ≠ [] → e.kind = 2 ∨ e.kind = 8 ∨ e.kind = 12
theorem mayEn_parts {e : En} (h : mayEn e = true) : MayP e := by
  unfold mayEn at h
  simp only [Bool.and_eq_true, Bool.or_eq_true, decide_eq_true_eq] at h
  obtain ⟨⟨⟨⟨⟨⟨⟨⟨⟨⟨⟨⟨h1, h2⟩, h3⟩, h4⟩, h5⟩, h6⟩, h7⟩, h8⟩, h9⟩, h10⟩, h11⟩, ⟨h12, h13⟩⟩, h14⟩ := h
  exact ⟨h1, h2, h3, h4, h5, h6, h7, h8, h9, h10, h11, h12, h13, h14⟩
theorem val_back {v : List Fld} (h : mayB v = true) : valR (bytesL (wordsL v)) = some v := by
  unfold valR bytesL
  rw [words_back v fun f hf => (fits_parts (may_fits h f hf)).2.2.2.2]
  simp only [Option.bind_some]
  rw [(norm_singles h).1, if_pos rfl, (norm_singles h).2]
theorem eds_back {p : List Ed} (h : mayE p = 0) : edsR (bytesL (p.map wordE)) = some p := by
  obtain ⟨_, h1, h2, _⟩ := mayE_zero h
  unfold edsR bytesL
  rw [edits_back p fun x hx => ⟨h1 x hx, h2 x hx⟩]
  have e : codeL (some p) = 0 := h
  rw [if_pos e]
  show some (if mayE p = 0 then p else []) = some p
  rw [if_pos h]
theorem prd_back {p : List Tm} (h : mayM p = 0) (hs : sortM p = p) : prdR (bytesL (p.map wordM)) = some p := by
  obtain ⟨_, h1, h2, _⟩ := mayM_zero h
  unfold prdR bytesL
  rw [terms_back p fun x hx => ⟨List.all_eq_true.1 h1 x hx, List.all_eq_true.1 h2 x hx⟩]
  have e : codeW (some p) = 0 := h
  rw [if_pos e]
  show some (if mayM p = 0 then sortM p else []) = some p
  rw [if_pos h, hs]
theorem field_pos {l : List UInt8} (h : fieldB l = true) : 0 < l.length := by
  cases l with
  | nil => cases h
  | cons x r => simp
theorem valW_is {v : List Fld} (h : mayB v = true) : ∀ x ∈ bytesL (wordsL v), 2 ≤ x.length ∧ 61 ∈ x ∧ 32 ∉ x := by
  intro x hx
  obtain ⟨y, hy, rfl⟩ := List.mem_map.1 hx
  obtain ⟨f, hf, hy⟩ := List.mem_flatMap.1 hy
  obtain ⟨t, _, rfl⟩ := List.mem_map.1 hy
  have hn := (fits_parts (may_fits h f hf)).2.2.2.2
  have := field_pos hn
  refine ⟨?_, ?_, noblank_mem (word_noblank hn)⟩
  · simp only [word_data, List.length_append, List.length_cons, List.length_nil]; omega
  · simp [word_data]
theorem edsW_is {p : List Ed} (h : mayE p = 0) : ∀ x ∈ bytesL (p.map wordE), 2 ≤ x.length ∧ (61 ∈ x ∨ 126 ∈ x) ∧ 32 ∉ x := by
  intro x hx
  obtain ⟨y, hy, rfl⟩ := List.mem_map.1 hx
  obtain ⟨z, hz, rfl⟩ := List.mem_map.1 hy
  have hn := (mayE_zero h).2.1 z hz
  have := field_pos hn
  have hs := (sign_size z.1).2
  refine ⟨?_, ?_, wordE_noblank hn⟩
  · have e : (signS z.1).data.toList.length = (signS z.1).size := by simp
    simp only [wordE_data, List.length_append]
    omega
  · rw [wordE_data]
    have : 61 ∈ (signS z.1).data.toList ∨ 126 ∈ (signS z.1).data.toList := by
      unfold signS
      repeat' split
      all_goals decide
    rcases this with h | h
    · exact .inl (by simp [h])
    · exact .inr (by simp [h])
theorem prdW_is {p : List Tm} (h : mayM p = 0) : ∀ x ∈ bytesL (p.map wordM), 2 ≤ x.length ∧ 32 ∉ x := by
  intro x hx
  obtain ⟨y, hy, rfl⟩ := List.mem_map.1 hx
  obtain ⟨z, hz, rfl⟩ := List.mem_map.1 hy
  have hn := List.all_eq_true.1 (mayM_zero h).2.1 z hz
  have := field_pos hn
  refine ⟨?_, wordM_noblank hn⟩
  simp only [wordM_data, List.length_append, List.length_cons]; omega
theorem type_head {l : List UInt8} (h : typeB l = true) : ∃ c r, l = c :: r ∧ 65 ≤ c.toNat ∧ c.toNat ≤ 90 := by
  cases l with
  | nil => cases h
  | cons c r =>
    unfold typeB spell at h
    simp only [Bool.and_eq_true] at h
    have hb := h.1.2
    unfold bigB at hb
    simp only [Bool.and_eq_true, decide_eq_true_eq] at hb
    exact ⟨c, r, rfl, by omega, by omega⟩
theorem type_no47 {l : List UInt8} (h : typeB l = true) : (47 : UInt8) ∉ l ∧ (32 : UInt8) ∉ l := by
  cases l with
  | nil => cases h
  | cons c r =>
    unfold typeB spell at h
    simp only [Bool.and_eq_true, List.all_eq_true] at h
    have key : ∀ x : UInt8, x ∈ c :: r → letB (x.toNat : Int) = true := by
      intro x hx
      rcases List.mem_cons.1 hx with e | hx
      · subst e; unfold letB; rw [h.1.2]; rfl
      · exact h.2 x hx
    exact ⟨fun hm => absurd (key 47 hm) (by decide), fun hm => absurd (key 32 hm) (by decide)⟩
theorem iden_is {l : List UInt8} (h : idenB l = true) : l ≠ [] ∧ (32 : UInt8) ∉ l := by
  cases l with
  | nil => cases h
  | cons c r =>
    unfold idenB spell at h
    simp only [Bool.and_eq_true, List.all_eq_true] at h
    have key : ∀ x : UInt8, x ∈ c :: r → idB (x.toNat : Int) = true := by
      intro x hx
      rcases List.mem_cons.1 hx with e | hx
      · subst e; exact h.1.2
      · exact h.2 x hx
    exact ⟨by simp, fun hm => absurd (key 32 hm) (by decide)⟩
theorem temp_is {l : List UInt8} (h : tempB l = true) : l ≠ [] ∧ (32 : UInt8) ∉ l := by
  cases l with
  | nil => cases h
  | cons c r =>
    unfold tempB spell at h
    simp only [Bool.and_eq_true, List.all_eq_true] at h
    have key : ∀ x : UInt8, x ∈ c :: r → lodB (x.toNat : Int) = true := by
      intro x hx
      rcases List.mem_cons.1 hx with e | hx
      · subst e; exact h.1.2
      · exact h.2 x hx
    exact ⟨by simp, fun hm => absurd (key 32 hm) (by decide)⟩
theorem ba_empty {b : ByteArray} (h : b.data.toList = []) : b = ⟨#[]⟩ := by
  obtain ⟨⟨l⟩⟩ := b
  simp only at h
  subst h; rfl
theorem keyB_two {a b : ByteArray} (h : keyB a b = true) : typeB a.data.toList = true ∧ idenB b.data.toList = true := by
  unfold keyB at h; simpa only [Bool.and_eq_true] using h
theorem keyT_cons (f : En) (x : List UInt8) (w : List (List UInt8)) :
    keyT f (x :: w) = if typedK f.kind = true then tailR { f with ka := ⟨x.toArray⟩ } w else (keyR x).bind fun k => tailR { f with ka := k.1, kb := k.2 } w := rfl
theorem key_back {e : En} (h : keyEn e = true) (w : List (List UInt8)) (f : En) (hk : f.kind = e.kind) (hb : f.kb = ⟨#[]⟩) :
    keyT f (keyWd e :: w) = tailR { f with ka := e.ka, kb := e.kb } w := by
  unfold keyEn at h
  rw [keyT_cons, hk]
  unfold keyWd
  by_cases ht : typedK e.kind = true
  · rw [if_pos ht] at h
    simp only [Bool.and_eq_true, decide_eq_true_eq] at h
    rw [if_pos ht, if_pos h.1, List.append_nil, ba_back, h.1, hb]
  · rw [if_neg ht] at h
    obtain ⟨h1, h2⟩ := keyB_two h
    have hne : ¬ e.kb = ⟨#[]⟩ := fun q => (iden_is h2).1 (by rw [q])
    have hx := ix_here (b := e.kb.data.toList) (type_no47 h1).1
    rw [if_neg ht, if_neg hne]
    have hr : keyR (e.ka.data.toList ++ 47 :: e.kb.data.toList) = some (e.ka, e.kb) := by
      unfold keyR
      rw [hx, if_neg (by omega)]
      simp only [Int.toNat_natCast]
      rw [List.take_left' rfl, show e.ka.data.toList ++ 47 :: e.kb.data.toList = (e.ka.data.toList ++ [47]) ++ e.kb.data.toList by simp, List.drop_left' (by simp), ba_back, ba_back, if_pos h]
    rw [hr]
    rfl
theorem keyWd_is {e : En} (h : keyEn e = true) : ∃ c r, keyWd e = c :: r ∧ 65 ≤ c.toNat ∧ c.toNat ≤ 90 := by
  have ht : typeB e.ka.data.toList = true := by
    unfold keyEn at h
    split at h
    · simp only [Bool.and_eq_true] at h; exact h.2
    · exact (keyB_two h).1
  obtain ⟨c, r, h1, h2, h3⟩ := type_head ht
  unfold keyWd
  rw [h1]
  exact ⟨c, _, rfl, h2, h3⟩
theorem keyWd_noblank {e : En} (h : keyEn e = true) : (32 : UInt8) ∉ keyWd e := by
  unfold keyEn at h
  unfold keyWd
  split at h
  · simp only [Bool.and_eq_true, decide_eq_true_eq] at h
    rw [if_pos h.1, List.append_nil]
    exact (type_no47 h.2).2
  · obtain ⟨h1, h2⟩ := keyB_two h
    rw [if_neg fun q => (iden_is h2).1 (by rw [q])]
    intro hm
    rcases List.mem_append.1 hm with hm | hm
    · exact (type_no47 h1).2 hm
    · rcases List.mem_cons.1 hm with e | hm
      · exact absurd e (by decide)
      · exact (iden_is h2).2 hm
end Go.Proofs.YtjoimhmhiophfaaGreatDoor

namespace Go.Proofs.YtjoimhmhiophfaaGreatDoor
open Go.RowKit Go.Lib
theorem tailR_if (f : En) (n : Nat) (h1 : 3 ≤ f.kind) (h2 : f.kind ≤ 5) (hn : 0 < n) (hm : n ≤ 999999999) (w : List (List UInt8)) :
    tailR f ([105, 102] :: decL n :: w) = restR { f with iff := n } w := by
  unfold tailR
  rw [if_neg (by omega), if_neg (by omega), if_neg (by omega), if_pos ⟨h1, h2, rfl⟩]
  show (smallR (some (decL n))).bind _ = _
  unfold smallR
  simp only [Option.bind_some]
  rw [num_dec hm]
  simp only [Option.bind_some]
  rw [if_neg (by omega)]
  rfl
theorem tailR_no (f : En) (w : List (List UInt8)) (h6 : f.kind ≠ 6) (h7 : f.kind ≠ 7) (h9 : f.kind ≠ 9) (h10 : f.kind ≠ 10) (h11 : f.kind ≠ 11) (hw : 3 ≤ f.kind → f.kind ≤ 5 → w[0]? ≠ some [105, 102]) :
    tailR f w = restR f w := by
  unfold tailR
  rw [if_neg h7, if_neg (by omega), if_neg (by omega), if_neg (fun h => hw h.1 h.2.1 h.2.2)]
theorem rest_val (f : En) {v : List Fld} (hv : mayB v = true) (hk : f.kind = 1 ∨ f.kind = 3) : restR f (bytesL (wordsL v)) = some { f with val := v } := by
  unfold restR
  rw [if_pos hk, val_back hv]
  rfl
theorem rest_eds (f : En) {p : List Ed} (hp : mayE p = 0) (hk : f.kind = 4) : restR f (bytesL (p.map wordE)) = some { f with eds := p } := by
  unfold restR
  rw [if_neg (by omega), if_neg (by omega), if_pos hk, eds_back hp]
  rfl
theorem rest_del (f : En) (hk : f.kind = 5) : restR f [] = some f := by
  unfold restR
  rw [if_neg (by omega), if_neg (by omega), if_neg (by omega), if_pos hk, if_pos rfl]
theorem rest_prd (f : En) {p : List Tm} (hp : mayM p = 0) (hs : sortM p = p) (hk : 5 < f.kind) : restR f (bytesL (p.map wordM)) = some { f with pred := p } := by
  unfold restR
  rw [if_neg (by omega), if_neg (by omega), if_neg (by omega), if_neg (by omega), prd_back hp hs]
  rfl
theorem while_to {a : List (List UInt8)} (b : List (List UInt8)) (h : ∀ x ∈ a, x ≠ [63]) :
    (a ++ [63] :: b).takeWhile (fun x => decide (x ≠ [63])) = a ∧ (a ++ [63] :: b).dropWhile (fun x => decide (x ≠ [63])) = [63] :: b := by
  induction a with
  | nil => exact ⟨rfl, rfl⟩
  | cons x a ih =>
    have ih := ih fun y hy => h y (by simp [hy])
    have hx : decide (x ≠ [63]) = true := decide_eq_true (h x (by simp))
    simp only [List.cons_append, List.takeWhile_cons, List.dropWhile_cons, hx, if_true]
    exact ⟨by rw [ih.1], ih.2⟩
theorem rest_ens (f : En) {v : List Fld} {p : List Tm} (hv : mayB v = true) (hp : mayM p = 0) (hs : sortM p = p) (hk : f.kind = 2) :
    restR f (bytesL (wordsL v) ++ [63] :: bytesL (p.map wordM)) = some { f with val := v, pred := p } := by
  have hq := while_to (bytesL (p.map wordM)) fun x hx e => by
    have := (valW_is hv x hx).1
    rw [e] at this
    simp at this
  unfold restR
  rw [if_neg (by omega), if_pos hk, if_pos (by simp), hq.1, hq.2, val_back hv]
  simp only [Option.bind_some, List.drop_succ_cons, List.drop_zero]
  rw [prd_back hp hs]
  rfl
theorem tail_back {e : En} (h : MayP e) (hs0 : 0 ≤ e.stamp) (hs1 : e.stamp ≤ 18446744073709551615) :
    tailR ⟨e.kind, e.temp, e.ka, e.kb, 0, [], [], [], if e.kind = 11 ∨ e.kind = 12 then e.stamp else 0, 0⟩ (tailW e) = some e := by
  obtain ⟨k, temp, ka, kb, iff, val, eds, pred, stamp, num⟩ := e
  obtain ⟨h1, h2, _, _, h5, h6, h7, h8, h9, h10, h11, h12, h13, h14⟩ := h
  simp only at h1 h2 h5 h6 h7 h8 h9 h10 h11 h12 h13 h14 hs0 hs1 ⊢
  have niff : ¬ (3 ≤ k ∧ k ≤ 5) → iff = 0 := fun q => Classical.byContradiction fun p => q ⟨(h5 p).1, (h5 p).2.1⟩
  have nnum : k ≠ 7 → num = 0 := fun q => Classical.byContradiction fun p => q (h6 p).1
  have nst : ¬ 9 ≤ k → stamp = 0 := fun q => Classical.byContradiction fun p => q (h7 p)
  have nval : ¬ k ≤ 3 → val = [] := fun q => Classical.byContradiction fun p => q (h8 p)
  have neds : k ≠ 4 → eds = [] := fun q => Classical.byContradiction fun p => q (h10.1 p)
  have npred : ¬ (k = 2 ∨ k = 8 ∨ k = 12) → pred = [] := fun q => Classical.byContradiction fun p => q (h14 p)
  have hiff : 0 ≤ iff ∧ iff ≤ 999999999 := by
    by_cases q : iff = 0
    · omega
    · exact ⟨(h5 q).2.2.1, (h5 q).2.2.2⟩
  have eiff : ((iff.toNat : Nat) : Int) = iff := Int.toNat_of_nonneg hiff.1
  have est : ((stamp.toNat : Nat) : Int) = stamp := Int.toNat_of_nonneg hs0
  unfold tailW
  simp only
  by_cases k2 : k = 2
  · obtain rfl := neds (by omega)
    obtain rfl := niff (by omega)
    obtain rfl := nnum (by omega)
    obtain rfl := nst (by omega)
    rw [if_pos k2, if_neg (show ¬ (k = 11 ∨ k = 12) by omega), tailR_no _ _ (by simp only; omega) (by simp only; omega) (by simp only; omega) (by simp only; omega) (by simp only; omega) (fun q => by simp only at q; omega), rest_ens _ h9 h12 h13 k2]
  rw [if_neg k2]
  by_cases k7 : k = 7
  · obtain rfl := neds (by omega)
    obtain rfl := niff (by omega)
    obtain rfl := nval (by omega)
    obtain rfl := npred (by omega)
    obtain rfl := nst (by omega)
    have hn : 0 ≤ num ∧ num ≤ 999999999 := by
      by_cases q : num = 0
      · omega
      · exact (h6 q).2
    have en : ((num.toNat : Nat) : Int) = num := Int.toNat_of_nonneg hn.1
    rw [if_pos k7, if_neg (show ¬ (k = 11 ∨ k = 12) by omega)]
    unfold tailR
    rw [if_pos k7, if_pos (show [decL num.toNat].length = 1 from rfl)]
    rw [List.getElem?_cons_zero]
    unfold smallR
    simp only [Option.bind_some]
    rw [num_dec (by omega)]
    exact congrArg (fun z : Int => some (En.mk k temp ka kb 0 [] [] [] 0 z)) en
  rw [if_neg k7]
  obtain rfl := nnum k7
  by_cases k9 : k = 9 ∨ k = 10
  · obtain rfl := neds (by omega)
    obtain rfl := niff (by omega)
    obtain rfl := nval (by omega)
    obtain rfl := npred (by omega)
    rw [if_pos k9, if_neg (show ¬ (k = 11 ∨ k = 12) by omega)]
    unfold tailR
    rw [if_neg k7, if_pos k9, if_pos (show [decL stamp.toNat].length = 1 from rfl)]
    rw [List.getElem?_cons_zero]
    unfold stampR
    simp only [Option.bind_some]
    rw [num_dec (by omega)]
    exact congrArg (fun z : Int => some (En.mk k temp ka kb 0 [] [] [] z 0)) est
  rw [if_neg k9]
  by_cases k6 : k = 6 ∨ k = 11
  · obtain rfl := neds (by omega)
    obtain rfl := niff (by omega)
    obtain rfl := nval (by omega)
    obtain rfl := npred (by omega)
    rw [if_neg (show ¬ (0 : Int) < 0 by omega)]
    unfold tailR
    rw [if_neg k7, if_neg k9, if_pos k6, if_pos (show ([] ++ (bytesL (wordsL []) ++ (bytesL (List.map wordE []) ++ bytesL (List.map wordM []))) : List (List UInt8)) = [] from rfl)]
    by_cases q : k = 6
    · obtain rfl := nst (by omega)
      rw [if_neg (show ¬ (k = 11 ∨ k = 12) by omega)]
    · rw [if_pos (show k = 11 ∨ k = 12 by omega)]
  by_cases k8 : 5 < k
  · obtain rfl := neds (by omega)
    obtain rfl := niff (by omega)
    obtain rfl := nval (by omega)
    rw [if_neg (show ¬ (0 : Int) < 0 by omega)]
    show tailR _ (bytesL (pred.map wordM)) = _
    rw [tailR_no _ _ (by simp only; omega) (by simp only; omega) (by simp only; omega) (by simp only; omega) (by simp only; omega) (fun _ q => by simp only at q; omega), rest_prd _ h12 h13 (by simp only; omega)]
    by_cases q : k = 12
    · rw [if_pos (show k = 11 ∨ k = 12 by omega)]
    · obtain rfl := nst (by omega)
      rw [if_neg (show ¬ (k = 11 ∨ k = 12) by omega)]
  obtain rfl := npred (by omega)
  obtain rfl := nst (by omega)
  rw [if_neg (show ¬ (k = 11 ∨ k = 12) by omega)]
  have go : ∀ (f : En) (W : List (List UInt8)), f.kind = k → f.iff = 0 → (∀ x ∈ W, x ≠ [105, 102]) → tailR f ((if 0 < iff then [[105, 102], decL iff.toNat] else []) ++ W) = restR { f with iff := iff } W := by
    intro f W hf h0 hW
    by_cases q : 0 < iff
    · have := h5 (by omega)
      rw [if_pos q]
      show tailR f ([105, 102] :: decL iff.toNat :: W) = _
      rw [tailR_if f iff.toNat (by omega) (by omega) (by omega) (by omega), eiff]
    · rw [if_neg q, List.nil_append, tailR_no f W (by omega) (by omega) (by omega) (by omega) (by omega) (fun _ _ p => by
        cases W with
        | nil => simp at p
        | cons x W => exact hW x (by simp) (by simpa using p))]
      have : iff = f.iff := by omega
      rw [this]
  by_cases k4 : k = 4
  · obtain rfl := nval (by omega)
    show tailR _ (_ ++ (bytesL (eds.map wordE) ++ [])) = _
    rw [List.append_nil, go _ _ rfl rfl (fun x hx e => by
      have := (edsW_is h11 x hx).2.1
      rw [e] at this
      revert this; decide), rest_eds _ h11 k4]
  obtain rfl := neds k4
  by_cases k5 : k = 5
  · obtain rfl := nval (by omega)
    show tailR _ (_ ++ []) = _
    rw [go _ [] rfl rfl (by simp), rest_del _ k5]
  · show tailR _ (_ ++ (bytesL (wordsL val) ++ [])) = _
    rw [List.append_nil, go _ _ rfl rfl (fun x hx e => by
      have := (valW_is h9 x hx).2.1
      rw [e] at this
      revert this; decide), rest_val _ h9 (by simp only; omega)]
end Go.Proofs.YtjoimhmhiophfaaGreatDoor

namespace Go.Proofs.YtjoimhmhiophfaaGreatDoor
open Go.RowKit Go.Lib
theorem stampT_back (f : En) (k : Int) (st : Int) (hk : f.kind = k) (h12 : k ≤ 12) (h0 : 0 ≤ st) (h1 : st ≤ 18446744073709551615) (W : List (List UInt8)) :
    stampT f ((if k = 11 ∨ k = 12 then [decL st.toNat] else []) ++ W) = keyT { f with stamp := if k = 11 ∨ k = 12 then st else f.stamp } W := by
  unfold stampT
  by_cases q : k = 11 ∨ k = 12
  · rw [if_pos q, if_pos q, if_pos (by omega)]
    have e0 : ([decL st.toNat] ++ W)[0]? = some (decL st.toNat) := by rw [List.singleton_append, List.getElem?_cons_zero]
    rw [e0]
    unfold stampR
    simp only [Option.bind_some]
    rw [num_dec (by omega)]
    have e1 : ((st.toNat : Nat) : Int) = st := Int.toNat_of_nonneg h0
    show keyT { f with stamp := (st.toNat : Int) } W = _
    rw [e1]
  · rw [if_neg q, if_neg q, if_neg (by omega), List.nil_append]
theorem entryR_cons (x : List UInt8) (w : List (List UInt8)) : entryR (x :: w) = if kindW x = 0 then none else tempT (zeroEn (kindW x)) w := rfl
theorem tempT_no (e : En) (w : List (List UInt8)) (h : e.kind ≤ 2 → ∀ t w', w ≠ (64 :: t) :: w') : tempT e w = stampT e w := by
  unfold tempT
  split
  · next t w' =>
    rw [if_neg fun q => h q t w' rfl]
  · rfl
theorem entryR_plain (x : List UInt8) (w : List (List UInt8)) (hk : kindW x ≠ 0) (h : kindW x ≤ 2 → ∀ t w', w ≠ (64 :: t) :: w') : entryR (x :: w) = stampT (zeroEn (kindW x)) w := by
  rw [entryR_cons, if_neg hk, tempT_no _ _ fun q => h (by simp only [zeroEn] at q; omega)]
theorem entryR_temp (x t : List UInt8) (w : List (List UInt8)) (hk : kindW x ≠ 0) (h : kindW x ≤ 2) (ht : t ≠ []) : entryR (x :: (64 :: t) :: w) = stampT { zeroEn (kindW x) with temp := ⟨t.toArray⟩ } w := by
  rw [entryR_cons, if_neg hk]
  have : (zeroEn (kindW x)).kind ≤ 2 := by simp only [zeroEn]; omega
  show (if (zeroEn (kindW x)).kind ≤ 2 then if t = [] then none else stampT { zeroEn (kindW x) with temp := ⟨t.toArray⟩ } w else _) = _
  rw [if_pos this, if_neg ht]
theorem entry_back {e : En} (h : MayP e) (hs0 : 0 ≤ e.stamp) (hs1 : e.stamp ≤ 18446744073709551615) : entryR (wordsEn e) = some e := by
  have hn : kindW (nameK e.kind) = e.kind.toNat := kind_name _ (by have := h.k1; omega) (by have := h.k2; omega)
  have hki : ((e.kind.toNat : Nat) : Int) = e.kind := Int.toNat_of_nonneg (by have := h.k1; omega)
  have h1 := h.k1
  have h2 := h.k2
  have fin : ∀ t : ByteArray, t = e.temp → stampT { zeroEn (kindW (nameK e.kind)) with temp := t } ((if e.kind = 11 ∨ e.kind = 12 then [decL e.stamp.toNat] else []) ++ keyWd e :: tailW e) = some e := by
    rintro t rfl
    rw [hn]
    unfold zeroEn
    simp only [hki]
    have q := stampT_back ⟨e.kind, e.temp, ⟨#[]⟩, ⟨#[]⟩, 0, [], [], [], 0, 0⟩ e.kind e.stamp rfl h2 hs0 hs1 (keyWd e :: tailW e)
    exact q.trans ((key_back h.key (tailW e) ⟨e.kind, e.temp, ⟨#[]⟩, ⟨#[]⟩, 0, [], [], [], if e.kind = 11 ∨ e.kind = 12 then e.stamp else 0, 0⟩ rfl rfl).trans (tail_back h hs0 hs1))
  unfold wordsEn
  by_cases ht : e.temp = ⟨#[]⟩
  · rw [if_pos ht, List.nil_append, entryR_plain _ _ (by rw [hn]; omega)]
    · exact fin _ ht.symm
    · intro hk t w' q
      rw [hn] at hk
      rw [if_neg (show ¬ (e.kind = 11 ∨ e.kind = 12) by omega), List.nil_append] at q
      obtain ⟨c, r, e1, e2, e3⟩ := keyWd_is h.key
      rw [e1] at q
      have q1 : c = 64 := by simp only [List.cons.injEq] at q; exact q.1.1
      rw [q1] at e2
      revert e2; decide
  · have hte := (h.tmp.resolve_left ht)
    rw [if_neg ht, List.singleton_append, entryR_temp _ _ _ (by rw [hn]; omega) (by rw [hn]; omega) (fun q => ht (ba_empty q)), ba_back]
    exact fin _ rfl
theorem dec_is (n : Nat) : ∀ x ∈ [decL n], x ≠ [59] ∧ 32 ∉ x ∧ x ≠ [] := by
  intro x hx
  rw [List.mem_singleton] at hx
  subst hx
  refine ⟨fun q => ?_, decL_noblank n, decL_ne n⟩
  have := (decL_digit n 59 (by rw [q]; simp)).2
  revert this; decide
theorem name_is (k : Int) (h1 : 1 ≤ k) (h2 : k ≤ 12) : nameK k ≠ [59] ∧ 32 ∉ nameK k ∧ nameK k ≠ [] ∧ nameK k ≠ onceW := by
  unfold nameK
  have : k = 1 ∨ k = 2 ∨ k = 3 ∨ k = 4 ∨ k = 5 ∨ k = 6 ∨ k = 7 ∨ k = 8 ∨ k = 9 ∨ k = 10 ∨ k = 11 ∨ k = 12 := by omega
  rcases this with rfl | rfl | rfl | rfl | rfl | rfl | rfl | rfl | rfl | rfl | rfl | rfl <;> decide
theorem wordsEn_is {e : En} (h : MayP e) : ∀ x ∈ wordsEn e, x ≠ [59] ∧ 32 ∉ x ∧ x ≠ [] := by
  have two : ∀ x : List UInt8, 2 ≤ x.length → x ≠ [59] ∧ x ≠ [] := fun x hx => ⟨fun q => by rw [q] at hx; simp at hx, fun q => by rw [q] at hx; simp at hx⟩
  have hv : ∀ x ∈ bytesL (wordsL e.val), x ≠ [59] ∧ 32 ∉ x ∧ x ≠ [] := fun x hx => ⟨(two x (valW_is h.mayv x hx).1).1, (valW_is h.mayv x hx).2.2, (two x (valW_is h.mayv x hx).1).2⟩
  have hd : ∀ x ∈ bytesL (e.eds.map wordE), x ≠ [59] ∧ 32 ∉ x ∧ x ≠ [] := fun x hx => ⟨(two x (edsW_is h.maye x hx).1).1, (edsW_is h.maye x hx).2.2, (two x (edsW_is h.maye x hx).1).2⟩
  have hp : ∀ x ∈ bytesL (e.pred.map wordM), x ≠ [59] ∧ 32 ∉ x ∧ x ≠ [] := fun x hx => ⟨(two x (prdW_is h.mayp x hx).1).1, (prdW_is h.mayp x hx).2, (two x (prdW_is h.mayp x hx).1).2⟩
  have ht : ∀ x ∈ tailW e, x ≠ [59] ∧ 32 ∉ x ∧ x ≠ [] := by
    intro x hx
    unfold tailW at hx
    split at hx
    · rcases List.mem_append.1 hx with hx | hx
      · exact hv x hx
      · rcases List.mem_cons.1 hx with rfl | hx
        · decide
        · exact hp x hx
    · split at hx
      · exact dec_is _ x hx
      · split at hx
        · exact dec_is _ x hx
        · rcases List.mem_append.1 hx with hx | hx
          · split at hx
            · rcases List.mem_cons.1 hx with rfl | hx
              · decide
              · exact dec_is _ x hx
            · cases hx
          · rcases List.mem_append.1 hx with hx | hx
            · exact hv x hx
            · rcases List.mem_append.1 hx with hx | hx
              · exact hd x hx
              · exact hp x hx
  intro x hx
  unfold wordsEn at hx
  rcases List.mem_cons.1 hx with rfl | hx
  · have := name_is e.kind h.k1 h.k2
    exact ⟨this.1, this.2.1, this.2.2.1⟩
  rcases List.mem_append.1 hx with hx | hx
  · split at hx
    · cases hx
    · next q =>
      rw [List.mem_singleton] at hx
      subst hx
      have hte := (h.tmp.resolve_left q).2
      refine ⟨fun r => absurd (List.cons.inj r).1 (by decide), fun r => ?_, by simp⟩
      rcases List.mem_cons.1 r with r | r
      · exact absurd r (by decide)
      · exact (temp_is hte).2 r
  rcases List.mem_append.1 hx with hx | hx
  · split at hx
    · exact dec_is _ x hx
    · cases hx
  rcases List.mem_cons.1 hx with rfl | hx
  · obtain ⟨c, r, e1, e2, e3⟩ := keyWd_is h.key
    refine ⟨fun q => ?_, keyWd_noblank h.key, by rw [e1]; simp⟩
    rw [e1] at q
    have q1 := (List.cons.inj q).1
    rw [q1] at e2
    revert e2; decide
  · exact ht x hx
theorem entriesW_is : ∀ {l : List En}, (∀ e ∈ l, MayP e) → ∀ x ∈ entriesW l, 32 ∉ x ∧ x ≠ []
  | [], _ => by intro x hx; cases hx
  | [e], h => by
    intro x hx
    exact (wordsEn_is (h e (by simp)) x hx).2
  | e :: f :: l, h => by
    intro x hx
    simp only [entriesW] at hx
    rcases List.mem_append.1 hx with hx | hx
    · exact (wordsEn_is (h e (by simp)) x hx).2
    · rcases List.mem_cons.1 hx with rfl | hx
      · decide
      · exact entriesW_is (fun g hg => h g (by simp [hg])) x hx
theorem entriesW_head {l : List En} (h0 : l ≠ []) (h : ∀ e ∈ l, MayP e) : (entriesW l).head? ≠ some onceW := by
  have key : ∀ e : En, MayP e → ∀ W, (wordsEn e ++ W).head? ≠ some onceW := by
    intro e he W q
    unfold wordsEn at q
    simp only [List.cons_append, List.head?_cons, Option.some.injEq] at q
    exact (name_is e.kind he.k1 he.k2).2.2.2 q
  match l, h0, h with
  | [e], _, h => have := key e (h e (by simp)) []; rwa [List.append_nil] at this
  | e :: f :: l, _, h => exact key e (h e (by simp)) _
theorem rq_back {once : Bool} {l : List En} (h : mayRq l = true) (hs : ∀ e ∈ l, 0 ≤ e.stamp ∧ e.stamp ≤ 18446744073709551615) : readRq (wordsRq once l) = some (once, l) := by
  have hm := h
  unfold mayRq at h
  simp only [Bool.and_eq_true, decide_eq_true_eq, List.all_eq_true] at h
  have hl : l ≠ [] := fun q => by rw [q] at h; simp at h
  have hp : ∀ e ∈ l, MayP e := fun e he => mayEn_parts (h.2 e he)
  have hcut := cut_entries l hl fun e he x hx => (wordsEn_is (hp e he) x hx).1
  have hre := read_entries l fun e he => entry_back (hp e he) (hs e he).1 (hs e he).2
  have hh := entriesW_head hl hp
  unfold readRq wordsRq
  cases once with
  | true =>
    have q : decide (([onceW] ++ entriesW l).head? = some onceW) = true := by simp
    simp only [if_true, q]
    rw [List.singleton_append, List.drop_succ_cons, List.drop_zero, hcut, hre]
    simp only [Option.bind_some, hm, if_true]
  | false =>
    have q : decide (([] ++ entriesW l).head? = some onceW) = false := by rw [List.nil_append]; exact decide_eq_false hh
    simp only [Bool.false_eq_true, if_false, q]
    rw [List.nil_append, hcut, hre]
    simp only [Option.bind_some, hm, if_true]
def lineRq (once : Bool) (l : List En) : List UInt8 := Lib.join (wordsRq once l) [32]
theorem wordsRq_is {once : Bool} {l : List En} (h : mayRq l = true) : wordsRq once l ≠ [] ∧ ∀ x ∈ wordsRq once l, 32 ∉ x ∧ x ≠ [] := by
  unfold mayRq at h
  simp only [Bool.and_eq_true, decide_eq_true_eq, List.all_eq_true] at h
  have hp : ∀ e ∈ l, MayP e := fun e he => mayEn_parts (h.2 e he)
  have hne : entriesW l ≠ [] := by
    match l, h with
    | [], h => simp at h
    | [e], _ => simp [entriesW, wordsEn]
    | e :: f :: l, _ => simp [entriesW]
  unfold wordsRq
  refine ⟨fun q => hne (List.append_eq_nil_iff.1 q).2, fun x hx => ?_⟩
  rcases List.mem_append.1 hx with hx | hx
  · split at hx
    · rw [List.mem_singleton] at hx; subst hx; decide
    · cases hx
  · exact entriesW_is hp x hx
theorem line_words {once : Bool} {l : List En} (h : mayRq l = true) : wordsAns (lineRq once l) = wordsRq once l := by
  obtain ⟨h1, h2⟩ := wordsRq_is (once := once) h
  unfold wordsAns lineRq
  have hs := split_join (wordsRq once l) h1 fun x hx => (h2 x hx).1
  rw [if_neg, hs]
  intro q
  rw [q] at hs
  have e : splitL ([] : List UInt8) = [[]] := splitL_no rfl
  rw [e] at hs
  exact (h2 [] (by rw [← hs]; simp)).2 rfl
end Go.Proofs.YtjoimhmhiophfaaGreatDoor

namespace Go.Proofs.YtjoimhmhiophfaaGreatDoor
open Go.RowKit Go.Lib
def shapeN : Nat → List Nat
  | 1 => [1, 2, 5]
  | 2 => [1, 2, 5, 6, 7]
  | 3 => [2, 4, 5]
  | 4 => [2, 4, 8]
  | 5 => [2, 4]
  | 6 => [2]
  | 7 => [2, 9]
  | 8 => [3, 7]
  | 9 => [2, 10]
  | 10 => [3, 10]
  | 11 => [10, 2]
  | 12 => [10, 3, 7]
  | _ => []
def joinW (w : List (List UInt8)) : List UInt8 := Lib.join w [32]
def spanP (w : List (List UInt8)) (p : Nat) : Nat :=
  if p = 1 then if w.head?.bind List.head? = some 64 then 1 else 0
  else if p = 4 then if w.head? = some [105, 102] then 2 else 0
  else if p = 5 then (w.takeWhile fun x => decide (x ≠ [63])).length
  else if p = 7 ∨ p = 8 then w.length
  else 1
def untag (x : List UInt8) : List UInt8 := if x.head? = some 64 then x.drop 1 else x
def unif (x : List UInt8) : List UInt8 := if [105, 102, 32].isPrefixOf x then x.drop 3 else x
def condL (x : List UInt8) : Option Nat := if x = [] then some 0 else (numL 999999999 (unif x)).bind fun n => if 0 < n then some n else none
def readP (e : En) (p : Nat) (x : List UInt8) : Option En :=
  if p = 1 then if x = [] ∨ tempB (untag x) = true then some { e with temp := ⟨(untag x).toArray⟩ } else none
  else if p = 2 then (keyR x).map fun k => { e with ka := k.1, kb := k.2 }
  else if p = 3 then if typeB x = true then some { e with ka := ⟨x.toArray⟩ } else none
  else if p = 4 then (condL x).map fun (n : Nat) => { e with iff := (n : Int) }
  else if p = 5 then (valR (wordsAns x)).map fun v => { e with val := v }
  else if p = 6 then if x = [63] then some e else none
  else if p = 7 then (prdR (wordsAns x)).map fun v => { e with pred := v }
  else if p = 8 then (edsR (wordsAns x)).bind fun v => if v = [] then none else some { e with eds := v }
  else if p = 9 then (numL 999999999 x).map fun (n : Nat) => { e with num := (n : Int) }
  else (numL 18446744073709551615 x).map fun (n : Nat) => { e with stamp := (n : Int) }
def partsR : List Nat → En → List (List UInt8) → Option (En × List (List UInt8))
  | [], e, w => some (e, w)
  | p :: ps, e, w => if w.length < spanP w p then none else (readP e p (joinW (w.take (spanP w p)))).bind fun f => partsR ps f (w.drop (spanP w p))
def entryO : List (List UInt8) → Option En
  | [] => none
  | x :: w => if kindW x = 0 then none else (partsR (shapeN (kindW x)) (zeroEn (kindW x)) w).bind fun r => if r.2 = [] then some r.1 else none
theorem joinW_nil : joinW [] = [] := rfl
theorem joinW_one (x : List UInt8) : joinW [x] = x := by simp [joinW, Lib.join, List.intercalate]
theorem joinW_two (x y : List UInt8) : joinW [x, y] = x ++ 32 :: y := by simp [joinW, Lib.join, List.intercalate]
theorem words_join {w : List (List UInt8)} (h : ∀ x ∈ w, x ≠ [] ∧ (32 : UInt8) ∉ x) : wordsAns (joinW w) = w := by
  by_cases h0 : w = []
  · subst h0; rfl
  · have hs := split_join w h0 fun x hx => (h x hx).2
    unfold wordsAns joinW
    rw [if_neg, hs]
    intro q
    rw [q] at hs
    have e : splitL ([] : List UInt8) = [[]] := splitL_no rfl
    rw [e] at hs
    exact (h [] (by rw [← hs]; simp)).1 rfl
theorem val_may {w : List (List UInt8)} {v : List Fld} (h : valR w = some v) : mayB v = true := by
  unfold valR at h
  cases hf : fieldsW w with
  | none => rw [hf] at h; cases h
  | some fs =>
    rw [hf] at h
    simp only [Option.bind_some] at h
    split at h
    · rename_i hc
      simp only [Option.some.injEq] at h
      rw [← h, ansF, if_pos hc]
      exact (codeF_zero hc).2.2
    · cases h
theorem eds_may {w : List (List UInt8)} {v : List Ed} (h : edsR w = some v) : mayE v = 0 := by
  unfold edsR at h
  split at h
  · rename_i hc
    simp only [Option.some.injEq] at h
    cases ho : editsW w with
    | none => rw [ho] at hc; exact absurd hc (by decide)
    | some p =>
      rw [ho] at hc h
      have hm : mayE p = 0 := hc
      unfold ansL at h
      simp only at h
      rw [if_pos hm] at h
      rw [← h]; exact hm
  · cases h
theorem prd_may {w : List (List UInt8)} {v : List Tm} (h : prdR w = some v) : mayM v = 0 ∧ sortM v = v := by
  unfold prdR at h
  split at h
  · rename_i hc
    simp only [Option.some.injEq] at h
    cases ho : termsW w with
    | none => rw [ho] at hc; exact absurd hc (by decide)
    | some p =>
      rw [ho] at hc h
      have hm : mayM p = 0 := hc
      obtain ⟨h1, h2⟩ := ansM_again hm
      have hv : ansM p = v := h
      rw [hv] at h1 h2
      refine ⟨h1, ?_⟩
      unfold ansM at h2
      rwa [if_pos h1] at h2
  · cases h
theorem keyR_key {x : List UInt8} {k : ByteArray × ByteArray} (h : keyR x = some k) : keyB k.1 k.2 = true := by
  unfold keyR at h
  split at h
  · cases h
  · simp only at h
    split at h
    · rename_i hk
      simp only [Option.some.injEq] at h
      rw [← h]; exact hk
    · cases h
theorem fieldsW_ask : ∀ {w : List (List UInt8)}, [63] ∈ w → fieldsW w = none
  | [], h => by cases h
  | l :: r, h => by
    rw [fieldsW]
    cases hw : wordO l with
    | none => rfl
    | some nt =>
      obtain ⟨n, t⟩ := nt
      simp only
      rcases List.mem_cons.1 h with h | h
      · rw [← h] at hw
        have hz : wordO [63] = none := by kernel_rfl
        rw [hz] at hw; cases hw
      · rw [fieldsW_ask h]; rfl
theorem valR_no {w : List (List UInt8)} (h : [63] ∈ w) : valR w = none := by
  unfold valR; rw [fieldsW_ask h]; rfl
theorem while_all {w : List (List UInt8)} (h : [63] ∉ w) : w.takeWhile (fun x => decide (x ≠ [63])) = w := by
  induction w with
  | nil => rfl
  | cons x w ih =>
    have hx : x ≠ [63] := fun q => h (by rw [q]; simp)
    rw [List.takeWhile_cons, if_pos (by simpa using hx), ih fun q => h (by simp [q])]
theorem while_len_all {w : List (List UInt8)} : (w.takeWhile fun x => decide (x ≠ [63])).length ≤ w.length := (List.takeWhile_sublist _).length_le
theorem take_while (w : List (List UInt8)) : w.take (w.takeWhile fun x => decide (x ≠ [63])).length = w.takeWhile fun x => decide (x ≠ [63]) := by
  induction w with
  | nil => rfl
  | cons x w ih =>
    rw [List.takeWhile_cons]
    split
    · rw [List.length_cons, List.take_succ_cons, ih]
    · rfl
theorem drop_while (w : List (List UInt8)) : w.drop (w.takeWhile fun x => decide (x ≠ [63])).length = w.dropWhile fun x => decide (x ≠ [63]) := by
  induction w with
  | nil => rfl
  | cons x w ih =>
    rw [List.takeWhile_cons, List.dropWhile_cons]
    split
    · rw [List.length_cons, List.drop_succ_cons, ih]
    · rfl
theorem drop_while_at : ∀ {w : List (List UInt8)}, [63] ∈ w → ∃ r, w.dropWhile (fun x => decide (x ≠ [63])) = [63] :: r
  | [], h => by cases h
  | x :: w, h => by
    rw [List.dropWhile_cons]
    by_cases hx : x = [63]
    · rw [if_neg (by simp [hx]), hx]; exact ⟨w, rfl⟩
    · rw [if_pos (by simp [hx])]
      rcases List.mem_cons.1 h with q | q
      · exact absurd q.symm hx
      · exact drop_while_at q
theorem drop_while_no {w : List (List UInt8)} (h : [63] ∉ w) : w.dropWhile (fun x => decide (x ≠ [63])) = [] := by
  rw [← drop_while, while_all h, List.drop_length]
end Go.Proofs.YtjoimhmhiophfaaGreatDoor

namespace Go.Proofs.YtjoimhmhiophfaaGreatDoor
open Go.RowKit Go.Lib
end Go.Proofs.YtjoimhmhiophfaaGreatDoor

namespace Go.Proofs.YtjoimhmhiophfaaGreatDoor
open Go.RowKit Go.Lib
end Go.Proofs.YtjoimhmhiophfaaGreatDoor

namespace Go.Proofs.YtjoimhmhiophfaaGreatDoor
open Go.RowKit Go.Lib
def partsC (k : Nat) : Array Value := ((shapeN k).map fun (p : Nat) => Value.int .i64 (p : Int)).toArray
set_option maxHeartbeats 4000000 in
theorem shape_yes (k : Nat) (w : World) (h1 : 1 ≤ k) (h2 : k ≤ 12) :
    Calls Tryz.prog 35 #[.int .i64 k] w fun e w' => e = .returned (.tuple #[.string ⟨(nameN k).toArray⟩, .slice (some ⟨w.heap.size, 0, none⟩) (shapeN k).length (shapeN k).length]) ∧ w' = w.alloc (.cells (partsC k) 73) := by
  have : k = 1 ∨ k = 2 ∨ k = 3 ∨ k = 4 ∨ k = 5 ∨ k = 6 ∨ k = 7 ∨ k = 8 ∨ k = 9 ∨ k = 10 ∨ k = 11 ∨ k = 12 := by omega
  rcases this with rfl | rfl | rfl | rfl | rfl | rfl | rfl | rfl | rfl | rfl | rfl | rfl
  all_goals
    go_enter Tryz.func35, Tryz.ntmps35
    go_wp2_with fail
    go_ret2
    exact ⟨rfl, rfl⟩
set_option maxHeartbeats 4000000 in
theorem shape_no (k : Int) (w : World) (h : k < 1 ∨ 12 < k) :
    Calls Tryz.prog 35 #[.int .i64 k] w fun e w' => e = .returned (.tuple #[.string ⟨#[]⟩, .slice none 0 0]) ∧ w' = w := by
  have n1 : (k == 1) = false := beq_eq_false_iff_ne.2 (by omega)
  have n2 : (k == 2) = false := beq_eq_false_iff_ne.2 (by omega)
  have n3 : (k == 3) = false := beq_eq_false_iff_ne.2 (by omega)
  have n4 : (k == 4) = false := beq_eq_false_iff_ne.2 (by omega)
  have n5 : (k == 5) = false := beq_eq_false_iff_ne.2 (by omega)
  have n6 : (k == 6) = false := beq_eq_false_iff_ne.2 (by omega)
  have n7 : (k == 7) = false := beq_eq_false_iff_ne.2 (by omega)
  have n8 : (k == 8) = false := beq_eq_false_iff_ne.2 (by omega)
  have n9 : (k == 9) = false := beq_eq_false_iff_ne.2 (by omega)
  have n10 : (k == 10) = false := beq_eq_false_iff_ne.2 (by omega)
  have n11 : (k == 11) = false := beq_eq_false_iff_ne.2 (by omega)
  have n12 : (k == 12) = false := beq_eq_false_iff_ne.2 (by omega)
  clear h
  go_enter Tryz.func35, Tryz.ntmps35
  go_wp2_with fail
  go_ret2
  exact ⟨rfl, rfl⟩
theorem kindW_at {s : ByteArray} {k : Nat} (h1 : 1 ≤ k) (h2 : k ≤ 12) (h : nameN k = s.data.toList) : kindW s.data.toList = k := by
  rw [← h]; exact kind_name k h1 h2
theorem kindW_no {l : List UInt8} (h : ∀ k, 1 ≤ k → k ≤ 12 → nameN k ≠ l) : kindW l = 0 := by
  unfold kindW
  split
  · rfl
  · rename_i h0
    cases hf : (List.range 13).find? fun k => decide (nameN k = l) with
    | none => rfl
    | some k =>
      exfalso
      have hm := List.mem_of_find?_eq_some hf
      have hp := List.find?_some hf
      simp only [decide_eq_true_eq] at hp
      simp only [List.mem_range] at hm
      by_cases hk : k = 0
      · subst hk; exact h0 hp.symm
      · exact h k (by omega) (by omega) hp
theorem kindW_le (l : List UInt8) : kindW l ≤ 12 := by
  unfold kindW
  split
  · omega
  · cases hf : (List.range 13).find? fun k => decide (nameN k = l) with
    | none => simp
    | some k =>
      have hm := List.mem_of_find?_eq_some hf
      simp only [List.mem_range] at hm
      simp only [Option.getD_some]; omega
set_option maxHeartbeats 2000000 in
theorem kind_any (s : ByteArray) (w : World) :
    Calls Tryz.prog 53 #[.string s] w fun e w' => e = .returned (.int .i64 (kindW s.data.toList)) ∧ Below w.heap.size w w' := by
  have HB0 := hid (Below.refl w.heap.size w)
  have HN0 : Hid (∀ j : Nat, 1 ≤ j → j < 1 → nameN j ≠ s.data.toList) := hid fun j h1 h2 => by omega
  go_enter Tryz.func53, Tryz.ntmps53
  go_wp2_with fail
  go_loopg [3] 14 (fun g v ws => ∃ k : Nat, v = .int .i64 k ∧ 1 ≤ k ∧ k ≤ 13 ∧ 13 - k ≤ g ∧ Hid (∀ j : Nat, 1 ≤ j → j < k → nameN j ≠ s.data.toList) ∧ Hid (Below w.heap.size w ws))
  case atStart => exact ⟨1, rfl, by omega, by omega, by omega, HN0, HB0⟩
  case round =>
    obtain ⟨k, rfl, hk1, hk2, hkg, HN, HB⟩ := hrel
    by_cases hlt : k ≤ 12
    · have hz : (k : Int) ≤ 12 := by omega
      by_cases he : nameN k = s.data.toList
      · have hq : (nameN k == s.toList) = true := by rw [he, toList_data]; exact beq_self_eq_true _
        have HE := hid he
        clear he
        go_wp2_with (go_at_call 35; refine (shape_yes k _ hk1 hlt).mono ?_; rintro e w1 ⟨rfl, rfl⟩)
        go_ret
        exact ⟨by rw [kindW_at hk1 hlt HE.out]; rfl, HB.out.alloc HB.out.size _⟩
      · have hq : (nameN k == s.toList) = false := beq_eq_false_iff_ne.2 fun q => he (by rw [q, toList_data])
        have HE := hid he
        clear he
        go_wp2_with (go_at_call 35; refine (shape_yes k _ hk1 hlt).mono ?_; rintro e w1 ⟨rfl, rfl⟩)
        go_roundg (13 - (k + 1))
        case measure => omega
        refine ⟨k + 1, by go_num, by omega, by omega, by omega, hid fun j h1 h2 => ?_, hid (HB.out.alloc HB.out.size _)⟩
        by_cases hj : j = k
        · rw [hj]; exact HE.out
        · exact HN.out j h1 (by omega)
    · have hz : ¬ (k : Int) ≤ 12 := by omega
      go_wp2_with fail
      go_ret
      exact ⟨by rw [kindW_no fun j h1 h2 => HN.out j h1 (by omega)]; rfl, HB.out⟩
end Go.Proofs.YtjoimhmhiophfaaGreatDoor

namespace Go.Proofs.YtjoimhmhiophfaaGreatDoor
open Go.RowKit
structure Ex where
  kind : Int
  temp : ByteArray
  ka : ByteArray
  kb : ByteArray
  iff : Int
  vp : Option Addr
  vc : Nat
  vo : List Fx
  ep : Option Addr
  ec : Nat
  eo : List Ed
  pp : Option Addr
  pc : Nat
  po : List Tm
  stamp : Int
  num : Int
def Ex.vs (x : Ex) : Value := .slice x.vp x.vo.length x.vc
def Ex.es (x : Ex) : Value := .slice x.ep x.eo.length x.ec
def Ex.ps (x : Ex) : Value := .slice x.pp x.po.length x.pc
def encEx (x : Ex) : List Value := [.int .i64 x.kind, .string x.temp, .string x.ka, .string x.kb, .int .i64 x.iff, x.vs, x.es, x.ps, .int .u64 x.stamp, .int .i64 x.num]
def aggEx (x : Ex) : Value := .agg (encEx x).toArray
def Ex.en (x : Ex) : En := ⟨x.kind, x.temp, x.ka, x.kb, x.iff, x.vo.map Fx.fld, x.eo, x.po, x.stamp, x.num⟩
def KEx : Kind Ex := ⟨41, 10, encEx, fun _ => rfl, by decide, fun x u hu => by simp [encEx, Ex.vs, Ex.es, Ex.ps] at hu; rcases hu with rfl | rfl | rfl | rfl | rfl | rfl | rfl | rfl | rfl | rfl <;> rfl⟩
structure ExIn (W : World) (x : Ex) : Prop where
  val : IsXs W x.vs x.vo
  fit : FitX x.vo
  eds : KE.Is W x.es x.eo
  efit : FitE x.eo
  prd : KM.Is W x.ps x.po
  pfit : FitM x.po
  temp : x.temp.size ≤ maxLen
  ka : x.ka.size ≤ maxLen
  kb : x.kb.size ≤ maxLen
  k0 : -9223372036854775808 ≤ x.kind
  k1 : x.kind ≤ 9223372036854775807
  i0 : -9223372036854775808 ≤ x.iff
  i1 : x.iff ≤ 9223372036854775807
  t0 : 0 ≤ x.stamp
  t1 : x.stamp ≤ 18446744073709551615
  n0 : -9223372036854775808 ≤ x.num
  n1 : x.num ≤ 9223372036854775807
theorem ExIn.on {W W' : World} {x : Ex} (h : ExIn W x) (hb : Below W.heap.size W W') : ExIn W' x :=
  ⟨h.val.kept hb, h.fit, Kind.is_kept h.eds hb, h.efit, Kind.is_kept h.prd hb, h.pfit, h.temp, h.ka, h.kb, h.k0, h.k1, h.i0, h.i1, h.t0, h.t1, h.n0, h.n1⟩
end Go.Proofs.YtjoimhmhiophfaaGreatDoor
