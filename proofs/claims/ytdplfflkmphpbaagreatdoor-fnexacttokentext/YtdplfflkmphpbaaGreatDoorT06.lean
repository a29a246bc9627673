import Derived.Shelf.Strings.Trim
import Derived.Shelf.Small.Utf8
import Derived.Shelf.Small.Strs
import Derived.Shelf.Strconv.Itoa0
import Derived.Shelf.Strconv.Itoa1
import Derived.Shelf.LaysM
import Derived.Shelf.Strconv.Itoa2
import Derived.Shelf.Strconv.Itoa3
import Derived.Shelf.Strconv.Itoa4
import Derived.Shelf.Strconv.Clone
import Derived.Shelf.Strconv.SyntaxError
import Derived.Shelf.LaysC
import Derived.Shelf.Strconv.ToError
import Derived.Shelf.Strconv.RangeError
import Derived.Shelf.Strconv.ToErrorRange
import Derived.Shelf.Strings.Search1
import Derived.Shelf.Strings.Search2
import Derived.Shelf.Strings.Search3
import Derived.Shelf.Strings.Cut
import Derived.Shelf.Strings.Count
import Derived.Shelf.Strings.Shaped
import Derived.Shelf.Strings.LastIndex
import Derived.Shelf.Strings.Prefix
import Derived.Shelf.Strings.Runes
import Derived.Shelf.Strings.AsciiSet
import Derived.Shelf.Unicode.DecodeSlow
import Derived.Test.YtdplfflkmphpbaaGreatDoorProg
import Derived.Test.YtdplfflkmphpbaaGreatDoorT00
import Derived.Test.YtdplfflkmphpbaaGreatDoorT01
import Derived.Test.YtdplfflkmphpbaaGreatDoorT02
import Derived.Test.YtdplfflkmphpbaaGreatDoorT03
import Derived.Test.YtdplfflkmphpbaaGreatDoorT04
import Derived.Test.YtdplfflkmphpbaaGreatDoorT05
import Derived.OwnWalk
import Derived.Test.YtdplfflkmphpbaaGreatDoorRows
import Derived.WalkKit
import Derived.Below
import Derived.Laws.BytesString
import Derived.Laws.IdiomStrings
import Derived.Laws.Cells
import Derived.Laws.BytesArg
import Derived.Laws.Bits64b
import Derived.Lib.AppendStr
import Derived.Lib.ConvBytes
import Derived.Laws.IdiomCopy
import Derived.Lib.SmallJoins
set_option linter.unusedVariables false
set_option linter.unusedSimpArgs false
namespace Go.Proofs
open Go.Shelf
def Tryz.lays161_ren : Go.Shelf.Ren := ⟨fun | 161 => 80 | 231 => 98 | 227 => 99 | 233 => 100 | 235 => 101 | 228 => 119 | 197 => 120 | 151 => 121 | 260 => 135 | 152 => 136 | 137 => 122 | 119 => 147 | 224 => 131 | 225 => 130 | 217 => 129 | 266 => 145 | n => n, fun | 9 => 9 | 4 => 4 | 3 => 3 | 5 => 5 | 117 => 108 | 116 => 107 | 0 => 0 | 124 => 111 | 105 => 129 | 21 => 21 | 119 => 146 | 46 => 127 | 139 => 149 | 138 => 148 | n => n, fun | 3 => 4 | 4 => 5 | n => n⟩
theorem Tryz.lays161 : Go.Proofs.Lays.n161 Tryz.prog Tryz.lays161_ren := {
  mixed := by kernel_rfl
  f119 := Tryz.func147.trans (congrArg some (by kernel_rfl))
  f137 := Tryz.func122.trans (congrArg some (by kernel_rfl))
  f151 := Tryz.func121.trans (congrArg some (by kernel_rfl))
  f152 := Tryz.func136.trans (congrArg some (by kernel_rfl))
  f161 := Tryz.func80.trans (congrArg some (by kernel_rfl))
  f197 := Tryz.func120.trans (congrArg some (by kernel_rfl))
  f217 := Tryz.func129.trans (congrArg some (by kernel_rfl))
  f224 := Tryz.func131.trans (congrArg some (by kernel_rfl))
  f225 := Tryz.func130.trans (congrArg some (by kernel_rfl))
  f227 := Tryz.func99.trans (congrArg some (by kernel_rfl))
  f228 := Tryz.func119.trans (congrArg some (by kernel_rfl))
  f231 := Tryz.func98.trans (congrArg some (by kernel_rfl))
  f233 := Tryz.func100.trans (congrArg some (by kernel_rfl))
  f235 := Tryz.func101.trans (congrArg some (by kernel_rfl))
  f260 := Tryz.func135.trans (congrArg some (by kernel_rfl))
  f266 := Tryz.func145.trans (congrArg some (by kernel_rfl))
  t0 := Tryz.underlying0
  a0 := Tryz.isAgg0
  z0 := Tryz.sizeOf0
  v0 := Tryz.zeroValue0
  t3 := Tryz.underlying3
  a3 := Tryz.isAgg3
  z3 := Tryz.sizeOf3
  v3 := Tryz.zeroValue3
  t4 := Tryz.underlying4
  a4 := Tryz.isAgg4
  z4 := Tryz.sizeOf4
  v4 := Tryz.zeroValue4
  t5 := Tryz.underlying5
  a5 := Tryz.isAgg5
  z5 := Tryz.sizeOf5
  v5 := Tryz.zeroValue5
  t9 := Tryz.underlying9
  a9 := Tryz.isAgg9
  z9 := Tryz.sizeOf9
  v9 := Tryz.zeroValue9
  t21 := Tryz.underlying21
  a21 := Tryz.isAgg21
  z21 := Tryz.sizeOf21
  v21 := Tryz.zeroValue21
  t46 := Tryz.underlying127
  a46 := Tryz.isAgg127
  z46 := Tryz.sizeOf127
  v46 := Tryz.zeroValue127
  t105 := Tryz.underlying129
  a105 := Tryz.isAgg129
  z105 := Tryz.sizeOf129
  v105 := Tryz.zeroValue129
  t116 := Tryz.underlying107
  a116 := Tryz.isAgg107
  z116 := Tryz.sizeOf107
  t117 := Tryz.underlying108
  a117 := Tryz.isAgg108
  z117 := Tryz.sizeOf108
  v117 := Tryz.zeroValue108
  t119 := Tryz.underlying146
  a119 := Tryz.isAgg146
  z119 := Tryz.sizeOf146
  t124 := Tryz.underlying111
  a124 := Tryz.isAgg111
  z124 := Tryz.sizeOf111
  v124 := Tryz.zeroValue111
  t138 := Tryz.underlying148
  a138 := Tryz.isAgg148
  z138 := Tryz.sizeOf148
  v138 := Tryz.zeroValue148
  t139 := Tryz.underlying149
  a139 := Tryz.isAgg149
  z139 := Tryz.sizeOf149
  v139 := Tryz.zeroValue149
  g3 := by kernel_rfl
  g4 := by kernel_rfl }
def Tryz.lays162_ren : Go.Shelf.Ren := ⟨fun | 162 => 110 | 232 => 124 | 227 => 99 | 234 => 125 | 236 => 126 | 228 => 119 | 271 => 138 | 151 => 121 | 120 => 148 | 197 => 120 | 152 => 136 | 260 => 135 | 137 => 122 | 119 => 147 | 224 => 131 | 225 => 130 | 217 => 129 | 266 => 145 | n => n, fun | 9 => 9 | 4 => 4 | 3 => 3 | 5 => 5 | 117 => 108 | 116 => 107 | 0 => 0 | 124 => 111 | 21 => 21 | 105 => 129 | 46 => 127 | 119 => 146 | 139 => 149 | 138 => 148 | n => n, fun | 3 => 4 | 4 => 5 | n => n⟩
theorem Tryz.lays162 : Go.Proofs.Lays.n162 Tryz.prog Tryz.lays162_ren := {
  mixed := by kernel_rfl
  f119 := Tryz.func147.trans (congrArg some (by kernel_rfl))
  f120 := Tryz.func148.trans (congrArg some (by kernel_rfl))
  f137 := Tryz.func122.trans (congrArg some (by kernel_rfl))
  f151 := Tryz.func121.trans (congrArg some (by kernel_rfl))
  f152 := Tryz.func136.trans (congrArg some (by kernel_rfl))
  f162 := Tryz.func110.trans (congrArg some (by kernel_rfl))
  f197 := Tryz.func120.trans (congrArg some (by kernel_rfl))
  f217 := Tryz.func129.trans (congrArg some (by kernel_rfl))
  f224 := Tryz.func131.trans (congrArg some (by kernel_rfl))
  f225 := Tryz.func130.trans (congrArg some (by kernel_rfl))
  f227 := Tryz.func99.trans (congrArg some (by kernel_rfl))
  f228 := Tryz.func119.trans (congrArg some (by kernel_rfl))
  f232 := Tryz.func124.trans (congrArg some (by kernel_rfl))
  f234 := Tryz.func125.trans (congrArg some (by kernel_rfl))
  f236 := Tryz.func126.trans (congrArg some (by kernel_rfl))
  f260 := Tryz.func135.trans (congrArg some (by kernel_rfl))
  f266 := Tryz.func145.trans (congrArg some (by kernel_rfl))
  f271 := Tryz.func138.trans (congrArg some (by kernel_rfl))
  t0 := Tryz.underlying0
  a0 := Tryz.isAgg0
  z0 := Tryz.sizeOf0
  v0 := Tryz.zeroValue0
  t3 := Tryz.underlying3
  a3 := Tryz.isAgg3
  z3 := Tryz.sizeOf3
  v3 := Tryz.zeroValue3
  t4 := Tryz.underlying4
  a4 := Tryz.isAgg4
  z4 := Tryz.sizeOf4
  v4 := Tryz.zeroValue4
  t5 := Tryz.underlying5
  a5 := Tryz.isAgg5
  z5 := Tryz.sizeOf5
  v5 := Tryz.zeroValue5
  t9 := Tryz.underlying9
  a9 := Tryz.isAgg9
  z9 := Tryz.sizeOf9
  v9 := Tryz.zeroValue9
  t21 := Tryz.underlying21
  a21 := Tryz.isAgg21
  z21 := Tryz.sizeOf21
  v21 := Tryz.zeroValue21
  t46 := Tryz.underlying127
  a46 := Tryz.isAgg127
  z46 := Tryz.sizeOf127
  v46 := Tryz.zeroValue127
  t105 := Tryz.underlying129
  a105 := Tryz.isAgg129
  z105 := Tryz.sizeOf129
  v105 := Tryz.zeroValue129
  t116 := Tryz.underlying107
  a116 := Tryz.isAgg107
  z116 := Tryz.sizeOf107
  t117 := Tryz.underlying108
  a117 := Tryz.isAgg108
  z117 := Tryz.sizeOf108
  v117 := Tryz.zeroValue108
  t119 := Tryz.underlying146
  a119 := Tryz.isAgg146
  z119 := Tryz.sizeOf146
  t124 := Tryz.underlying111
  a124 := Tryz.isAgg111
  z124 := Tryz.sizeOf111
  v124 := Tryz.zeroValue111
  t138 := Tryz.underlying148
  a138 := Tryz.isAgg148
  z138 := Tryz.sizeOf148
  v138 := Tryz.zeroValue148
  t139 := Tryz.underlying149
  a139 := Tryz.isAgg149
  z139 := Tryz.sizeOf149
  v139 := Tryz.zeroValue149
  g3 := by kernel_rfl
  g4 := by kernel_rfl }
def Tryz.lays137_ren : Go.Shelf.Ren := ⟨fun | 137 => 122 | 217 => 129 | 266 => 145 | n => n, fun | 9 => 9 | 5 => 5 | 3 => 3 | n => n, fun | n => n⟩
theorem Tryz.lays137 : Go.Proofs.Lays.n137 Tryz.prog Tryz.lays137_ren := {
  mixed := by kernel_rfl
  f137 := Tryz.func122.trans (congrArg some (by kernel_rfl))
  f217 := Tryz.func129.trans (congrArg some (by kernel_rfl))
  f266 := Tryz.func145.trans (congrArg some (by kernel_rfl))
  t3 := Tryz.underlying3
  a3 := Tryz.isAgg3
  z3 := Tryz.sizeOf3
  v3 := Tryz.zeroValue3
  t5 := Tryz.underlying5
  a5 := Tryz.isAgg5
  z5 := Tryz.sizeOf5
  v5 := Tryz.zeroValue5
  t9 := Tryz.underlying9
  a9 := Tryz.isAgg9
  z9 := Tryz.sizeOf9
  v9 := Tryz.zeroValue9 }
open Go.RowKit in
theorem Tryz.strings_IndexByte (s : ByteArray) (c : Int) (w : World) :
    Calls Tryz.prog 122 #[.string s, .int .u8 c] w fun e w' => e = .returned (.int .i64 (Lib.indexByte s.data.toList c.toNat.toUInt8)) ∧ w' = w := Any.strings_IndexByte Tryz.lays137 s c w
def Tryz.laysM171_ren : Go.Shelf.Ren := ⟨fun | 171 => 64 | 243 => 76 | 246 => 77 | 283 => 92 | 284 => 93 | 285 => 94 | 286 => 95 | 129 => 115 | 317 => 114 | 318 => 116 | 319 => 117 | 320 => 118 | 337 => 133 | 338 => 134 | n => n, fun | 3 => 3 | 9 => 9 | 2 => 2 | 4 => 4 | 171 => 99 | 0 => 0 | 53 => 100 | 37 => 22 | 5 => 5 | 173 => 103 | 212 => 124 | 51 => 117 | 20 => 20 | 213 => 125 | 46 => 127 | 232 => 144 | 233 => 145 | n => n, fun | 17 => 1 | 18 => 2 | 19 => 3 | n => n⟩
theorem Tryz.laysM171 : Go.Proofs.LaysM.n171 Tryz.prog Tryz.laysM171_ren := {
  mixed := by kernel_rfl
  f129 := Tryz.func115.trans (congrArg some (by kernel_rfl))
  f171 := Tryz.func64.trans (congrArg some (by kernel_rfl))
  f243 := Tryz.func76.trans (congrArg some (by kernel_rfl))
  f246 := Tryz.func77.trans (congrArg some (by kernel_rfl))
  f283 := Tryz.func92.trans (congrArg some (by kernel_rfl))
  f284 := Tryz.func93.trans (congrArg some (by kernel_rfl))
  f285 := Tryz.func94.trans (congrArg some (by kernel_rfl))
  f286 := Tryz.func95.trans (congrArg some (by kernel_rfl))
  f317 := Tryz.func114.trans (congrArg some (by kernel_rfl))
  f318 := Tryz.func116.trans (congrArg some (by kernel_rfl))
  f319 := Tryz.func117.trans (congrArg some (by kernel_rfl))
  f320 := Tryz.func118.trans (congrArg some (by kernel_rfl))
  f337 := Tryz.func133.trans (congrArg some (by kernel_rfl))
  f338 := Tryz.func134.trans (congrArg some (by kernel_rfl))
  t0 := Tryz.underlying0
  a0 := Tryz.isAgg0
  z0 := Tryz.sizeOf0
  v0 := Tryz.zeroValue0
  t2 := Tryz.underlying2
  a2 := Tryz.isAgg2
  z2 := Tryz.sizeOf2
  v2 := Tryz.zeroValue2
  t3 := Tryz.underlying3
  a3 := Tryz.isAgg3
  z3 := Tryz.sizeOf3
  v3 := Tryz.zeroValue3
  t4 := Tryz.underlying4
  a4 := Tryz.isAgg4
  z4 := Tryz.sizeOf4
  v4 := Tryz.zeroValue4
  t5 := Tryz.underlying5
  a5 := Tryz.isAgg5
  z5 := Tryz.sizeOf5
  v5 := Tryz.zeroValue5
  t9 := Tryz.underlying9
  a9 := Tryz.isAgg9
  z9 := Tryz.sizeOf9
  v9 := Tryz.zeroValue9
  t20 := Tryz.underlying20
  a20 := Tryz.isAgg20
  z20 := Tryz.sizeOf20
  v20 := Tryz.zeroValue20
  t37 := Tryz.underlying22
  a37 := Tryz.isAgg22
  z37 := Tryz.sizeOf22
  v37 := Tryz.zeroValue22
  t46 := Tryz.underlying127
  a46 := Tryz.isAgg127
  z46 := Tryz.sizeOf127
  v46 := Tryz.zeroValue127
  t51 := Tryz.underlying117
  a51 := Tryz.isAgg117
  z51 := Tryz.sizeOf117
  v51 := Tryz.zeroValue117
  t53 := Tryz.underlying100
  a53 := Tryz.isAgg100
  z53 := Tryz.sizeOf100
  v53 := Tryz.zeroValue100
  t171 := Tryz.underlying99
  a171 := Tryz.isAgg99
  z171 := Tryz.sizeOf99
  v171 := Tryz.zeroValue99
  t173 := Tryz.underlying103
  a173 := Tryz.isAgg103
  z173 := Tryz.sizeOf103
  v173 := Tryz.zeroValue103
  t212 := Tryz.underlying124
  a212 := Tryz.isAgg124
  z212 := Tryz.sizeOf124
  v212 := Tryz.zeroValue124
  t213 := Tryz.underlying125
  a213 := Tryz.isAgg125
  z213 := Tryz.sizeOf125
  t232 := Tryz.underlying144
  a232 := Tryz.isAgg144
  z232 := Tryz.sizeOf144
  v232 := Tryz.zeroValue144
  t233 := Tryz.underlying145
  a233 := Tryz.isAgg145
  z233 := Tryz.sizeOf145
  v233 := Tryz.zeroValue145
  g17 := by kernel_rfl
  g18 := by kernel_rfl
  g19 := by kernel_rfl
  i0 := by kernel_rfl
  i2 := by kernel_rfl
  i3 := by kernel_rfl
  i4 := by kernel_rfl
  i5 := by kernel_rfl
  i9 := by kernel_rfl
  i20 := by kernel_rfl
  i37 := by kernel_rfl
  i46 := by kernel_rfl
  i51 := by kernel_rfl
  i53 := by kernel_rfl
  i171 := by kernel_rfl
  i173 := by kernel_rfl
  i212 := by kernel_rfl
  i232 := by kernel_rfl
  i233 := by kernel_rfl
  m17 := by kernel_rfl
  m18 := by kernel_rfl
  m19 := by kernel_rfl }
open Go.RowKit Go.Sort Go.Lib in
theorem Tryz.strconv_Itoa (n : Int) (h0 : -9223372036854775808 ≤ n) (h1 : n ≤ 9223372036854775807) (w : World) (htab : Lib.TabIs Tryz.prog w "internal/strconv.uint64pow10" .u64 Lib.pow10Tab) :
    Calls Tryz.prog 64 #[.int .i64 n] w fun e w' => e = .returned (.string ⟨(Lib.itoa n).toArray⟩) ∧ ∃ k os, w' = grow (w.drewN k) os := Any.strconv_Itoa Tryz.laysM171 n h0 h1 w htab
def Tryz.laysM316_ren : Go.Shelf.Ren := ⟨fun | 316 => 63 | n => n, fun | 9 => 9 | 3 => 3 | 4 => 4 | 37 => 22 | 0 => 0 | 127 => 90 | 5 => 5 | n => n, fun | n => n⟩
theorem Tryz.laysM316 : Go.Proofs.LaysM.n316 Tryz.prog Tryz.laysM316_ren := {
  mixed := by kernel_rfl
  f316 := Tryz.func63.trans (congrArg some (by kernel_rfl))
  t0 := Tryz.underlying0
  a0 := Tryz.isAgg0
  z0 := Tryz.sizeOf0
  v0 := Tryz.zeroValue0
  t3 := Tryz.underlying3
  a3 := Tryz.isAgg3
  z3 := Tryz.sizeOf3
  v3 := Tryz.zeroValue3
  t4 := Tryz.underlying4
  a4 := Tryz.isAgg4
  z4 := Tryz.sizeOf4
  v4 := Tryz.zeroValue4
  t9 := Tryz.underlying9
  a9 := Tryz.isAgg9
  z9 := Tryz.sizeOf9
  v9 := Tryz.zeroValue9
  t37 := Tryz.underlying22
  a37 := Tryz.isAgg22
  z37 := Tryz.sizeOf22
  v37 := Tryz.zeroValue22
  t127 := Tryz.underlying90
  a127 := Tryz.isAgg90
  z127 := Tryz.sizeOf90
  v127 := Tryz.zeroValue90
  t5 := Tryz.underlying5
  a5 := Tryz.isAgg5
  z5 := Tryz.sizeOf5
  v5 := Tryz.zeroValue5
  i0 := by kernel_rfl
  i3 := by kernel_rfl
  i4 := by kernel_rfl
  i5 := by kernel_rfl
  i9 := by kernel_rfl
  i37 := by kernel_rfl
  i127 := by kernel_rfl }
open Go.RowKit in
theorem Tryz.stringslite_Clone (s : ByteArray) (w : World) (hlim : s.size ≤ 281474976710656) :
    Calls Tryz.prog 63 #[.string s] w fun e w' => e = .returned (.string s) ∧ Below w.heap.size w w' := Any.stringslite_Clone Tryz.laysM316 s w hlim
def Tryz.laysC245_ren : Go.Shelf.Ren := ⟨fun | 245 => 128 | 279 => 141 | 280 => 142 | 281 => 143 | 282 => 144 | 316 => 63 | 171 => 64 | 205 => 149 | 243 => 76 | 246 => 77 | 283 => 92 | 284 => 93 | 285 => 94 | 286 => 95 | 129 => 115 | 317 => 114 | 318 => 116 | 319 => 117 | 320 => 118 | 337 => 133 | 338 => 134 | n => n, fun | 9 => 9 | 3 => 3 | 75 => 120 | 167 => 137 | 4 => 4 | 168 => 139 | 210 => 151 | 37 => 22 | 0 => 0 | 127 => 90 | 145 => 155 | 143 => 153 | 2 => 2 | 171 => 99 | 53 => 100 | 5 => 5 | 173 => 103 | 212 => 124 | 51 => 117 | 20 => 20 | 213 => 125 | 46 => 127 | 232 => 144 | 233 => 145 | 80 => 156 | n => n, fun | 15 => 6 | 16 => 7 | 17 => 1 | 18 => 2 | 19 => 3 | n => n⟩
theorem Tryz.laysC245 : Go.Proofs.LaysC.n245 Tryz.prog Tryz.laysC245_ren := {
  mixed := by kernel_rfl
  f129 := Tryz.func115.trans (congrArg some (by kernel_rfl))
  f171 := Tryz.func64.trans (congrArg some (by kernel_rfl))
  f205 := Tryz.func149.trans (congrArg some (by kernel_rfl))
  f243 := Tryz.func76.trans (congrArg some (by kernel_rfl))
  f245 := Tryz.func128.trans (congrArg some (by kernel_rfl))
  f246 := Tryz.func77.trans (congrArg some (by kernel_rfl))
  f279 := Tryz.func141.trans (congrArg some (by kernel_rfl))
  f280 := Tryz.func142.trans (congrArg some (by kernel_rfl))
  f281 := Tryz.func143.trans (congrArg some (by kernel_rfl))
  f282 := Tryz.func144.trans (congrArg some (by kernel_rfl))
  f283 := Tryz.func92.trans (congrArg some (by kernel_rfl))
  f284 := Tryz.func93.trans (congrArg some (by kernel_rfl))
  f285 := Tryz.func94.trans (congrArg some (by kernel_rfl))
  f286 := Tryz.func95.trans (congrArg some (by kernel_rfl))
  f316 := Tryz.func63.trans (congrArg some (by kernel_rfl))
  f317 := Tryz.func114.trans (congrArg some (by kernel_rfl))
  f318 := Tryz.func116.trans (congrArg some (by kernel_rfl))
  f319 := Tryz.func117.trans (congrArg some (by kernel_rfl))
  f320 := Tryz.func118.trans (congrArg some (by kernel_rfl))
  f337 := Tryz.func133.trans (congrArg some (by kernel_rfl))
  f338 := Tryz.func134.trans (congrArg some (by kernel_rfl))
  t0 := Tryz.underlying0
  a0 := Tryz.isAgg0
  z0 := Tryz.sizeOf0
  v0 := Tryz.zeroValue0
  t2 := Tryz.underlying2
  a2 := Tryz.isAgg2
  z2 := Tryz.sizeOf2
  v2 := Tryz.zeroValue2
  t3 := Tryz.underlying3
  a3 := Tryz.isAgg3
  z3 := Tryz.sizeOf3
  v3 := Tryz.zeroValue3
  t4 := Tryz.underlying4
  a4 := Tryz.isAgg4
  z4 := Tryz.sizeOf4
  v4 := Tryz.zeroValue4
  t5 := Tryz.underlying5
  a5 := Tryz.isAgg5
  z5 := Tryz.sizeOf5
  v5 := Tryz.zeroValue5
  t9 := Tryz.underlying9
  a9 := Tryz.isAgg9
  z9 := Tryz.sizeOf9
  v9 := Tryz.zeroValue9
  t20 := Tryz.underlying20
  a20 := Tryz.isAgg20
  z20 := Tryz.sizeOf20
  v20 := Tryz.zeroValue20
  t37 := Tryz.underlying22
  a37 := Tryz.isAgg22
  z37 := Tryz.sizeOf22
  v37 := Tryz.zeroValue22
  t46 := Tryz.underlying127
  a46 := Tryz.isAgg127
  z46 := Tryz.sizeOf127
  v46 := Tryz.zeroValue127
  t51 := Tryz.underlying117
  a51 := Tryz.isAgg117
  z51 := Tryz.sizeOf117
  v51 := Tryz.zeroValue117
  t53 := Tryz.underlying100
  a53 := Tryz.isAgg100
  z53 := Tryz.sizeOf100
  v53 := Tryz.zeroValue100
  t75 := Tryz.underlying120
  a75 := Tryz.isAgg120
  z75 := Tryz.sizeOf120
  v75 := Tryz.zeroValue120
  t127 := Tryz.underlying90
  a127 := Tryz.isAgg90
  z127 := Tryz.sizeOf90
  v127 := Tryz.zeroValue90
  t143 := Tryz.underlying153
  a143 := Tryz.isAgg153
  z143 := Tryz.sizeOf153
  v143 := Tryz.zeroValue153
  t145 := Tryz.underlying155
  a145 := Tryz.isAgg155
  z145 := Tryz.sizeOf155
  v145 := Tryz.zeroValue155
  t167 := Tryz.underlying137
  a167 := Tryz.isAgg137
  z167 := Tryz.sizeOf137
  v167 := Tryz.zeroValue137
  t168 := Tryz.underlying139
  a168 := Tryz.isAgg139
  z168 := Tryz.sizeOf139
  v168 := Tryz.zeroValue139
  t171 := Tryz.underlying99
  a171 := Tryz.isAgg99
  z171 := Tryz.sizeOf99
  v171 := Tryz.zeroValue99
  t173 := Tryz.underlying103
  a173 := Tryz.isAgg103
  z173 := Tryz.sizeOf103
  v173 := Tryz.zeroValue103
  t210 := Tryz.underlying151
  a210 := Tryz.isAgg151
  z210 := Tryz.sizeOf151
  v210 := Tryz.zeroValue151
  t212 := Tryz.underlying124
  a212 := Tryz.isAgg124
  z212 := Tryz.sizeOf124
  v212 := Tryz.zeroValue124
  t213 := Tryz.underlying125
  a213 := Tryz.isAgg125
  z213 := Tryz.sizeOf125
  t232 := Tryz.underlying144
  a232 := Tryz.isAgg144
  z232 := Tryz.sizeOf144
  v232 := Tryz.zeroValue144
  t233 := Tryz.underlying145
  a233 := Tryz.isAgg145
  z233 := Tryz.sizeOf145
  v233 := Tryz.zeroValue145
  g15 := by kernel_rfl
  g16 := by kernel_rfl
  g17 := by kernel_rfl
  g18 := by kernel_rfl
  g19 := by kernel_rfl
  t80 := Tryz.underlying156
  a80 := Tryz.isAgg156
  z80 := Tryz.sizeOf156
  v80 := Tryz.zeroValue156
  i0 := by kernel_rfl
  i2 := by kernel_rfl
  i3 := by kernel_rfl
  i4 := by kernel_rfl
  i5 := by kernel_rfl
  i9 := by kernel_rfl
  i20 := by kernel_rfl
  i37 := by kernel_rfl
  i46 := by kernel_rfl
  i51 := by kernel_rfl
  i53 := by kernel_rfl
  i75 := by kernel_rfl
  i80 := by kernel_rfl
  i127 := by kernel_rfl
  i143 := by kernel_rfl
  i145 := by kernel_rfl
  i167 := by kernel_rfl
  i168 := by kernel_rfl
  i171 := by kernel_rfl
  i173 := by kernel_rfl
  i210 := by kernel_rfl
  i212 := by kernel_rfl
  i232 := by kernel_rfl
  i233 := by kernel_rfl
  m15 := by kernel_rfl
  m16 := by kernel_rfl
  m17 := by kernel_rfl
  m18 := by kernel_rfl
  m19 := by kernel_rfl
  c0 := by kernel_rfl
  c2 := by kernel_rfl
  c3 := by kernel_rfl
  c4 := by kernel_rfl
  c5 := by kernel_rfl
  c9 := by kernel_rfl
  c20 := by kernel_rfl
  c37 := by kernel_rfl
  c46 := by kernel_rfl
  c51 := by kernel_rfl
  c53 := by kernel_rfl
  c75 := by kernel_rfl
  c80 := by kernel_rfl
  c127 := by kernel_rfl
  c143 := by kernel_rfl
  c145 := by kernel_rfl
  c167 := by kernel_rfl
  c168 := by kernel_rfl
  c171 := by kernel_rfl
  c173 := by kernel_rfl
  c210 := by kernel_rfl
  c212 := by kernel_rfl
  c213 := by kernel_rfl
  c232 := by kernel_rfl
  c233 := by kernel_rfl }
open Go.RowKit in
theorem Tryz.strconv_toError_syntax (fn s : ByteArray) (base bits : Int) (ev : Value) (w : World) (hlim : s.size ≤ 281474976710656) (hv : w.cell? ⟨6, 0, none⟩ = some ev) (hev : ev = .nilIface ∨ ∃ te pe, ev = .iface te pe) :
    Calls Tryz.prog 128 #[.string fn, .string s, .int .i64 base, .int .i64 bits, .iface 137 (.int .i64 2)] w fun e w' => ∃ N, e = .returned (.iface 139 (.pointer (some ⟨N, 0, none⟩))) ∧ w.heap.size ≤ N ∧ w'.heap[N]? = some (.cells #[.string fn, .string s, ev] 151 (0, 0)) ∧ Below w.heap.size w w' := Any.strconv_toError_syntax Tryz.laysC245 fn s base bits ev w hlim hv hev
open Go.RowKit in
theorem Tryz.strconv_toError_range (fn s : ByteArray) (base bits : Int) (ev : Value) (w : World) (hlim : s.size ≤ 281474976710656) (hv : w.cell? ⟨7, 0, none⟩ = some ev) (hev : ev = .nilIface ∨ ∃ te pe, ev = .iface te pe) :
    Calls Tryz.prog 128 #[.string fn, .string s, .int .i64 base, .int .i64 bits, .iface 137 (.int .i64 1)] w fun e w' => ∃ N, e = .returned (.iface 139 (.pointer (some ⟨N, 0, none⟩))) ∧ w.heap.size ≤ N ∧ w'.heap[N]? = some (.cells #[.string fn, .string s, ev] 151 (0, 0)) ∧ Below w.heap.size w w' := Any.strconv_toError_range Tryz.laysC245 fn s base bits ev w hlim hv hev
def Tryz.lays145_ren : Go.Shelf.Ren := ⟨fun | 145 => 79 | 220 => 97 | 219 => 113 | 217 => 129 | 225 => 130 | 224 => 131 | 267 => 132 | 266 => 145 | 314 => 146 | n => n, fun | 9 => 9 | 4 => 4 | 59 => 92 | 3 => 3 | 5 => 5 | 46 => 127 | 146 => 142 | 51 => 117 | n => n, fun | 1 => 0 | n => n⟩
theorem Tryz.lays145 : Go.Proofs.Lays.n145 Tryz.prog Tryz.lays145_ren := {
  mixed := by kernel_rfl
  f145 := Tryz.func79.trans (congrArg some (by kernel_rfl))
  f217 := Tryz.func129.trans (congrArg some (by kernel_rfl))
  f219 := Tryz.func113.trans (congrArg some (by kernel_rfl))
  f220 := Tryz.func97.trans (congrArg some (by kernel_rfl))
  f224 := Tryz.func131.trans (congrArg some (by kernel_rfl))
  f225 := Tryz.func130.trans (congrArg some (by kernel_rfl))
  f266 := Tryz.func145.trans (congrArg some (by kernel_rfl))
  f267 := Tryz.func132.trans (congrArg some (by kernel_rfl))
  f314 := Tryz.func146.trans (congrArg some (by kernel_rfl))
  t3 := Tryz.underlying3
  a3 := Tryz.isAgg3
  z3 := Tryz.sizeOf3
  v3 := Tryz.zeroValue3
  t4 := Tryz.underlying4
  a4 := Tryz.isAgg4
  z4 := Tryz.sizeOf4
  v4 := Tryz.zeroValue4
  t5 := Tryz.underlying5
  a5 := Tryz.isAgg5
  z5 := Tryz.sizeOf5
  v5 := Tryz.zeroValue5
  t9 := Tryz.underlying9
  a9 := Tryz.isAgg9
  z9 := Tryz.sizeOf9
  v9 := Tryz.zeroValue9
  t46 := Tryz.underlying127
  a46 := Tryz.isAgg127
  z46 := Tryz.sizeOf127
  v46 := Tryz.zeroValue127
  t51 := Tryz.underlying117
  a51 := Tryz.isAgg117
  z51 := Tryz.sizeOf117
  v51 := Tryz.zeroValue117
  t59 := Tryz.underlying92
  a59 := Tryz.isAgg92
  z59 := Tryz.sizeOf92
  v59 := Tryz.zeroValue92
  t146 := Tryz.underlying142
  a146 := Tryz.isAgg142
  z146 := Tryz.sizeOf142
  v146 := Tryz.zeroValue142
  g1 := by kernel_rfl }
open Go.RowKit Go.Lib in
theorem Tryz.strings_Cut (s sep : ByteArray) (m : Int) (w : World) (hs : s.size < 4294967281) (hm : w.cell? ⟨0, 0, none⟩ = some (.int .i64 m)) :
    Calls Tryz.prog 79 #[.string s, .string sep] w fun e w' => e = .returned (.tuple #[.string ⟨(Lib.cut s.data.toList sep.data.toList).1.toArray⟩, .string ⟨(Lib.cut s.data.toList sep.data.toList).2.1.toArray⟩, .bool (Lib.cut s.data.toList sep.data.toList).2.2]) ∧ ∃ n, w' = w.drewN n := Any.strings_Cut Tryz.lays145 s sep m w hs hm
def Tryz.lays138_ren : Go.Shelf.Ren := ⟨fun | 138 => 75 | 195 => 89 | 218 => 90 | 143 => 91 | 219 => 113 | 217 => 129 | 225 => 130 | 224 => 131 | 267 => 132 | 266 => 145 | 314 => 146 | n => n, fun | 9 => 9 | 3 => 3 | 4 => 4 | 5 => 5 | 0 => 0 | 46 => 127 | 146 => 142 | 51 => 117 | n => n, fun | 1 => 0 | n => n⟩
theorem Tryz.lays138 : Go.Proofs.Lays.n138 Tryz.prog Tryz.lays138_ren := {
  mixed := by kernel_rfl
  f138 := Tryz.func75.trans (congrArg some (by kernel_rfl))
  f143 := Tryz.func91.trans (congrArg some (by kernel_rfl))
  f195 := Tryz.func89.trans (congrArg some (by kernel_rfl))
  f217 := Tryz.func129.trans (congrArg some (by kernel_rfl))
  f218 := Tryz.func90.trans (congrArg some (by kernel_rfl))
  f219 := Tryz.func113.trans (congrArg some (by kernel_rfl))
  f224 := Tryz.func131.trans (congrArg some (by kernel_rfl))
  f225 := Tryz.func130.trans (congrArg some (by kernel_rfl))
  f266 := Tryz.func145.trans (congrArg some (by kernel_rfl))
  f267 := Tryz.func132.trans (congrArg some (by kernel_rfl))
  f314 := Tryz.func146.trans (congrArg some (by kernel_rfl))
  t0 := Tryz.underlying0
  a0 := Tryz.isAgg0
  z0 := Tryz.sizeOf0
  v0 := Tryz.zeroValue0
  t3 := Tryz.underlying3
  a3 := Tryz.isAgg3
  z3 := Tryz.sizeOf3
  v3 := Tryz.zeroValue3
  t4 := Tryz.underlying4
  a4 := Tryz.isAgg4
  z4 := Tryz.sizeOf4
  v4 := Tryz.zeroValue4
  t5 := Tryz.underlying5
  a5 := Tryz.isAgg5
  z5 := Tryz.sizeOf5
  v5 := Tryz.zeroValue5
  t9 := Tryz.underlying9
  a9 := Tryz.isAgg9
  z9 := Tryz.sizeOf9
  v9 := Tryz.zeroValue9
  t46 := Tryz.underlying127
  a46 := Tryz.isAgg127
  z46 := Tryz.sizeOf127
  v46 := Tryz.zeroValue127
  t51 := Tryz.underlying117
  a51 := Tryz.isAgg117
  z51 := Tryz.sizeOf117
  v51 := Tryz.zeroValue117
  t146 := Tryz.underlying142
  a146 := Tryz.isAgg142
  z146 := Tryz.sizeOf142
  v146 := Tryz.zeroValue142
  g1 := by kernel_rfl }
open Go.RowKit Go.Lib in
theorem Tryz.strings_Count_one (s : ByteArray) (c : UInt8) (w : World) :
    Calls Tryz.prog 75 #[.string s, .string ⟨#[c]⟩] w fun e w' => e = .returned (.int .i64 (Lib.countByte s.data.toList c)) ∧ w' = w := Any.strings_Count_one Tryz.lays138 s c w
def Tryz.lays149_ren : Go.Shelf.Ren := ⟨fun | 149 => 74 | 222 => 88 | n => n, fun | 9 => 9 | 5 => 5 | 3 => 3 | 4 => 4 | n => n, fun | n => n⟩
theorem Tryz.lays149 : Go.Proofs.Lays.n149 Tryz.prog Tryz.lays149_ren := {
  mixed := by kernel_rfl
  f149 := Tryz.func74.trans (congrArg some (by kernel_rfl))
  f222 := Tryz.func88.trans (congrArg some (by kernel_rfl))
  t3 := Tryz.underlying3
  a3 := Tryz.isAgg3
  z3 := Tryz.sizeOf3
  v3 := Tryz.zeroValue3
  t4 := Tryz.underlying4
  a4 := Tryz.isAgg4
  z4 := Tryz.sizeOf4
  v4 := Tryz.zeroValue4
  t5 := Tryz.underlying5
  a5 := Tryz.isAgg5
  z5 := Tryz.sizeOf5
  v5 := Tryz.zeroValue5
  t9 := Tryz.underlying9
  a9 := Tryz.isAgg9
  z9 := Tryz.sizeOf9
  v9 := Tryz.zeroValue9 }
open Go.RowKit Go.Lib in
theorem Tryz.strings_LastIndexByte (s : ByteArray) (c : Int) (hs : s.size < 4611686018427387904) (w : World) :
    Calls Tryz.prog 74 #[.string s, .int .u8 c] w fun e w' => e = .returned (.int .i64 (Lib.lastIndexByte s c)) ∧ w' = w := Any.strings_LastIndexByte Tryz.lays149 s c hs w
def Tryz.lays99_ren : Go.Shelf.Ren := ⟨fun | 99 => 78 | 206 => 96 | n => n, fun | 9 => 9 | 4 => 4 | 3 => 3 | n => n, fun | n => n⟩
theorem Tryz.lays99 : Go.Proofs.Lays.n99 Tryz.prog Tryz.lays99_ren := {
  mixed := by kernel_rfl
  f99 := Tryz.func78.trans (congrArg some (by kernel_rfl))
  f206 := Tryz.func96.trans (congrArg some (by kernel_rfl))
  t3 := Tryz.underlying3
  a3 := Tryz.isAgg3
  z3 := Tryz.sizeOf3
  v3 := Tryz.zeroValue3
  t4 := Tryz.underlying4
  a4 := Tryz.isAgg4
  z4 := Tryz.sizeOf4
  v4 := Tryz.zeroValue4
  t9 := Tryz.underlying9
  a9 := Tryz.isAgg9
  z9 := Tryz.sizeOf9
  v9 := Tryz.zeroValue9 }
open Go.RowKit Go.Lib in
theorem Tryz.strings_HasPrefix (s p : ByteArray) (w : World) :
    Calls Tryz.prog 78 #[.string s, .string p] w fun e w' => e = .returned (.bool (Lib.hasPrefix s.data.toList p.data.toList)) ∧ w' = w := Any.strings_HasPrefix Tryz.lays99 s p w
end Go.Proofs
namespace Go.Proofs.YtdplfflkmphpbaaGreatDoor.W
open Go.RowKit
def Glo (w : World) : Prop := (∃ ev, w.cell? ⟨6, 0, none⟩ = some ev ∧ (ev = .nilIface ∨ ∃ te pe, ev = .iface te pe)) ∧ (∃ ev, w.cell? ⟨7, 0, none⟩ = some ev ∧ (ev = .nilIface ∨ ∃ te pe, ev = .iface te pe)) ∧ ∃ m, w.cell? ⟨0, 0, none⟩ = some (.int .i64 m)
theorem Glo.keep {n : Nat} {w w' : World} (h : Glo w) (hn : 8 ≤ n) (hb : Below n w w') : Glo w' := by
  obtain ⟨⟨e1, h1, q1⟩, ⟨e2, h2, q2⟩, ⟨m, h3⟩⟩ := h
  exact ⟨⟨e1, (hb.cell (p := ⟨6, 0, none⟩) (by show 6 < n; omega)).trans h1, q1⟩, ⟨e2, (hb.cell (p := ⟨7, 0, none⟩) (by show 7 < n; omega)).trans h2, q2⟩, ⟨m, (hb.cell (p := ⟨0, 0, none⟩) (by show 0 < n; omega)).trans h3⟩⟩
theorem Glo.big {w : World} (h : Glo w) : 8 ≤ w.heap.size := by
  obtain ⟨_, ⟨e2, h2, _⟩, _⟩ := h
  have : 7 < w.heap.size := block_lt_of_cell h2
  omega
theorem Glo.on {w w' : World} (h : Glo w) (hb : Below w.heap.size w w') : Glo w' := h.keep h.big hb
def SParsed (t : ByteArray) (b mx : Int) (w : World) (e : Ending) (w' : World) : Prop :=
  ((Pl.Good t b mx ∧ e = .returned (.tuple #[.int .u64 (Pl.val t b t.size), .nilIface])) ∨
   (¬ Pl.Good t b mx ∧ ∃ (n : Int) (N : Nat), e = .returned (.tuple #[.int .u64 n, .iface 139 (.pointer (some ⟨N, 0, none⟩))]))) ∧ Below w.heap.size w w'
theorem iParse_all (b bz mx : Int) (h : (b = 8 ∧ bz = 32 ∧ mx = 4294967295) ∨ (b = 10 ∧ bz = 32 ∧ mx = 4294967295) ∨ (b = 16 ∧ bz = 32 ∧ mx = 4294967295) ∨ (b = 8 ∧ bz = 8 ∧ mx = 255) ∨ (b = 16 ∧ bz = 8 ∧ mx = 255)) (t : ByteArray) (hmax : t.size ≤ 9223372036854775806) (w : World) :
    Calls Tryz.prog 127 #[.string t, .int .i64 b, .int .i64 bz] w (Parsed t b mx w) := by
  rcases h with ⟨rfl, rfl, rfl⟩ | ⟨rfl, rfl, rfl⟩ | ⟨rfl, rfl, rfl⟩ | ⟨rfl, rfl, rfl⟩ | ⟨rfl, rfl, rfl⟩
  · exact iParse_8_32 t hmax w
  · exact iParse_10_32 t hmax w
  · exact iParse_16_32 t hmax w
  · exact iParse_8_8 t hmax w
  · exact iParse_16_8 t hmax w
set_option maxHeartbeats 4000000 in
set_option maxRecDepth 100000 in
theorem sParse_is (b bz mx : Int) (h : (b = 8 ∧ bz = 32 ∧ mx = 4294967295) ∨ (b = 10 ∧ bz = 32 ∧ mx = 4294967295) ∨ (b = 16 ∧ bz = 32 ∧ mx = 4294967295) ∨ (b = 8 ∧ bz = 8 ∧ mx = 255) ∨ (b = 16 ∧ bz = 8 ∧ mx = 255)) (t : ByteArray) (ht : t.size ≤ 1048576) (w : World) (hE : Glo w) :
    Calls Tryz.prog 112 #[.string t, .int .i64 b, .int .i64 bz] w (SParsed t b mx w) := by
  have HE : Hid (Glo w) := hE
  clear hE
  go_enter Tryz.func112, Tryz.ntmps112
  go_wp2_with fail
  refine (iParse_all b bz mx h t (by omega) _).mono ?_
  rintro e u1 ⟨hv, g1⟩
  have G1 : Hid (Below w.heap.size w u1) := g1
  obtain ⟨⟨e1, c1, q1⟩, ⟨e2, c2, q2⟩, _⟩ := HE.out.on g1
  clear g1 h
  have C1 : Hid (u1.cell? ⟨6, 0, none⟩ = some e1) := c1
  have C2 : Hid (u1.cell? ⟨7, 0, none⟩ = some e2) := c2
  have Q1 : Hid (e1 = .nilIface ∨ ∃ te pe, e1 = .iface te pe) := q1
  have Q2 : Hid (e2 = .nilIface ∨ ∃ te pe, e2 = .iface te pe) := q2
  clear c1 c2 q1 q2
  rcases hv with ⟨hg, rfl⟩ | ⟨hg, n, v, rfl, hv⟩
  · have HG : Hid (Pl.Good t b mx) := hg
    clear hg
    go_wp2_with fail
    go_ret2
    exact ⟨.inl ⟨HG.out, rfl⟩, G1.out⟩
  · have HG : Hid (¬ Pl.Good t b mx) := hg
    clear hg
    rcases hv with rfl | rfl
    · go_wp2_with fail
      refine (Tryz.strconv_toError_range _ t _ _ e2 _ (by omega) C2.out Q2.out).mono ?_
      rintro e u2 ⟨N, rfl, _, _, g2⟩
      go_wp2_with fail
      go_ret2
      exact ⟨.inr ⟨HG.out, _, N, rfl⟩, G1.out.trans (g2.mono G1.out.size)⟩
    · go_wp2_with fail
      refine (Tryz.strconv_toError_syntax _ t _ _ e1 _ (by omega) C1.out Q1.out).mono ?_
      rintro e u2 ⟨N, rfl, _, _, g2⟩
      go_wp2_with fail
      go_ret2
      exact ⟨.inr ⟨HG.out, _, N, rfl⟩, G1.out.trans (g2.mono G1.out.size)⟩
end Go.Proofs.YtdplfflkmphpbaaGreatDoor.W
namespace Go.Proofs.YtdplfflkmphpbaaGreatDoor.Pl
theorem esc_tab : ∀ c : Nat, c < 256 → ((Lib.indexByte [110, 116, 114, 97, 98, 102, 118, 92, 39, 34] (UInt8.ofNat c) = -1 ∧ plainE (c : Int) = -1) ∨ (0 ≤ Lib.indexByte [110, 116, 114, 97, 98, 102, 118, 92, 39, 34] (UInt8.ofNat c) ∧ Lib.indexByte [110, 116, 114, 97, 98, 102, 118, 92, 39, 34] (UInt8.ofNat c) < 10 ∧ plainE (c : Int) = (([10, 9, 13, 7, 8, 12, 11, 92, 39, 34] : List UInt8).getD (Lib.indexByte [110, 116, 114, 97, 98, 102, 118, 92, 39, 34] (UInt8.ofNat c)).toNat 0).toNat)) := by decide +kernel
theorem esb_at : ∀ k, (h : k < 10) → (((⟨#[10, 9, 13, 7, 8, 12, 11, 92, 39, 34]⟩ : ByteArray)[k]'(by show k < 10; exact h)).toNat : Int) = (([10, 9, 13, 7, 8, 12, 11, 92, 39, 34] : List UInt8).getD k 0).toNat := by decide +kernel
end Go.Proofs.YtdplfflkmphpbaaGreatDoor.Pl
namespace Go.Proofs.YtdplfflkmphpbaaGreatDoor.W
open Go.RowKit
def EscSaid (t : ByteArray) (e : Ending) : Prop := (∃ (v : Int) (n : Nat), Pl.escF t 0 = .ok (v, n) ∧ e = .returned (.tuple #[.int .u8 v, .int .i64 n, .int .i64 0])) ∨ (∃ f, Pl.escF t 0 = .error f ∧ e = .returned (.tuple #[.int .u8 0, .int .i64 0, .int .i64 f]))
theorem esc_ok {t : ByteArray} {v v' n' : Int} {n : Nat} (h : Pl.escF t 0 = .ok (v, n)) (hv : v' = v) (hn : n' = n) : EscSaid t (.returned (.tuple #[.int .u8 v', .int .i64 n', .int .i64 0])) := .inl ⟨v, n, h, by rw [hv, hn]⟩
theorem esc_no {t : ByteArray} {f : Int} (h : Pl.escF t 0 = .error f) : EscSaid t (.returned (.tuple #[.int .u8 0, .int .i64 0, .int .i64 f])) := .inr ⟨f, h, rfl⟩
set_option maxHeartbeats 4000000 in
set_option maxRecDepth 100000 in
theorem readEscape_is (t : ByteArray) (ht : t.size ≤ 1048576) (w : World) (hE : Glo w) : Calls Tryz.prog 102 #[.string t] w fun e w' => EscSaid t e ∧ Below w.heap.size w w' := by
  have HE : Hid (Glo w) := hE
  clear hE
  by_cases h0 : t.size = 0
  · have hn : t.toList.isEmpty = true := by
      rw [← decide_eq_emptyBytes]
      exact decide_eq_true (by cases t with | mk d => congr; exact Array.eq_empty_of_size_eq_zero h0)
    have HF : Hid (Pl.escF t 0 = .error 4) := Pl.esc_out (.inl h0)
    clear h0
    go_enter Tryz.func102, Tryz.ntmps102
    go_wp2_with fail
    go_ret3
    exact ⟨esc_no HF.out, Below.refl _ _⟩
  have hpos : 0 < t.size := by omega
  have hemp : t.toList.isEmpty = false := by
    rw [← decide_eq_emptyBytes]
    exact decide_eq_false (fun h => h0 (by rw [h]; rfl))
  have hg0 := Pl.byt_get t 0 hpos
  have b0 := Pl.byt_lo t 0
  have b1 := Pl.byt_hi t 0
  have htab := Pl.esc_tab (Pl.byt t 0).toNat (by omega)
  rw [Int.toNat_of_nonneg b0] at htab
  have HI : Hid (∀ u, Calls Tryz.prog 122 #[.string ⟨#[110, 116, 114, 97, 98, 102, 118, 92, 39, 34]⟩, .int .u8 (Pl.byt t 0)] u fun e w' => e = .returned (.int .i64 (Lib.indexByte [110, 116, 114, 97, 98, 102, 118, 92, 39, 34] (UInt8.ofNat (Pl.byt t 0).toNat))) ∧ w' = u) := fun u => Tryz.strings_IndexByte ⟨#[110, 116, 114, 97, 98, 102, 118, 92, 39, 34]⟩ (Pl.byt t 0) u
  have HP : Hid (0 ≤ Pl.plainE (Pl.byt t 0) → Pl.byt t 0 ≠ 10 → Pl.escF t 0 = .ok (Pl.plainE (Pl.byt t 0), 1)) := fun a b => Pl.esc_plain hpos a b
  have HO : Hid (Pl.byt t 0 = 10 → Pl.escF t 0 = .error 4) := fun a => Pl.esc_out (.inr a)
  have HX : Hid (Pl.byt t 0 = 120 → ∀ n, Pl.Run (fun c => decide (Pl.dgo c < 16)) (t.extract 1 t.size) n → _) := fun a n hn => Pl.esc_hex hpos a hn
  have HN : Hid (Pl.byt t 0 ≠ 10 → Pl.byt t 0 ≠ 120 → Pl.plainE (Pl.byt t 0) < 0 → ∀ n, Pl.Run (fun c => decide (Pl.dgo c < 8)) t n → _) := fun a b c n hn => Pl.esc_oct hpos a b c hn
  obtain ⟨c, hc⟩ : ∃ c, c = Pl.byt t 0 := ⟨_, rfl⟩
  obtain ⟨ix, hix⟩ : ∃ ix, ix = Lib.indexByte [110, 116, 114, 97, 98, 102, 118, 92, 39, 34] (UInt8.ofNat (Pl.byt t 0).toNat) := ⟨_, rfl⟩
  rw [← hix] at htab HI
  rw [← hc] at hg0 b0 b1 htab HI HP HO HX HN
  clear hix hc h0
  by_cases h10 : c = 10
  · have e10 : (c == 10) = true := by simp [h10]
    have HF : Hid (Pl.escF t 0 = .error 4) := HO.out h10
    clear h10
    go_enter Tryz.func102, Tryz.ntmps102
    go_wp2_with fail
    go_ret3
    exact ⟨esc_no HF.out, Below.refl _ _⟩
  have e10 : (c == 10) = false := by simp [h10]
  rcases htab with ⟨hi, hp⟩ | ⟨hi0, hi1, hp⟩
  rotate_left
  · obtain ⟨k, rfl⟩ : ∃ k : Nat, ix = k := ⟨ix.toNat, by omega⟩
    have hk : k < 10 := by omega
    have hkb := Pl.esb_at k hk
    rw [Int.toNat_natCast] at hp
    have HV : Hid (Pl.escF t 0 = .ok (Pl.plainE c, 1)) := HP.out (by rw [hp]; omega) h10
    rw [hp] at HV
    clear hp h10 HP HX HN HO
    obtain ⟨v, hv⟩ : ∃ v : Int, v = ((([10, 9, 13, 7, 8, 12, 11, 92, 39, 34] : List UInt8).getD k 0).toNat : Int) := ⟨_, rfl⟩
    rw [← hv] at hkb HV
    clear hv
    have hkk : (k : Int) < 10 := by omega
    go_enter Tryz.func102, Tryz.ntmps102
    go_wp2_with (go_at_call 122; refine (HI.out _).mono ?_; rintro e u1 ⟨rfl, rfl⟩)
    go_ret3
    exact ⟨esc_ok HV.out rfl rfl, Below.refl _ _⟩
  have HPL : Hid (Pl.plainE c < 0) := by show Pl.plainE c < 0; omega
  have hixm : ix = -1 := hi
  subst hixm
  clear hp hi HP HO
  by_cases hx : c = 120
  · have e1 : (c == 120) = true := by simp [hx]
    have HF : Hid (∀ n, Pl.Run (fun c => decide (Pl.dgo c < 16)) (t.extract 1 t.size) n → _) := HX.out hx
    clear hx h10 HX HN HPL
    have h1 : (1 : Int) ≤ (t.size : Int) := by omega
    go_enter Tryz.func102, Tryz.ntmps102
    go_wp2_with (first | (go_at_call 122; refine (HI.out _).mono ?_; rintro e u1 ⟨rfl, rfl⟩) | (go_at_call 123; refine (digitCount_is (t.extract 1 t.size) (by first | omega | (rw [Pl.ext_sz]; omega)) 16 (by decide) _).mono ?_; rintro e u2 ⟨⟨n, hn, rfl⟩, g2⟩; have G2 : Hid _ := g2; have HR := HF.out n hn; have HR' : Hid _ := HR; have hnn : (n : Int) ≤ (t.extract 1 t.size).size := (by have := hn.1; omega); clear g2 HR hn))
    rw [show (min (n : Int) 2).toNat = min n 2 by omega]
    obtain ⟨D, hD⟩ : ∃ D, D = (t.extract 1 t.size).extract 0 (min n 2) := ⟨_, rfl⟩
    have hDs : D.size = min n 2 := by rw [hD, Pl.ext_size]; omega
    rw [← hD] at HR' ⊢
    rw [← hDs] at HR'
    have hD3 : D.size ≤ 2 := by omega
    clear hD hDs hnn
    refine (sParse_is 16 8 255 (by decide) D (by omega) _ (HE.out.on G2.out)).mono ?_
    rintro e u3 ⟨hv, g3⟩
    have G3 : Hid (Below u1.heap.size u1 u3) := G2.out.trans (g3.mono G2.out.size)
    clear g3
    rcases hv with ⟨hg, rfl⟩ | ⟨hg, q, N, rfl⟩
    · have HF2 : Hid (Pl.escF t 0 = _) := (HR'.out.resolve_right (fun h => h.1 hg)).2
      have v0 := Pl.val_lo D 16 (by decide) D.size (fun j hj => (hg.2.1 j hj).1)
      have v1 := hg.2.2
      obtain ⟨v, hv⟩ : ∃ v, v = Pl.val D 16 D.size := ⟨_, rfl⟩
      rw [← hv] at HF2 v0 v1 ⊢
      clear hv hg HR'
      go_wp2_with fail
      go_ret3
      exact ⟨esc_ok HF2.out rfl (by first | omega | simp), G3.out⟩
    · have HF2 : Hid (Pl.escF t 0 = _) := (HR'.out.resolve_left (fun h => hg h.1)).2
      clear hg HR'
      go_wp2_with fail
      go_ret3
      exact ⟨esc_no HF2.out, G3.out⟩
  · have e1 : (c == 120) = false := by simp [hx]
    have HF : Hid (∀ n, Pl.Run (fun c => decide (Pl.dgo c < 8)) t n → _) := HN.out h10 hx HPL.out
    clear hx h10 HX HN HPL
    go_enter Tryz.func102, Tryz.ntmps102
    go_wp2_with (first | (go_at_call 122; refine (HI.out _).mono ?_; rintro e u1 ⟨rfl, rfl⟩) | (go_at_call 123; refine (digitCount_is t (by first | omega | (rw [Pl.ext_sz]; omega)) 8 (by decide) _).mono ?_; rintro e u2 ⟨⟨n, hn, rfl⟩, g2⟩; have G2 : Hid _ := g2; have HR := HF.out n hn; have HR' : Hid _ := HR; have hnn : (n : Int) ≤ t.size := (by have := hn.1; omega); clear g2 HR hn))
    rw [show (min (n : Int) 3).toNat = min n 3 by omega]
    obtain ⟨D, hD⟩ : ∃ D, D = t.extract 0 (min n 3) := ⟨_, rfl⟩
    have hDs : D.size = min n 3 := by rw [hD, Pl.ext_size]; omega
    rw [← hD] at HR' ⊢
    rw [← hDs] at HR'
    have hD3 : D.size ≤ 3 := by omega
    clear hD hDs hnn
    refine (sParse_is 8 8 255 (by decide) D (by omega) _ (HE.out.on G2.out)).mono ?_
    rintro e u3 ⟨hv, g3⟩
    have G3 : Hid (Below u1.heap.size u1 u3) := G2.out.trans (g3.mono G2.out.size)
    clear g3
    rcases hv with ⟨hg, rfl⟩ | ⟨hg, q, N, rfl⟩
    · have HF2 : Hid (Pl.escF t 0 = _) := (HR'.out.resolve_right (fun h => h.1 hg)).2
      have v0 := Pl.val_lo D 8 (by decide) D.size (fun j hj => (hg.2.1 j hj).1)
      have v1 := hg.2.2
      obtain ⟨v, hv⟩ : ∃ v, v = Pl.val D 8 D.size := ⟨_, rfl⟩
      rw [← hv] at HF2 v0 v1 ⊢
      clear hv hg HR'
      go_wp2_with fail
      go_ret3
      exact ⟨esc_ok HF2.out rfl (by first | omega | simp), G3.out⟩
    · have HF2 : Hid (Pl.escF t 0 = _) := (HR'.out.resolve_left (fun h => hg h.1)).2
      clear hg HR'
      go_wp2_with fail
      go_ret3
      exact ⟨esc_no HF2.out, G3.out⟩
end Go.Proofs.YtdplfflkmphpbaaGreatDoor.W
namespace Go.Proofs.YtdplfflkmphpbaaGreatDoor.Pl
def frm : List Int := [110, 116, 114, 97, 98, 102, 118, 92, 39, 34]
def tob : List Int := [10, 9, 13, 7, 8, 12, 11, 92, 39, 34]
def escTab : Array Value := #[.int .i64 10, .int .i64 9, .int .i64 13, .int .i64 7, .int .i64 8, .int .i64 12, .int .i64 11, .int .i64 92, .int .i64 39, .int .i64 34]
theorem escTab_at (k : Nat) (h : k < 10) : escTab[k]? = some (.int .i64 (tob.getD k 0)) := by
  have : k = 0 ∨ k = 1 ∨ k = 2 ∨ k = 3 ∨ k = 4 ∨ k = 5 ∨ k = 6 ∨ k = 7 ∨ k = 8 ∨ k = 9 := by omega
  rcases this with rfl | rfl | rfl | rfl | rfl | rfl | rfl | rfl | rfl | rfl <;> rfl
theorem plainE_at : ∀ k, k < 10 → plainE (frm.getD k 0) = tob.getD k 0 := by decide
theorem plainE_no (c : Int) (h : ∀ k, k < 10 → frm.getD k 0 ≠ c) : plainE c = -1 := by
  have h0 : (110 : Int) ≠ c := h 0 (by decide)
  have h1 : (116 : Int) ≠ c := h 1 (by decide)
  have h2 : (114 : Int) ≠ c := h 2 (by decide)
  have h3 : (97 : Int) ≠ c := h 3 (by decide)
  have h4 : (98 : Int) ≠ c := h 4 (by decide)
  have h5 : (102 : Int) ≠ c := h 5 (by decide)
  have h6 : (118 : Int) ≠ c := h 6 (by decide)
  have h7 : (92 : Int) ≠ c := h 7 (by decide)
  have h8 : (39 : Int) ≠ c := h 8 (by decide)
  have h9 : (34 : Int) ≠ c := h 9 (by decide)
  unfold plainE
  rw [if_neg (Ne.symm h0), if_neg (Ne.symm h1), if_neg (Ne.symm h2), if_neg (Ne.symm h3), if_neg (Ne.symm h4), if_neg (Ne.symm h5), if_neg (Ne.symm h6), if_neg (Ne.symm h7), if_neg (Ne.symm h8), if_neg (Ne.symm h9)]
theorem frm_at : ∀ k, (h : k < 10) → (((⟨#[110, 116, 114, 97, 98, 102, 118, 92, 39, 34]⟩ : ByteArray)[k]'(by show k < 10; exact h)).toNat : Int) = frm.getD k 0 := by decide +kernel
end Go.Proofs.YtdplfflkmphpbaaGreatDoor.Pl
namespace Go.Proofs.YtdplfflkmphpbaaGreatDoor.W
open Go.RowKit
theorem below_allocL (w : World) (o : Obj) : Below w.heap.size w (w.alloc o) := (Below.refl _ _).alloc (Nat.le_refl _) _
set_option maxHeartbeats 2000000 in
theorem l5Plain_any (c : Int) (w : World) : Calls Tryz.prog 66 #[.int .u8 c] w fun e w' => e = .returned (.int .i64 (Pl.plainE c)) ∧ Below w.heap.size w w' := by
  go_enter Tryz.func66, Tryz.ntmps66
  go_wp2_with fail
  obtain ⟨W1, hW1⟩ : ∃ W1, W1 = w.alloc (.cells #[.int .i64 10, .int .i64 9, .int .i64 13, .int .i64 7, .int .i64 8, .int .i64 12, .int .i64 11, .int .i64 92, .int .i64 39, .int .i64 34] 3) := ⟨_, rfl⟩
  rw [← hW1]
  have HC : Hid (∀ k, k < 10 → W1.cell? ⟨w.heap.size, k, none⟩ = some (.int .i64 (Pl.tob.getD k 0))) := fun k hk => by
    rw [hW1]
    show (w.alloc (.cells Pl.escTab 3)).cell? _ = _
    rw [cell_of_row _ _ k Pl.escTab 3 (0, 0) (heap_alloc_new w _)]; exact Pl.escTab_at k hk
  have HB : Hid (Below w.heap.size w W1) := by rw [hW1]; exact below_allocL _ _
  clear hW1
  go_loop [5] (fun x => ∃ k : Nat, k ≤ 10 ∧ x = .int .i64 k ∧ ∀ j, j < k → Pl.frm.getD j 0 ≠ c) (fun x => 10 - (intOf x).toNat)
  case atStart => exact ⟨0, Nat.zero_le _, rfl, fun j hj => absurd hj (Nat.not_lt_zero j)⟩
  case round =>
    obtain ⟨k, hk, rfl, hall⟩ := hrel
    have HA : Hid (∀ j, j < k → Pl.frm.getD j 0 ≠ c) := hall
    clear hall
    by_cases hlt : k < 10
    · have hi : (k : Int) < 10 := by omega
      have hf := Pl.frm_at k hlt
      have HE : Hid (Pl.plainE (Pl.frm.getD k 0) = Pl.tob.getD k 0) := Pl.plainE_at k hlt
      have hcell := HC.out k hlt
      obtain ⟨q, hq⟩ : ∃ q, q = Pl.frm.getD k 0 := ⟨_, rfl⟩
      obtain ⟨t, ht⟩ : ∃ t, t = Pl.tob.getD k 0 := ⟨_, rfl⟩
      rw [← hq] at hf HE
      rw [← ht] at hcell HE
      have HQ : Hid (q = Pl.frm.getD k 0) := hq
      clear hq ht HC
      by_cases hc : q = c
      · have e1 : (q == c) = true := by simp [hc]
        have HF : Hid (Pl.plainE c = t) := by rw [← hc]; exact HE.out
        clear hc HE HQ
        go_wp2
        go_ret
        exact ⟨ret_int HF.out.symm, HB.out⟩
      · have e1 : (q == c) = false := by simp [hc]
        go_wp2
        go_round
        case rel => exact ⟨k + 1, by omega, by go_num, fun j hj => by
          by_cases e : j = k
          · rw [e, ← HQ.out]; exact hc
          · exact HA.out j (by omega)⟩
        case measure => simp [intOf]; omega
    · have hkk : k = 10 := by omega
      subst hkk
      have HF : Hid (Pl.plainE c = -1) := Pl.plainE_no c HA.out
      clear HA
      go_wp2
      go_ret
      exact ⟨ret_int HF.out.symm, HB.out⟩
end Go.Proofs.YtdplfflkmphpbaaGreatDoor.W
namespace Go.Proofs.YtdplfflkmphpbaaGreatDoor.Pl
def oct (c : Nat) : List UInt8 := [92, UInt8.ofNat (48 + c / 64), UInt8.ofNat (48 + c / 8 % 8), UInt8.ofNat (48 + c % 8)]
def shown (c m : Nat) : List UInt8 :=
  if c = 10 then [92, 110] else if c = 9 then [92, 116] else if c = 13 then [92, 114] else if c = m ∨ c = 92 then [92, UInt8.ofNat c]
  else if 32 ≤ c ∧ c ≤ 126 then [UInt8.ofNat c] else oct c
theorem oct_eq : ∀ c, c < 256 → (⟨#[92]⟩ ++ ⟨#[48 + UInt8.ofNat c / 64, 48 + UInt8.ofNat (c / 8 % 8), 48 + UInt8.ofNat c % 8]⟩ : ByteArray) = ⟨(oct c).toArray⟩ := by decide +kernel
theorem shown_len (c m : Nat) : (shown c m).length ≤ 4 := by unfold shown oct; repeat (split <;> try simp)
end Go.Proofs.YtdplfflkmphpbaaGreatDoor.Pl
namespace Go.Proofs.YtdplfflkmphpbaaGreatDoor.W
open Go.RowKit
theorem qret_str {a b : ByteArray} (h : a = b) : Ending.returned (.string a) = .returned (.string b) := by rw [h]
theorem conv_c1 (w : World) (v : Int) : (convert 22 9 (.slice (some ⟨w.heap.size, 0, none⟩) 1 1)).run Tryz.prog (w.alloc (.cells #[.int .u8 v] 5)) = .ok (.string ⟨#[UInt8.ofNat v.toNat]⟩) (w.alloc (.cells #[.int .u8 v] 5)) :=
  run_convert_bytes_arg _ 22 5 Tryz.underlying22 Tryz.underlying5 w.heap.size 0 1 1 [v] rfl (fun i hi => by
    obtain rfl : i = 0 := by omega
    rw [cell_of_row _ _ _ #[.int .u8 v] 5 (0, 0) (heap_alloc_new w _)]; rfl) 9 Tryz.underlying9
theorem conv_c3 (w : World) (x y z : Int) : (convert 22 9 (.slice (some ⟨w.heap.size, 0, none⟩) 3 3)).run Tryz.prog (w.alloc (.cells #[.int .u8 x, .int .u8 y, .int .u8 z] 5)) = .ok (.string ⟨#[UInt8.ofNat x.toNat, UInt8.ofNat y.toNat, UInt8.ofNat z.toNat]⟩) (w.alloc (.cells #[.int .u8 x, .int .u8 y, .int .u8 z] 5)) :=
  run_convert_bytes_arg _ 22 5 Tryz.underlying22 Tryz.underlying5 w.heap.size 0 3 3 [x, y, z] rfl (fun i hi => by
    have : i = 0 ∨ i = 1 ∨ i = 2 := by omega
    rcases this with rfl | rfl | rfl <;> (rw [cell_of_row _ _ _ #[.int .u8 x, .int .u8 y, .int .u8 z] 5 (0, 0) (heap_alloc_new w _)]; rfl)) 9 Tryz.underlying9
set_option maxHeartbeats 1000000 in
theorem l5Octal_any (c : Nat) (h : c < 256) (w : World) : Calls Tryz.prog 52 #[.int .i64 c] w fun e w' => e = .returned (.string ⟨(Pl.oct c).toArray⟩) ∧ Below w.heap.size w w' := by
  have hcv := conv_c3 w
  go_enter Tryz.func52, Tryz.ntmps52
  go_wp2
  go_ret
  refine ⟨qret_str ?_, (Below.refl _ _).alloc (Nat.le_refl _) _⟩
  exact Pl.oct_eq c h
set_option maxHeartbeats 2000000 in
theorem l5Shown_any (c m : Nat) (h : c < 256) (hm : m < 256) (w : World) : Calls Tryz.prog 36 #[.int .i64 c, .int .u8 m] w fun e w' => e = .returned (.string ⟨(Pl.shown c m).toArray⟩) ∧ Below w.heap.size w w' := by
  have hcv := conv_c1 w
  unfold Pl.shown
  by_cases h10 : c = 10
  · rw [if_pos h10]
    have e1 : ((c : Int) == 10) = true := by simp; omega
    clear h10
    go_enter Tryz.func36, Tryz.ntmps36
    go_wp2
    go_ret
    exact ⟨rfl, Below.refl _ _⟩
  rw [if_neg h10]
  have e10 : ((c : Int) == 10) = false := by simp; omega
  by_cases h9 : c = 9
  · rw [if_pos h9]
    have e1 : ((c : Int) == 9) = true := by simp; omega
    clear h10 h9
    go_enter Tryz.func36, Tryz.ntmps36
    go_wp2
    go_ret
    exact ⟨rfl, Below.refl _ _⟩
  rw [if_neg h9]
  have e9 : ((c : Int) == 9) = false := by simp; omega
  by_cases h13 : c = 13
  · rw [if_pos h13]
    have e1 : ((c : Int) == 13) = true := by simp; omega
    clear h10 h9 h13
    go_enter Tryz.func36, Tryz.ntmps36
    go_wp2
    go_ret
    exact ⟨rfl, Below.refl _ _⟩
  rw [if_neg h13]
  have e13 : ((c : Int) == 13) = false := by simp; omega
  clear h10 h9 h13
  by_cases hmk : c = m ∨ c = 92
  · rw [if_pos hmk]
    by_cases h1 : c = m
    · have e1 : ((c : Int) == (m : Int)) = true := by simp; omega
      clear hmk h1
      go_enter Tryz.func36, Tryz.ntmps36
      go_wp2
      go_ret
      refine ⟨qret_str ?_, (Below.refl _ _).alloc (Nat.le_refl _) _⟩
      rfl
    · have e1 : ((c : Int) == (m : Int)) = false := by simp; omega
      have e2 : ((c : Int) == 92) = true := by simp; omega
      clear hmk h1
      go_enter Tryz.func36, Tryz.ntmps36
      go_wp2
      go_ret
      refine ⟨qret_str ?_, (Below.refl _ _).alloc (Nat.le_refl _) _⟩
      rfl
  rw [if_neg hmk]
  have em : ((c : Int) == (m : Int)) = false := by simp; omega
  have e92 : ((c : Int) == 92) = false := by simp; omega
  clear hmk
  by_cases h32 : 32 ≤ c ∧ c ≤ 126
  · rw [if_pos h32]
    have e1 : decide (32 ≤ (c : Int)) = true := by simp; omega
    have e2 : decide ((c : Int) ≤ 126) = true := by simp; omega
    clear h32
    go_enter Tryz.func36, Tryz.ntmps36
    go_wp2
    go_ret
    refine ⟨qret_str ?_, (Below.refl _ _).alloc (Nat.le_refl _) _⟩
    rfl
  rw [if_neg h32]
  by_cases hlo : 32 ≤ c
  · have e1 : decide (32 ≤ (c : Int)) = true := by simp; omega
    have e2 : decide ((c : Int) ≤ 126) = false := by simp; omega
    clear h32 hlo
    go_enter Tryz.func36, Tryz.ntmps36
    go_wp2_with (go_at_call 52; refine (l5Octal_any c h _).mono ?_; rintro e u1 ⟨rfl, hb1⟩)
    go_ret
    exact ⟨rfl, hb1⟩
  · have e1 : decide (32 ≤ (c : Int)) = false := by simp; omega
    clear h32 hlo
    go_enter Tryz.func36, Tryz.ntmps36
    go_wp2_with (go_at_call 52; refine (l5Octal_any c h _).mono ?_; rintro e u1 ⟨rfl, hb1⟩)
    go_ret
    exact ⟨rfl, hb1⟩
end Go.Proofs.YtdplfflkmphpbaaGreatDoor.W
namespace Go.Proofs.YtdplfflkmphpbaaGreatDoor.W
open Go.RowKit
def DbLies (w : World) : Prop := 3 < w.heap.size ∧ w.cell? ⟨3, 7, none⟩ = some (.int .u8 3)
theorem DbLies.below {w w' : World} (h : DbLies w) (hb : Below w.heap.size w w') : DbLies w' :=
  ⟨Nat.lt_of_lt_of_le h.1 hb.size, (hb.cell (p := ⟨3, 7, none⟩) h.1).trans h.2⟩
theorem tz_key : IntKind.u64.wrap (bits BinOp.and IntKind.u64 8 (IntKind.u64.wrap (-8)) * 285870213051353865) / 288230376151711744 = 7 := by decide +kernel
theorem tz64_8 (w : World) (h : DbLies w) : Calls Tryz.prog 134 #[.int .u64 8] w fun e w' => e = .returned (.int .i64 3) ∧ w' = w := by
  obtain ⟨_, hc⟩ := h
  have key := tz_key
  go_enter Tryz.func134, Tryz.ntmps134
  go_wp2_with (simp only [tz_key])
  go_ret
  exact ⟨rfl, rfl⟩
theorem tz_8 (w : World) (h : DbLies w) : Calls Tryz.prog 118 #[.int .u64 8] w fun e w' => e = .returned (.int .i64 3) ∧ w' = w := by
  go_enter Tryz.func118, Tryz.ntmps118
  go_wp2_with (go_at_call 134; refine (tz64_8 _ h).mono ?_; rintro e w' ⟨rfl, rfl⟩)
  go_ret
  exact ⟨rfl, rfl⟩
theorem pow2_key : bits BinOp.and IntKind.i64 8 7 = 0 := by decide +kernel
theorem pow2_8 (w : World) : Calls Tryz.prog 117 #[.int .i64 8] w fun e w' => e = .returned (.bool true) ∧ w' = w := by
  go_enter Tryz.func117, Tryz.ntmps117
  go_wp2_with (simp only [pow2_key])
  go_ret
  exact ⟨rfl, rfl⟩
end Go.Proofs.YtdplfflkmphpbaaGreatDoor.W
namespace Go.Proofs.YtdplfflkmphpbaaGreatDoor.Pl
def oct4 (n : Nat) : ByteArray := ⟨#[49, UInt8.ofNat (48 + n / 64 % 8), UInt8.ofNat (48 + n / 8 % 8), UInt8.ofNat (48 + n % 8)]⟩
theorem oct4_cut : ∀ c, c < 256 → (⟨#[92]⟩ : ByteArray) ++ (oct4 (512 + c)).extract 1 4 = ⟨(oct c).toArray⟩ := by decide +kernel
end Go.Proofs.YtdplfflkmphpbaaGreatDoor.Pl
namespace Go.Proofs.YtdplfflkmphpbaaGreatDoor.W
open Go.RowKit
theorem ret_two {a b : ByteArray} (h : a = b) : Ending.returned (.tuple #[.slice none 0 0, .string a]) = .returned (.tuple #[.slice none 0 0, .string b]) := by rw [h]
theorem and7 (n : Nat) (h : n < 18446744073709551616) : bits .and .u64 (n : Int) 7 = ((n % 8 : Nat) : Int) := by
  have := bits_and_u64_nat n 7 h (by decide)
  rw [show ((7 : Nat) : Int) = 7 from rfl] at this
  rw [this]
  congr 1
  exact Nat.and_two_pow_sub_one_eq_mod n 3
theorem conv_four (w : World) (Z : Array Value) (hz : Z.size = 65) (a b c d : Int) : (convert 22 9 (.slice (some ⟨w.heap.size, 61, none⟩) 4 4)).run Tryz.prog (w.alloc (.cells ((((Z.setIfInBounds 64 (.int .u8 a)).setIfInBounds 63 (.int .u8 b)).setIfInBounds 62 (.int .u8 c)).setIfInBounds 61 (.int .u8 d)) 125)) = .ok (.string ⟨#[UInt8.ofNat d.toNat, UInt8.ofNat c.toNat, UInt8.ofNat b.toNat, UInt8.ofNat a.toNat]⟩) (w.alloc (.cells ((((Z.setIfInBounds 64 (.int .u8 a)).setIfInBounds 63 (.int .u8 b)).setIfInBounds 62 (.int .u8 c)).setIfInBounds 61 (.int .u8 d)) 125)) :=
  run_convert_bytes_arg _ 22 5 Tryz.underlying22 Tryz.underlying5 w.heap.size 61 4 4 [d, c, b, a] rfl (fun i hi => by
    have : i = 0 ∨ i = 1 ∨ i = 2 ∨ i = 3 := by omega
    rcases this with rfl | rfl | rfl | rfl <;> (rw [cell_of_row _ _ _ _ 125 (0, 0) (heap_alloc_new w _)]; simp [Array.getElem?_setIfInBounds, hz])) 9 Tryz.underlying9
theorem digit_at : ∀ d, (h : d < 8) → (((⟨#[48, 49, 50, 51, 52, 53, 54, 55, 56, 57, 97, 98, 99, 100, 101, 102, 103, 104, 105, 106, 107, 108, 109, 110, 111, 112, 113, 114, 115, 116, 117, 118, 119, 120, 121, 122]⟩ : ByteArray)[d]'(by show d < 36; omega)) : UInt8) = UInt8.ofNat (48 + d) := by decide +kernel
set_option maxRecDepth 8000 in
set_option maxHeartbeats 2000000 in
theorem formatBits_8 (n : Nat) (h1 : 512 ≤ n) (h2 : n < 768) (w : World) (hd : DbLies w) : Calls Tryz.prog 95 #[.slice none 0 0, .int .u64 n, .int .i64 8, .bool false, .bool false] w fun e w' => e = .returned (.tuple #[.slice none 0 0, .string (Pl.oct4 n)]) ∧ Below w.heap.size w w' := by
  have HD : Hid (DbLies w) := hd
  clear hd
  go_enter Tryz.func95, Tryz.ntmps95
  go_wp2_with (first | (go_at_call 117; refine (pow2_8 _).mono ?_; rintro e u1 ⟨rfl, rfl⟩) | (go_at_call 118; refine (tz_8 _ (HD.out.below ((Below.refl _ _).alloc (Nat.le_refl _) _))).mono ?_; rintro e u1 ⟨rfl, rfl⟩))
  obtain ⟨m1, hm1⟩ : ∃ m : Nat, m = n / 8 := ⟨_, rfl⟩
  obtain ⟨m2, hm2⟩ : ∃ m : Nat, m = n / 64 := ⟨_, rfl⟩
  have e1 : decide ((8 : Int) ≤ (n : Int)) = true := by simp; omega
  have e2 : decide ((8 : Int) ≤ (m1 : Int)) = true := by simp; omega
  have e3 : decide ((8 : Int) ≤ (m2 : Int)) = true := by simp; omega
  have q1 : (n : Int) / 8 = (m1 : Int) := by omega
  have q2 : (m1 : Int) / 8 = (m2 : Int) := by omega
  have q3 : (m2 : Int) / 8 = 1 := by omega
  obtain ⟨d0, hd0, hb0, HD0⟩ : ∃ d : Nat, d < 8 ∧ bits .and .u64 (n : Int) 7 = (d : Int) ∧ Hid (d = n % 8) := ⟨n % 8, by omega, and7 n (by omega), rfl⟩
  obtain ⟨d1, hd1, hb1, HD1⟩ : ∃ d : Nat, d < 8 ∧ bits .and .u64 (m1 : Int) 7 = (d : Int) ∧ Hid (d = n / 8 % 8) := ⟨m1 % 8, by omega, and7 m1 (by omega), by show m1 % 8 = _; omega⟩
  obtain ⟨d2, hd2, hb2, HD2⟩ : ∃ d : Nat, d < 8 ∧ bits .and .u64 (m2 : Int) 7 = (d : Int) ∧ Hid (d = n / 64 % 8) := ⟨m2 % 8, by omega, and7 m2 (by omega), by show m2 % 8 = _; omega⟩
  clear hm1 hm2
  refine wp_loop_rounds 4 ?_
  rw [rounds_succ]
  go_wp2
  rw [rounds_succ]
  go_wp2
  rw [rounds_succ]
  go_wp2
  rw [rounds_succ]
  have hcv := fun a b c d => conv_four w Tryz.zeroCells125 (by kernel_rfl) a b c d
  go_wp2
  go_ret2
  refine ⟨ret_two ?_, (Below.refl _ _).alloc (Nat.le_refl _) _⟩
  rw [digit_at d0 hd0, digit_at d1 hd1, digit_at d2 hd2, HD0.out, HD1.out, HD2.out]
  rfl
theorem formatIn_8 (n : Nat) (h1 : 512 ≤ n) (h2 : n < 768) (w : World) (hd : DbLies w) : Calls Tryz.prog 77 #[.int .i64 n, .int .i64 8] w fun e w' => e = .returned (.string (Pl.oct4 n)) ∧ Below w.heap.size w w' := by
  have e1 : decide ((n : Int) < 0) = false := by simp
  go_enter Tryz.func77, Tryz.ntmps77
  go_wp2_with (go_at_call 95; refine (formatBits_8 n h1 h2 _ hd).mono ?_; rintro e u1 ⟨rfl, hb1⟩)
  go_ret
  exact ⟨rfl, hb1⟩
theorem format_8 (n : Nat) (h1 : 512 ≤ n) (h2 : n < 768) (w : World) (hd : DbLies w) : Calls Tryz.prog 65 #[.int .i64 n, .int .i64 8] w fun e w' => e = .returned (.string (Pl.oct4 n)) ∧ Below w.heap.size w w' := by
  go_enter Tryz.func65, Tryz.ntmps65
  go_wp2_with (go_at_call 77; refine (formatIn_8 n h1 h2 _ hd).mono ?_; rintro e u1 ⟨rfl, hb1⟩)
  go_ret
  exact ⟨rfl, hb1⟩
end Go.Proofs.YtdplfflkmphpbaaGreatDoor.W
namespace Go.Proofs.YtdplfflkmphpbaaGreatDoor.Pl
theorem enc_small : ∀ c : Nat, c < 128 → Utf8.encode (c : Int) = (⟨#[UInt8.ofNat c]⟩ : ByteArray) := by decide +kernel
theorem shown_m {c m : Nat} (h : c = m ∨ c = 92) (hm : m = 34 ∨ m = 39) : shown c m = [92, UInt8.ofNat c] := by
  unfold shown
  rw [if_neg (by omega), if_neg (by omega), if_neg (by omega), if_pos h]
theorem shown_p {c m : Nat} (h : ¬ (c = m ∨ c = 92)) (hp : 32 ≤ c ∧ c ≤ 126) : shown c m = [UInt8.ofNat c] := by
  unfold shown
  rw [if_neg (by omega), if_neg (by omega), if_neg (by omega), if_neg h, if_pos hp]
theorem shown_o {c m : Nat} (h : ¬ (c = m ∨ c = 92)) (hp : ¬ (32 ≤ c ∧ c ≤ 126)) (h10 : c ≠ 10) (h9 : c ≠ 9) (h13 : c ≠ 13) : shown c m = oct c := by
  unfold shown
  rw [if_neg h10, if_neg h9, if_neg h13, if_neg h, if_neg hp]
end Go.Proofs.YtdplfflkmphpbaaGreatDoor.Pl
namespace Go.Proofs.YtdplfflkmphpbaaGreatDoor.W
open Go.RowKit
set_option maxHeartbeats 2000000 in
theorem byteText_any (c m : Nat) (h : c < 256) (hm : m = 34 ∨ m = 39) (w : World) (hd : DbLies w) : Calls Tryz.prog 53 #[.int .u8 c, .int .u8 m] w fun e w' => e = .returned (.string ⟨(Pl.shown c m).toArray⟩) ∧ Below w.heap.size w w' := by
  by_cases hmk : c = m ∨ c = 92
  · rw [Pl.shown_m hmk hm]
    have hen := Pl.enc_small c (by omega)
    by_cases h1 : c = m
    · have e1 : ((c : Int) == (m : Int)) = true := by simp; omega
      clear hmk h1
      go_enter Tryz.func53, Tryz.ntmps53
      go_wp2
      go_ret
      refine ⟨qret_str ?_, Below.refl _ _⟩
      rfl
    · have e1 : ((c : Int) == (m : Int)) = false := by simp; omega
      have e2 : ((c : Int) == 92) = true := by simp; omega
      clear hmk h1
      go_enter Tryz.func53, Tryz.ntmps53
      go_wp2
      go_ret
      refine ⟨qret_str ?_, Below.refl _ _⟩
      rfl
  have em : ((c : Int) == (m : Int)) = false := by simp; omega
  have e92 : ((c : Int) == 92) = false := by simp; omega
  by_cases hp : 32 ≤ c ∧ c ≤ 126
  · rw [Pl.shown_p hmk hp]
    have hen := Pl.enc_small c (by omega)
    have e1 : decide (32 ≤ (c : Int)) = true := by simp; omega
    have e2 : decide ((c : Int) ≤ 126) = true := by simp; omega
    clear hp hmk
    go_enter Tryz.func53, Tryz.ntmps53
    go_wp2
    go_ret
    refine ⟨qret_str ?_, Below.refl _ _⟩
    rfl
  have ep : (decide (32 ≤ (c : Int)) && decide ((c : Int) ≤ 126)) = false := by simp; omega
  by_cases h10 : c = 10
  · subst h10
    have es : Pl.shown 10 m = [92, 110] := rfl
    rw [es]
    clear ep hp hmk em e92 es
    rcases hm with rfl | rfl
    all_goals
      go_enter Tryz.func53, Tryz.ntmps53
      go_wp2
      go_ret
      exact ⟨rfl, Below.refl _ _⟩
  by_cases h9 : c = 9
  · subst h9
    have es : Pl.shown 9 m = [92, 116] := rfl
    rw [es]
    clear ep hp hmk em e92 es
    rcases hm with rfl | rfl
    all_goals
      go_enter Tryz.func53, Tryz.ntmps53
      go_wp2
      go_ret
      exact ⟨rfl, Below.refl _ _⟩
  by_cases h13 : c = 13
  · subst h13
    have es : Pl.shown 13 m = [92, 114] := rfl
    rw [es]
    clear ep hp hmk em e92 es
    rcases hm with rfl | rfl
    all_goals
      go_enter Tryz.func53, Tryz.ntmps53
      go_wp2
      go_ret
      exact ⟨rfl, Below.refl _ _⟩
  rw [Pl.shown_o hmk hp h10 h9 h13]
  have e10 : ((c : Int) == 10) = false := by simp; omega
  have e9 : ((c : Int) == 9) = false := by simp; omega
  have e13 : ((c : Int) == 13) = false := by simp; omega
  have es : (Pl.oct4 (512 + c)).size = 4 := rfl
  have HC : Hid ((⟨#[92]⟩ : ByteArray) ++ (Pl.oct4 (512 + c)).extract 1 4 = ⟨(Pl.oct c).toArray⟩) := Pl.oct4_cut c h
  have en : (512 : Int) + (c : Int) = ((512 + c : Nat) : Int) := by omega
  have HF := fun w hd => format_8 (512 + c) (by omega) (by omega) w hd
  obtain ⟨N, hN⟩ : ∃ N, N = 512 + c := ⟨_, rfl⟩
  rw [← hN] at es HC en HF
  clear hN hmk h10 h9 h13 ep
  by_cases hlo : 32 ≤ c
  · have e1 : decide (32 ≤ (c : Int)) = true := by simp; omega
    have e2 : decide ((c : Int) ≤ 126) = false := by simp; omega
    clear hlo hp
    go_enter Tryz.func53, Tryz.ntmps53
    go_wp2_with (go_at_call 65; refine (HF _ hd).mono ?_; rintro e u1 ⟨rfl, hb1⟩)
    go_ret
    refine ⟨qret_str ?_, hb1⟩
    exact HC.out
  · have e1 : decide (32 ≤ (c : Int)) = false := by simp; omega
    clear hlo hp
    go_enter Tryz.func53, Tryz.ntmps53
    go_wp2_with (go_at_call 65; refine (HF _ hd).mono ?_; rintro e u1 ⟨rfl, hb1⟩)
    go_ret
    refine ⟨qret_str ?_, hb1⟩
    exact HC.out
end Go.Proofs.YtdplfflkmphpbaaGreatDoor.W
namespace Go.Proofs.YtdplfflkmphpbaaGreatDoor.Pl
def cl (l : List UInt8) : List Value := l.map fun b => Value.int .u8 (b.toNat : Int)
theorem cl_len (l : List UInt8) : (cl l).length = l.length := by simp [cl]
theorem cl_app (a b : List UInt8) : cl (a ++ b) = cl a ++ cl b := by simp [cl]
theorem cl_str (l : List UInt8) : Lib.strCells ⟨l.toArray⟩ = cl l := by simp [Lib.strCells, cl]
def qc (s : ByteArray) (m k : Nat) : List UInt8 := UInt8.ofNat m :: (s.data.toList.take k).flatMap fun b => shown b.toNat m
def qt (s : ByteArray) (m : Nat) : ByteArray := ⟨(qc s m s.size ++ [UInt8.ofNat m]).toArray⟩
theorem qc_zero (s : ByteArray) (m : Nat) : qc s m 0 = [UInt8.ofNat m] := by simp [qc]
theorem qc_succ (s : ByteArray) (m k : Nat) (h : k < s.size) : qc s m (k + 1) = qc s m k ++ shown (s[k]'h).toNat m := by
  obtain ⟨⟨l⟩⟩ := s
  have hl : k < l.length := h
  unfold qc
  show _ :: (l.take (k + 1)).flatMap _ = _ :: (l.take k).flatMap _ ++ _
  rw [List.take_add_one, List.getElem?_eq_getElem hl, List.flatMap_append]
  simp only [Option.toList_some, List.flatMap_cons, List.flatMap_nil, List.append_nil, List.cons_append]
  rfl
theorem qc_len (s : ByteArray) (m : Nat) : ∀ k, k ≤ s.size → (qc s m k).length ≤ 1 + 4 * k
  | 0, _ => by simp [qc]
  | k + 1, h => by
    rw [qc_succ s m k (by omega)]
    have := qc_len s m k (by omega)
    have := shown_len (s[k]'(by omega)).toNat m
    simp only [List.length_append]
    omega
end Go.Proofs.YtdplfflkmphpbaaGreatDoor.Pl
namespace Go.Proofs.YtdplfflkmphpbaaGreatDoor.W
open Go.RowKit
theorem qinfou8 : (Tryz.prog.info? 5).map (fun i => (i.zero, i.size, i.bytes)) = some (some (.int .u8 0), 1, 1) := by kernel_rfl
theorem l5Shown_34 (c : Nat) (h : c < 256) (w : World) : Calls Tryz.prog 36 #[.int .i64 c, .int .u8 34] w fun e w' => e = .returned (.string ⟨(Pl.shown c 34).toArray⟩) ∧ Below w.heap.size w w' := l5Shown_any c 34 h (by decide) w
theorem ow_keep {B : Nat} {e : TypeId} {k : Nat} {v : Value} {n : Nat} {xs : List Value} {w w' : World} (h : w.ownsRow B e k v n xs) (hb : Below w.heap.size w w') : w'.ownsRow B e k v n xs := by
  refine ⟨h.1, ?_⟩
  rcases h.2 with ⟨a, b⟩ | ⟨g, cap, cur, h0, hlo, hg, r⟩
  · exact .inl ⟨a, b⟩
  · exact .inr ⟨g, cap, cur, h0, hlo, (hb.block g (Array.getElem?_eq_some_iff.1 hg).1).trans hg, r⟩
theorem bw_cells (w : World) (l : List UInt8) (j : Nat) (u : Value) (hj : (Pl.cl l)[j]? = some u) : (Lib.bytesWorld w 5 ⟨l.toArray⟩).cell? ((⟨w.heap.size, 0, none⟩ : Addr).add j) = some u := by
  have hl : j < l.length := by have := (List.getElem?_eq_some_iff.1 hj).1; rwa [Pl.cl_len] at this
  have := Lib.bytesWorld_cell w 5 ⟨l.toArray⟩ j (by simpa [ByteArray.size] using hl)
  simp only [Pl.cl, List.getElem?_map, List.getElem?_eq_getElem hl, Option.map_some, Option.some.injEq] at hj
  rw [show (⟨w.heap.size, 0, none⟩ : Addr).add j = ⟨w.heap.size, j, none⟩ by simp [Addr.add]; omega, this, ← hj]
  simp [List.getD, List.getElem?_eq_getElem hl]
theorem one_cell (w : World) (j : Nat) (u : Value) (hj : (Pl.cl [34])[j]? = some u) : (w.alloc (.cells #[.int .u8 34] 5)).cell? ((⟨w.heap.size, 0, none⟩ : Addr).add j) = some u := by
  rcases j with _ | j
  · cases hj
    exact cell_of_row _ w.heap.size 0 _ 5 (0, 0) (heap_alloc_new w _)
  · simp [Pl.cl] at hj
theorem own_string {B : Nat} {w : World} {v : Value} {n : Nat} {l : List UInt8} (h : w.ownsRow B 5 1 v n (Pl.cl l)) (hn : 0 < n) : (convert 22 9 v).run Tryz.prog w = .ok (.string ⟨l.toArray⟩) w := by
  obtain ⟨g, cap, rfl⟩ := Joins.ownsRow_form h hn
  have hl : l.length = n := by have := h.1; rw [Pl.cl_len] at this; omega
  subst hl
  refine run_convert_bytes_back w 22 9 5 ⟨g, 0, none⟩ cap l Tryz.underlying22 Tryz.underlying5 Tryz.underlying9 fun j hj => ?_
  exact h.cells (g := g) rfl j _ (by simp [Pl.cl, List.getElem?_eq_getElem hj])
set_option maxHeartbeats 2000000 in
theorem specQuote_any (s : ByteArray) (hs : s.size ≤ 1048576) (w : World) : Calls Tryz.prog 37 #[.string s] w fun e w' => e = .returned (.string (Pl.qt s 34)) ∧ Below w.heap.size w w' := by
  obtain ⟨i0, hi, hz0, hz1, hz2⟩ := info_parts qinfou8
  have hcv : ∀ (u : World) (t : ByteArray), (convert 9 22 (.string t)).run Tryz.prog u = .ok (.slice (some ⟨u.heap.size, 0, none⟩) t.size (grownCap u t.size 0 5)) (Lib.bytesWorld u 5 t) := fun u t => Lib.run_convert_string_bytes u 9 22 5 t Tryz.underlying9 Tryz.underlying22 Tryz.underlying5
  have h0 : (w.alloc (.cells #[.int .u8 34] 5)).ownsRow w.heap.size 5 1 (.slice (some ⟨w.heap.size, 0, none⟩) 1 1) 1 (Pl.cl (Pl.qc s 34 0)) := by
    rw [Pl.qc_zero]; exact World.ownsRow_lit w #[.int .u8 34] 1 (Nat.le_refl _) (by decide) rfl
  have H0 : Hid ((w.alloc (.cells #[.int .u8 34] 5)).ownsRow w.heap.size 5 1 (.slice (some ⟨w.heap.size, 0, none⟩) 1 1) 1 (Pl.cl (Pl.qc s 34 0))) := h0
  clear h0
  go_enter Tryz.func37, Tryz.ntmps37
  go_wp2_with fail
  go_loopw [3, 4] (fun v i wr => ∃ k : Nat, k ≤ s.size ∧ i = .int .i64 k ∧ wr.ownsRow w.heap.size 5 1 v (Pl.qc s 34 k).length (Pl.cl (Pl.qc s 34 k)) ∧ Below w.heap.size w wr) (fun _ i _ => s.size - (intOf i).toNat)
  case atStart => exact ⟨0, Nat.zero_le _, rfl, by rw [show (Pl.qc s 34 0).length = 1 from rfl]; exact H0.out, (Below.refl _ _).alloc (Nat.le_refl _) _⟩
  case round =>
    obtain ⟨k, hk, rfl, hown, hbel⟩ := hrel
    have HO : Hid (wr.ownsRow w.heap.size 5 1 _ (Pl.qc s 34 k).length (Pl.cl (Pl.qc s 34 k))) := hown
    have HB : Hid (Below w.heap.size w wr) := hbel
    clear hown hbel H0
    by_cases hlt : k < s.size
    · have hi' : (k : Int) < (s.size : Int) := by omega
      have hc256 : (s[k]'hlt).toNat < 256 := (s[k]'hlt).toNat_lt
      go_wp2_with (first | (go_at_call 36; refine (l5Shown_34 (s[k]'hlt).toNat hc256 _).mono ?_; rintro e u1 ⟨rfl, hb1⟩) | (at_builtin; refine wpList_append_own _ rfl (.tmp 12) (.tmp 18) 22 rfl w.heap.size 5 i0 (.int .u8 0) 1 1 Tryz.underlying22 hi hz0 hz1 hz2 rfl (by decide) _ _ _ rfl (ow_keep HO.out (hb1.trans (Joins.below_bytesWorld _ _ 5 ⟨(Pl.shown (s[k]'hlt).toNat 34).toArray⟩ hb1.size))) ⟨u1.heap.size, 0, none⟩ (Pl.shown (s[k]'hlt).toNat 34).length _ (Pl.cl (Pl.shown (s[k]'hlt).toNat 34)) (by rfl) (by rw [Pl.cl_len, Nat.mul_one]) (bw_cells u1 _) (by intro u hu; obtain ⟨n, _, rfl⟩ := List.mem_map.1 hu; rfl) (by have := Pl.qc_len s 34 k hk; have := Pl.shown_len (s[k]'hlt).toNat 34; unfold maxLen; omega) (by have := Pl.qc_len s 34 k hk; have := Pl.shown_len (s[k]'hlt).toNat 34; omega) (Nat.le_trans HB.out.size (Nat.le_trans hb1.size (by rw [Lib.bytesWorld_size]; omega))) ?_; intro v' u2 hown' hgr _))
      refine ⟨⟨k + 1, by omega, by go_num, ?_, ?_⟩, by simp [intOf]; omega⟩
      · rw [Pl.qc_succ s 34 k hlt, Pl.cl_app, List.length_append]; exact hown'
      · exact (HB.out.trans ((hb1.trans (Joins.below_bytesWorld _ _ 5 _ hb1.size)).mono HB.out.size)).grown hgr (Nat.le_trans HB.out.size (Nat.le_trans hb1.size (by rw [Lib.bytesWorld_size]; omega))) (fun j hj => (HO.out.lt j hj).1)
    · have hi' : ¬ (k : Int) < (s.size : Int) := by omega
      obtain rfl : s.size = k := by omega
      have HE : Hid ((wr.alloc (.cells #[.int .u8 34] 5)).ownsRow w.heap.size 5 1 _ (Pl.qc s 34 s.size).length (Pl.cl (Pl.qc s 34 s.size))) := HO.out.alloc _
      go_wp2_with (first | (at_builtin; refine wpList_append_own _ rfl (.tmp 20) (.tmp 21) 22 rfl w.heap.size 5 i0 (.int .u8 0) 1 1 Tryz.underlying22 hi hz0 hz1 hz2 rfl (by decide) _ _ _ rfl HE.out ⟨wr.heap.size, 0, none⟩ 1 _ (Pl.cl [34]) rfl rfl (one_cell wr) (by intro u hu; obtain ⟨n, _, rfl⟩ := List.mem_map.1 hu; rfl) (by have := Pl.qc_len s 34 s.size (Nat.le_refl _); unfold maxLen; omega) (by have := Pl.qc_len s 34 s.size (Nat.le_refl _); omega) (Nat.le_trans HB.out.size (by simp)) ?_; intro v' u2 hown' hgr _; rw [← Pl.cl_app] at hown'; have hst := own_string hown' (Nat.succ_pos _)))
      go_ret
      refine ⟨rfl, ?_⟩
      exact (HB.out.trans (((Below.refl _ _).alloc (Nat.le_refl _) _).mono HB.out.size)).grown hgr (Nat.le_trans HB.out.size (by simp)) (fun j hj => (HO.out.lt j hj).1)
end Go.Proofs.YtdplfflkmphpbaaGreatDoor.W
namespace Go.Proofs.YtdplfflkmphpbaaGreatDoor.Pl
theorem plainE_hi (c : Int) : plainE c ≤ 255 := by
  unfold plainE
  (repeat' split) <;> decide
theorem escF_n {s : ByteArray} {i : Nat} {v : Int} {n : Nat} (h : escF s i = .ok (v, n)) : (1 ≤ n ∧ n ≤ 3) ∧ 0 ≤ v ∧ v ≤ 255 ∧ i + n ≤ s.size := by
  have h1 : ∀ j, hc s j ≤ 15 := fun j => by unfold hc; split; exact hx_hi _; decide
  have h2 : ∀ j, oc s j ≤ 7 := fun j => by unfold oc; split <;> omega
  have h3 : ∀ j, 0 ≤ hc s j → j < s.size := fun j hj => by unfold hc at hj; split at hj; assumption; omega
  have h4 : ∀ j, 0 ≤ oc s j → j < s.size := fun j hj => by
    unfold oc at hj; split at hj
    · rename_i q; exact q.1
    · omega
  have a1 := h1 (i + 1)
  have a2 := h1 (i + 2)
  have b1 := h2 i
  have b2 := h2 (i + 1)
  have b3 := h2 (i + 2)
  have p1 := plainE_hi (byt s i)
  have c1 := h3 (i + 1)
  have c2 := h3 (i + 2)
  have c3 := h4 i
  have c4 := h4 (i + 1)
  have c5 := h4 (i + 2)
  unfold escF at h
  split at h
  · cases h
  rename_i q0
  have q1 : i < s.size := by
    rcases Nat.lt_or_ge i s.size with e | e
    · exact e
    · exact absurd (.inl e) q0
  repeat' (split at h)
  all_goals (cases h <;> refine ⟨⟨by omega, by omega⟩, by omega, by omega, by omega⟩)
theorem escF_f {s : ByteArray} {i : Nat} {f : Int} (h : escF s i = .error f) : f ≠ 0 := by
  unfold escF at h
  repeat' (split at h)
  all_goals (cases h <;> decide)
theorem cl_one (b : UInt8) (c : Int) (h : b = UInt8.ofNat c.toNat) (h0 : 0 ≤ c) (h1 : c < 256) : cl [b] = [.int .u8 c] := by
  unfold cl
  rw [h]
  simp
  omega
end Go.Proofs.YtdplfflkmphpbaaGreatDoor.Pl
namespace Go.Proofs.YtdplfflkmphpbaaGreatDoor.W
open Go.RowKit
theorem one_cell_c (b : UInt8) (c : Int) (hb : b = UInt8.ofNat c.toNat) (h0 : 0 ≤ c) (h1 : c < 256) (w : World) (j : Nat) (u : Value) (hj : (Pl.cl [b])[j]? = some u) : (w.alloc (.cells #[.int .u8 c] 5)).cell? ((⟨w.heap.size, 0, none⟩ : Addr).add j) = some u := by
  rw [Pl.cl_one b c hb h0 h1] at hj
  rcases j with _ | j
  · cases hj
    exact cell_of_row _ w.heap.size 0 _ 5 (0, 0) (heap_alloc_new w _)
  · simp at hj
def QuoSaid (base : Nat) (r : Except Int (List UInt8 × Nat)) (e : Ending) (w : World) : Prop := match r with
  | .ok (bs, n) => ∃ v, e = .returned (.tuple #[v, .int .i64 n, .int .i64 0]) ∧ w.ownsRow base 5 1 v bs.length (Pl.cl bs)
  | .error f => e = .returned (.tuple #[.slice none 0 0, .int .i64 0, .int .i64 f])
set_option maxHeartbeats 4000000 in
set_option maxRecDepth 100000 in
theorem readQuoted_is (t : ByteArray) (ht : t.size ≤ 1048576) (hpos : 0 < t.size) (hm : Pl.byt t 0 = 34 ∨ Pl.byt t 0 = 39) (w : World) (hE : Glo w) : Calls Tryz.prog 81 #[.string t] w fun e w' => (∃ r, Pl.Quo t (Pl.byt t 0) 1 [] r ∧ QuoSaid w.heap.size r e w') ∧ Below w.heap.size w w' := by
  obtain ⟨i0, hi, hz0, hz1, hz2⟩ := info_parts qinfou8
  have HE : Hid (Glo w) := hE
  have hg0 := Pl.byt_get t 0 hpos
  obtain ⟨m, hmm⟩ : ∃ m, m = Pl.byt t 0 := ⟨_, rfl⟩
  rw [← hmm] at hg0 hm ⊢
  have HM : Hid (m = 34 ∨ m = 39) := hm
  clear hmm hE hm
  have H0 : Hid ((w.alloc (.cells #[] 5)).ownsRow w.heap.size 5 1 (.slice (some ⟨w.heap.size, 0, none⟩) 0 0) 0 (Pl.cl [])) := World.ownsRow_lit w #[] 0 (Nat.le_refl _) (Nat.zero_le _) rfl
  go_enter Tryz.func81, Tryz.ntmps81
  go_wp2_with fail
  go_loopw [6, 7] (fun v i wr => ∃ (k : Nat) (acc : List UInt8), i = .int .i64 k ∧ 1 ≤ k ∧ k ≤ t.size ∧ acc.length ≤ k ∧ wr.ownsRow w.heap.size 5 1 v acc.length (Pl.cl acc) ∧ Below w.heap.size w wr ∧ ∀ r, Pl.Quo t m k acc r → Pl.Quo t m 1 [] r) (fun _ i _ => t.size - (intOf i).toNat)
  case atStart => exact ⟨1, [], rfl, Nat.le_refl _, hpos, Nat.zero_le _, H0.out, below_allocL _ _, fun r h => h⟩
  case round =>
    obtain ⟨k, acc, rfl, hk1, hk, hacc, hown, hbel, hq⟩ := hrel
    have HO : Hid (wr.ownsRow w.heap.size 5 1 _ acc.length (Pl.cl acc)) := hown
    have HB : Hid (Below w.heap.size w wr) := hbel
    have HQ : Hid (∀ r, Pl.Quo t m k acc r → Pl.Quo t m 1 [] r) := hq
    clear hown hbel hq H0
    by_cases hlt : k < t.size
    · have hi' : (k : Int) < (t.size : Int) := by omega
      have hgk := Pl.byt_get t k hlt
      have c0 := Pl.byt_lo t k
      have c1 := Pl.byt_hi t k
      obtain ⟨c, hcc⟩ : ∃ c, c = Pl.byt t k := ⟨_, rfl⟩
      rw [← hcc] at hgk c0 c1
      have HC : Hid (c = Pl.byt t k) := hcc
      clear hcc
      by_cases h10 : c = 10
      · have HF : Hid (Pl.Quo t m 1 [] (.error 4)) := HQ.out _ (.out (.inr (by rw [← HC.out]; exact h10)))
        have e10 : (c == 10) = true := by simp [h10]
        have e10' : (c != 10) = false := by simp [h10]
        clear h10
        go_wp2_with fail
        go_ret3
        exact ⟨⟨_, HF.out, rfl⟩, HB.out⟩
      have e10 : (c == 10) = false := by simp [h10]
      have e10' : (c != 10) = true := by simp [h10]
      by_cases hcm : c = m
      · have HF : Hid (Pl.Quo t m 1 [] (.ok (acc, k + 1))) := HQ.out _ (.fin hlt (by rw [← HC.out]; exact hcm) (by rw [← HC.out]; exact h10))
        have ecm : (c == m) = true := by simp [hcm]
        clear h10 hcm
        go_wp2_with fail
        go_ret3
        exact ⟨⟨_, HF.out, _, rfl, HO.out⟩, HB.out⟩
      have ecm : (c == m) = false := by simp [hcm]
      by_cases h92 : c = 92
      · have e92 : (c == 92) = true := by simp [h92]
        have h92' : Pl.byt t k = 92 := by rw [← HC.out]; exact h92
        have hcm' : Pl.byt t k ≠ m := by rw [← HC.out]; exact hcm
        have H92 : Hid (Pl.byt t k = 92 ∧ Pl.byt t k ≠ m) := ⟨h92', hcm'⟩
        clear h10 hcm h92 h92' hcm'
        have hk2 : (k : Int) + 1 ≤ (t.size : Int) := by omega
        go_wp2_with fail
        refine (readEscape_is (t.extract (k + 1) t.size) (by rw [Pl.ext_sz]; omega) _ (HE.out.on HB.out)).mono ?_
        rintro e u1 ⟨hes, g1⟩
        have G1 : Hid (Below wr.heap.size wr u1) := g1
        clear g1
        rcases hes with ⟨v, n, hes, rfl⟩ | ⟨f, hes, rfl⟩
        · rw [Pl.escF_ext t (k + 1) 0 (by omega)] at hes
          obtain ⟨⟨n1, n2⟩, v0, v1, n3⟩ := Pl.escF_n hes
          have HES : Hid (Pl.escF t (k + 1) = .ok (v, n)) := hes
          have hn3 : (n : Int) ≤ 3 := by omega
          have hkn : (k : Int) + 1 + n ≤ t.size := by omega
          clear hes
          have HB2 : Hid (Below w.heap.size w u1) := HB.out.trans (G1.out.mono HB.out.size)
          have HX : Hid ((u1.alloc (.cells #[.int .u8 v] 5)).ownsRow w.heap.size 5 1 _ acc.length (Pl.cl acc)) := (ow_keep HO.out G1.out).alloc _
          go_wp2_with (at_builtin; refine wpList_append_own _ rfl (.tmp 55) (.tmp 57) 22 rfl w.heap.size 5 i0 (.int .u8 0) 1 1 Tryz.underlying22 hi hz0 hz1 hz2 rfl (by decide) _ _ _ rfl HX.out ⟨u1.heap.size, 0, none⟩ 1 _ (Pl.cl [UInt8.ofNat v.toNat]) rfl rfl (one_cell_c _ v rfl v0 (by omega) u1) (by intro u hu; obtain ⟨n, _, rfl⟩ := List.mem_map.1 hu; rfl) (by unfold maxLen; omega) (by omega) (Nat.le_trans HB2.out.size (by simp)) ?_; intro v' u2 hown' hgr _; rw [← Pl.cl_app] at hown')
          refine ⟨⟨k + 1 + n, acc ++ [UInt8.ofNat v.toNat], by go_num, by omega, by omega, by rw [List.length_append]; simp; omega, by rw [List.length_append]; exact hown', ?_, fun r hr => HQ.out r (.esc hlt H92.out.1 H92.out.2 HES.out hr)⟩, by simp [intOf]; omega⟩
          exact (HB2.out.alloc HB2.out.size _).grown hgr (Nat.le_trans HB2.out.size (by simp)) (fun j hj => (HX.out.lt j hj).1)
        · rw [Pl.escF_ext t (k + 1) 0 (by omega)] at hes
          have HF : Hid (Pl.Quo t m 1 [] (.error f)) := HQ.out _ (.bad hlt H92.out.1 H92.out.2 hes)
          have hf0 : f ≠ 0 := Pl.escF_f hes
          clear hes
          have ef : (f == 0) = false := by simp [hf0]
          have ef' : (f != 0) = true := by simp [hf0]
          clear hf0
          go_wp2_with fail
          go_ret3
          exact ⟨⟨_, HF.out, rfl⟩, HB.out.trans (G1.out.mono HB.out.size)⟩
      · have e92 : (c == 92) = false := by simp [h92]
        have HN : Hid (∀ r, Pl.Quo t m (k + 1) (acc ++ [UInt8.ofNat c.toNat]) r → Pl.Quo t m 1 [] r) := fun r hr => HQ.out r (.one hlt (by rw [← HC.out]; exact h10) (by rw [← HC.out]; exact hcm) (by rw [← HC.out]; exact h92) (by rw [← HC.out]; exact hr))
        have HB2 : Hid (Below w.heap.size w wr) := HB.out
        have HX : Hid ((wr.alloc (.cells #[.int .u8 c] 5)).ownsRow w.heap.size 5 1 _ acc.length (Pl.cl acc)) := HO.out.alloc _
        clear h10 hcm h92
        go_wp2_with (at_builtin; refine wpList_append_own _ rfl (.tmp 27) (.tmp 31) 22 rfl w.heap.size 5 i0 (.int .u8 0) 1 1 Tryz.underlying22 hi hz0 hz1 hz2 rfl (by decide) _ _ _ rfl HX.out ⟨wr.heap.size, 0, none⟩ 1 _ (Pl.cl [UInt8.ofNat c.toNat]) rfl rfl (one_cell_c _ c rfl c0 c1 wr) (by intro u hu; obtain ⟨n, _, rfl⟩ := List.mem_map.1 hu; rfl) (by unfold maxLen; omega) (by omega) (Nat.le_trans HB2.out.size (by simp)) ?_; intro v' u2 hown' hgr _; rw [← Pl.cl_app] at hown')
        refine ⟨⟨k + 1, acc ++ [UInt8.ofNat c.toNat], by go_num, by omega, by omega, by rw [List.length_append]; simp; omega, by rw [List.length_append]; exact hown', ?_, HN.out⟩, by simp [intOf]; omega⟩
        exact (HB2.out.alloc HB2.out.size _).grown hgr (Nat.le_trans HB2.out.size (by simp)) (fun j hj => (HX.out.lt j hj).1)
    · have hi' : ¬ (k : Int) < (t.size : Int) := by omega
      have HF : Hid (Pl.Quo t m 1 [] (.error 4)) := HQ.out _ (.out (.inl (by omega)))
      go_wp2_with fail
      go_ret3
      exact ⟨⟨_, HF.out, rfl⟩, HB.out⟩
end Go.Proofs.YtdplfflkmphpbaaGreatDoor.W
