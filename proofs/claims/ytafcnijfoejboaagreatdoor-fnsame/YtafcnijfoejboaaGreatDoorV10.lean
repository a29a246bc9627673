import Derived.Test.YtafcnijfoejboaaGreatDoorV08
import Derived.Lib.Strings
import Derived.Lib.Walk
import Derived.Laws.Strings3
import Derived.BigCall
import Derived.BigGuard
import Derived.Lib.AtoiErrMem
import Derived.Shelf.Strings.Trim
import Derived.Shelf.Small.Utf8
import Derived.Shelf.Small.Strs
import Derived.Shelf.LaysM
import Derived.Shelf.Strconv.Clone
import Derived.Shelf.Strconv.SyntaxError
import Derived.Shelf.LaysC
import Derived.Shelf.Strconv.ToError
import Derived.Shelf.Strconv.RangeError
import Derived.Shelf.Strconv.ToErrorRange
import Derived.Shelf.Strings.Search1
import Derived.Shelf.Strings.Prefix
import Derived.Shelf.Strings.Runes
import Derived.Shelf.Strings.AsciiSet
import Derived.Shelf.Unicode.DecodeSlow
import Derived.Test.YtafcnijfoejboaaGreatDoorProg
import Derived.Shelf.Strings.SlTrimAscii
set_option linter.unusedVariables false
set_option linter.unusedSimpArgs false
namespace Go.Proofs.YtafcnijfoejboaaGreatDoor.W
open Go.RowKit
theorem lower_all : ∃ low : Int → Int, ∀ c, (0 ≤ low c ∧ low c < 256) ∧ ∀ w, Calls Tryz.prog 104 #[.int .u8 c] w fun e w' => e = .returned (.int .u8 (low c)) ∧ w' = w := by
  refine ⟨fun c => bits .or .u8 c 32, fun c => ⟨⟨bits_lo_u8 _ _ _, Int.lt_of_le_of_lt (bits_hi_u8 .or c 32) (by decide)⟩, fun w => ?_⟩⟩
  go_enter Tryz.func104, Tryz.ntmps104
  go_wp2
  go_ret
  exact ⟨rfl, rfl⟩
theorem bytesWorld_below (w : World) (e : TypeId) (s : ByteArray) : Below w.heap.size w (Lib.bytesWorld w e s) :=
  Lib.bytesWorld_below w e s
def PErr (v : Value) : Prop := v = .nilIface ∨ v = .iface 146 (.int .i64 1) ∨ v = .iface 146 (.int .i64 2)
set_option maxHeartbeats 32000000 in
set_option maxRecDepth 100000 in
theorem iParse_any (b : Int) (hb : b = 8 ∨ b = 10 ∨ b = 16) (t : ByteArray) (hmax : t.size ≤ 9223372036854775806) (w : World) :
    Calls Tryz.prog 98 #[.string t, .int .i64 b, .int .i64 32] w fun e w' => (∃ (n : Int) (v : Value), e = .returned (.tuple #[.int .u64 n, v]) ∧ PErr v) ∧ Below w.heap.size w w' := by
  by_cases hne : t.size = 0
  · have ht : t = ⟨#[]⟩ := by
      cases t with | mk d => congr; exact Array.eq_empty_of_size_eq_zero hne
    subst ht
    rcases hb with rfl | rfl | rfl
    all_goals
      go_enter Tryz.func98, Tryz.ntmps98
      go_wp2
      go_ret2
      exact ⟨⟨_, _, rfl, .inr (.inr rfl)⟩, Below.refl _ _⟩
  have hemp : t.toList.isEmpty = false := by
    rw [← decide_eq_emptyBytes]
    exact decide_eq_false (fun h => hne (by rw [h]; rfl))
  have hcv := Lib.run_convert_string_bytes (P := Tryz.prog) w 9 22 5 t (u := .string) Tryz.underlying9 Tryz.underlying22 Tryz.underlying5
  have hB : ∀ j, j < t.size → (Lib.bytesWorld w 5 t).cell? ⟨w.heap.size, j, none⟩ = some (.int .u8 (t.data.toList.getD j 0).toNat) := fun j hj => Lib.bytesWorld_cell w 5 t j hj
  have HBW : Hid (Below w.heap.size w (Lib.bytesWorld w 5 t)) := bytesWorld_below _ _ _
  obtain ⟨W1, hW1⟩ : ∃ W1, W1 = Lib.bytesWorld w 5 t := ⟨_, rfl⟩
  rw [← hW1] at hcv hB HBW
  clear hW1
  obtain ⟨bs, hL⟩ : ∃ bs, bs = t.data.toList := ⟨_, rfl⟩
  rw [← hL] at hB
  clear hL
  have hmv : IntKind.u64.wrap (IntKind.u64.wrap 4294967296 - 1) = 4294967295 := by
    rw [IntKind.wrap_u64, IntKind.wrap_u64]
    decide
  obtain ⟨low, hlow⟩ := lower_all
  have HL : Hid (∀ c, (0 ≤ low c ∧ low c < 256) ∧ ∀ w, Calls Tryz.prog 104 #[.int .u8 c] w fun e w' => e = .returned (.int .u8 (low c)) ∧ w' = w) := hlow
  clear hlow
  rcases hb with rfl | rfl | rfl
  all_goals
    go_enter Tryz.func98, Tryz.ntmps98
    go_wp2
    go_loop [12, 13, 101] (fun vu vn vi => ∃ (k : Nat) (a : Int), vu = .bool false ∧ vn = .int .u64 a ∧ vi = .int .i64 k ∧ k ≤ t.size ∧ 0 ≤ a ∧ a ≤ 4294967295)
      (fun _ _ vi => t.size - (intOf vi).toNat)
    case atStart => exact ⟨0, 0, rfl, rfl, rfl, by omega, by omega, by omega⟩
    case round =>
      obtain ⟨k, a, rfl, rfl, rfl, hk, a0, a1⟩ := hrel
      by_cases hkn : k < t.size
      · have hc := hB k hkn
        have hc0 : (0 : Int) ≤ ((bs.getD k 0).toNat : Int) := by omega
        have hc1 : ((bs.getD k 0).toNat : Int) < 256 := by have := (bs.getD k 0).toNat_lt; omega
        generalize ((bs.getD k 0).toNat : Int) = c at hc hc0 hc1
        clear hB
        have hl0 := (HL.out c).1.1
        have hl1 := (HL.out c).1.2
        by_cases hd : 48 ≤ c ∧ c ≤ 57
        · obtain ⟨hd0, hd1⟩ := hd
          go_wp2
          all_goals first
            | (refine ⟨⟨k + 1, _, rfl, rfl, (by first | rfl | (congr 1; omega)), by omega, by omega, by omega⟩, by simp [intOf]; omega⟩)
            | (go_ret2; exact ⟨⟨_, _, rfl, by first | exact .inr (.inl rfl) | exact .inr (.inr rfl)⟩, HBW.out⟩)
        · by_cases h95 : c = 95
          · subst h95
            by_cases hl : 97 ≤ low 95 ∧ low 95 ≤ 122
            · obtain ⟨hl2, hl3⟩ := hl
              go_wp2_with (go_at_call 104; refine ((HL.out _).2 _).mono ?_; rintro e u1 ⟨rfl, rfl⟩)
              all_goals first
                | (refine ⟨⟨k + 1, _, rfl, rfl, (by first | rfl | (congr 1; omega)), by omega, by omega, by omega⟩, by simp [intOf]; omega⟩)
                | (go_ret2; exact ⟨⟨_, _, rfl, by first | exact .inr (.inl rfl) | exact .inr (.inr rfl)⟩, HBW.out⟩)
            · go_wp2_with (go_at_call 104; refine ((HL.out _).2 _).mono ?_; rintro e u1 ⟨rfl, rfl⟩)
              all_goals (go_ret2; exact ⟨⟨_, _, rfl, by first | exact .inr (.inl rfl) | exact .inr (.inr rfl)⟩, HBW.out⟩)
          · by_cases hl : 97 ≤ low c ∧ low c ≤ 122
            · obtain ⟨hl2, hl3⟩ := hl
              go_wp2_with (go_at_call 104; refine ((HL.out _).2 _).mono ?_; rintro e u1 ⟨rfl, rfl⟩)
              all_goals first
                | (refine ⟨⟨k + 1, _, rfl, rfl, (by first | rfl | (congr 1; omega)), by omega, by omega, by omega⟩, by simp [intOf]; omega⟩)
                | (go_ret2; exact ⟨⟨_, _, rfl, by first | exact .inr (.inl rfl) | exact .inr (.inr rfl)⟩, HBW.out⟩)
            · go_wp2_with (go_at_call 104; refine ((HL.out _).2 _).mono ?_; rintro e u1 ⟨rfl, rfl⟩)
              all_goals (go_ret2; exact ⟨⟨_, _, rfl, by first | exact .inr (.inl rfl) | exact .inr (.inr rfl)⟩, HBW.out⟩)
      · have hkk : k = t.size := by omega
        subst hkk
        go_wp2
        go_ret2
        exact ⟨⟨_, _, rfl, .inl rfl⟩, HBW.out⟩
end Go.Proofs.YtafcnijfoejboaaGreatDoor.W
namespace Go.Proofs
open Go.Shelf
def Tryz.lays162_ren : Go.Shelf.Ren := ⟨fun | 162 => 88 | 232 => 92 | 227 => 93 | 234 => 94 | 236 => 95 | 228 => 100 | 271 => 101 | 151 => 102 | 120 => 110 | 197 => 111 | 152 => 112 | 260 => 116 | 137 => 117 | 119 => 118 | 224 => 119 | 225 => 120 | 217 => 122 | 266 => 124 | n => n, fun | 9 => 9 | 4 => 4 | 3 => 3 | 5 => 5 | 117 => 136 | 116 => 135 | 0 => 0 | 124 => 139 | 21 => 21 | 105 => 142 | 46 => 148 | 119 => 162 | 139 => 165 | 138 => 164 | n => n, fun | 3 => 2 | 4 => 3 | n => n⟩
theorem Tryz.lays162 : Go.Proofs.Lays.n162 Tryz.prog Tryz.lays162_ren := {
  mixed := by kernel_rfl
  f119 := Tryz.func118.trans (congrArg some (by kernel_rfl))
  f120 := Tryz.func110.trans (congrArg some (by kernel_rfl))
  f137 := Tryz.func117.trans (congrArg some (by kernel_rfl))
  f151 := Tryz.func102.trans (congrArg some (by kernel_rfl))
  f152 := Tryz.func112.trans (congrArg some (by kernel_rfl))
  f162 := Tryz.func88.trans (congrArg some (by kernel_rfl))
  f197 := Tryz.func111.trans (congrArg some (by kernel_rfl))
  f217 := Tryz.func122.trans (congrArg some (by kernel_rfl))
  f224 := Tryz.func119.trans (congrArg some (by kernel_rfl))
  f225 := Tryz.func120.trans (congrArg some (by kernel_rfl))
  f227 := Tryz.func93.trans (congrArg some (by kernel_rfl))
  f228 := Tryz.func100.trans (congrArg some (by kernel_rfl))
  f232 := Tryz.func92.trans (congrArg some (by kernel_rfl))
  f234 := Tryz.func94.trans (congrArg some (by kernel_rfl))
  f236 := Tryz.func95.trans (congrArg some (by kernel_rfl))
  f260 := Tryz.func116.trans (congrArg some (by kernel_rfl))
  f266 := Tryz.func124.trans (congrArg some (by kernel_rfl))
  f271 := Tryz.func101.trans (congrArg some (by kernel_rfl))
  t0 := Tryz.underlying0
  a0 := Tryz.isAgg0
  z0 := Tryz.sizeOf0
  v0 := Tryz.zeroValue0
  t3 := Tryz.underlying3
  a3 := Tryz.isAgg3
  z3 := Tryz.sizeOf3
  v3 := Tryz.zeroValue3
  t4 := Tryz.underlying4
  a4 := Tryz.isAgg4
  z4 := Tryz.sizeOf4
  v4 := Tryz.zeroValue4
  t5 := Tryz.underlying5
  a5 := Tryz.isAgg5
  z5 := Tryz.sizeOf5
  v5 := Tryz.zeroValue5
  t9 := Tryz.underlying9
  a9 := Tryz.isAgg9
  z9 := Tryz.sizeOf9
  v9 := Tryz.zeroValue9
  t21 := Tryz.underlying21
  a21 := Tryz.isAgg21
  z21 := Tryz.sizeOf21
  v21 := Tryz.zeroValue21
  t46 := Tryz.underlying148
  a46 := Tryz.isAgg148
  z46 := Tryz.sizeOf148
  v46 := Tryz.zeroValue148
  t105 := Tryz.underlying142
  a105 := Tryz.isAgg142
  z105 := Tryz.sizeOf142
  v105 := Tryz.zeroValue142
  t116 := Tryz.underlying135
  a116 := Tryz.isAgg135
  z116 := Tryz.sizeOf135
  t117 := Tryz.underlying136
  a117 := Tryz.isAgg136
  z117 := Tryz.sizeOf136
  v117 := Tryz.zeroValue136
  t119 := Tryz.underlying162
  a119 := Tryz.isAgg162
  z119 := Tryz.sizeOf162
  t124 := Tryz.underlying139
  a124 := Tryz.isAgg139
  z124 := Tryz.sizeOf139
  v124 := Tryz.zeroValue139
  t138 := Tryz.underlying164
  a138 := Tryz.isAgg164
  z138 := Tryz.sizeOf164
  v138 := Tryz.zeroValue164
  t139 := Tryz.underlying165
  a139 := Tryz.isAgg165
  z139 := Tryz.sizeOf165
  v139 := Tryz.zeroValue165
  g3 := by kernel_rfl
  g4 := by kernel_rfl }
def Tryz.laysC245_ren : Go.Shelf.Ren := ⟨fun | 245 => 99 | 279 => 106 | 280 => 107 | 281 => 108 | 282 => 109 | 316 => 113 | 171 => 115 | 205 => 114 | 243 => 121 | 246 => 123 | 283 => 125 | 284 => 126 | 285 => 127 | 286 => 128 | 129 => 130 | 317 => 129 | 318 => 131 | 319 => 132 | 320 => 133 | 337 => 134 | 338 => 135 | n => n, fun | 9 => 9 | 3 => 3 | 75 => 130 | 167 => 146 | 4 => 4 | 168 => 149 | 210 => 154 | 37 => 22 | 0 => 0 | 127 => 158 | 145 => 161 | 143 => 159 | 2 => 2 | 171 => 167 | 53 => 128 | 5 => 5 | 173 => 170 | 212 => 173 | 51 => 174 | 20 => 20 | 213 => 175 | 46 => 148 | 232 => 178 | 233 => 179 | 80 => 180 | n => n, fun | 15 => 0 | 16 => 1 | 17 => 5 | 18 => 6 | 19 => 7 | n => n⟩
theorem Tryz.laysC245 : Go.Proofs.LaysC.n245 Tryz.prog Tryz.laysC245_ren := {
  mixed := by kernel_rfl
  f129 := Tryz.func130.trans (congrArg some (by kernel_rfl))
  f171 := Tryz.func115.trans (congrArg some (by kernel_rfl))
  f205 := Tryz.func114.trans (congrArg some (by kernel_rfl))
  f243 := Tryz.func121.trans (congrArg some (by kernel_rfl))
  f245 := Tryz.func99.trans (congrArg some (by kernel_rfl))
  f246 := Tryz.func123.trans (congrArg some (by kernel_rfl))
  f279 := Tryz.func106.trans (congrArg some (by kernel_rfl))
  f280 := Tryz.func107.trans (congrArg some (by kernel_rfl))
  f281 := Tryz.func108.trans (congrArg some (by kernel_rfl))
  f282 := Tryz.func109.trans (congrArg some (by kernel_rfl))
  f283 := Tryz.func125.trans (congrArg some (by kernel_rfl))
  f284 := Tryz.func126.trans (congrArg some (by kernel_rfl))
  f285 := Tryz.func127.trans (congrArg some (by kernel_rfl))
  f286 := Tryz.func128.trans (congrArg some (by kernel_rfl))
  f316 := Tryz.func113.trans (congrArg some (by kernel_rfl))
  f317 := Tryz.func129.trans (congrArg some (by kernel_rfl))
  f318 := Tryz.func131.trans (congrArg some (by kernel_rfl))
  f319 := Tryz.func132.trans (congrArg some (by kernel_rfl))
  f320 := Tryz.func133.trans (congrArg some (by kernel_rfl))
  f337 := Tryz.func134.trans (congrArg some (by kernel_rfl))
  f338 := Tryz.func135.trans (congrArg some (by kernel_rfl))
  t0 := Tryz.underlying0
  a0 := Tryz.isAgg0
  z0 := Tryz.sizeOf0
  v0 := Tryz.zeroValue0
  t2 := Tryz.underlying2
  a2 := Tryz.isAgg2
  z2 := Tryz.sizeOf2
  v2 := Tryz.zeroValue2
  t3 := Tryz.underlying3
  a3 := Tryz.isAgg3
  z3 := Tryz.sizeOf3
  v3 := Tryz.zeroValue3
  t4 := Tryz.underlying4
  a4 := Tryz.isAgg4
  z4 := Tryz.sizeOf4
  v4 := Tryz.zeroValue4
  t5 := Tryz.underlying5
  a5 := Tryz.isAgg5
  z5 := Tryz.sizeOf5
  v5 := Tryz.zeroValue5
  t9 := Tryz.underlying9
  a9 := Tryz.isAgg9
  z9 := Tryz.sizeOf9
  v9 := Tryz.zeroValue9
  t20 := Tryz.underlying20
  a20 := Tryz.isAgg20
  z20 := Tryz.sizeOf20
  v20 := Tryz.zeroValue20
  t37 := Tryz.underlying22
  a37 := Tryz.isAgg22
  z37 := Tryz.sizeOf22
  v37 := Tryz.zeroValue22
  t46 := Tryz.underlying148
  a46 := Tryz.isAgg148
  z46 := Tryz.sizeOf148
  v46 := Tryz.zeroValue148
  t51 := Tryz.underlying174
  a51 := Tryz.isAgg174
  z51 := Tryz.sizeOf174
  v51 := Tryz.zeroValue174
  t53 := Tryz.underlying128
  a53 := Tryz.isAgg128
  z53 := Tryz.sizeOf128
  v53 := Tryz.zeroValue128
  t75 := Tryz.underlying130
  a75 := Tryz.isAgg130
  z75 := Tryz.sizeOf130
  v75 := Tryz.zeroValue130
  t127 := Tryz.underlying158
  a127 := Tryz.isAgg158
  z127 := Tryz.sizeOf158
  v127 := Tryz.zeroValue158
  t143 := Tryz.underlying159
  a143 := Tryz.isAgg159
  z143 := Tryz.sizeOf159
  v143 := Tryz.zeroValue159
  t145 := Tryz.underlying161
  a145 := Tryz.isAgg161
  z145 := Tryz.sizeOf161
  v145 := Tryz.zeroValue161
  t167 := Tryz.underlying146
  a167 := Tryz.isAgg146
  z167 := Tryz.sizeOf146
  v167 := Tryz.zeroValue146
  t168 := Tryz.underlying149
  a168 := Tryz.isAgg149
  z168 := Tryz.sizeOf149
  v168 := Tryz.zeroValue149
  t171 := Tryz.underlying167
  a171 := Tryz.isAgg167
  z171 := Tryz.sizeOf167
  v171 := Tryz.zeroValue167
  t173 := Tryz.underlying170
  a173 := Tryz.isAgg170
  z173 := Tryz.sizeOf170
  v173 := Tryz.zeroValue170
  t210 := Tryz.underlying154
  a210 := Tryz.isAgg154
  z210 := Tryz.sizeOf154
  v210 := Tryz.zeroValue154
  t212 := Tryz.underlying173
  a212 := Tryz.isAgg173
  z212 := Tryz.sizeOf173
  v212 := Tryz.zeroValue173
  t213 := Tryz.underlying175
  a213 := Tryz.isAgg175
  z213 := Tryz.sizeOf175
  t232 := Tryz.underlying178
  a232 := Tryz.isAgg178
  z232 := Tryz.sizeOf178
  v232 := Tryz.zeroValue178
  t233 := Tryz.underlying179
  a233 := Tryz.isAgg179
  z233 := Tryz.sizeOf179
  v233 := Tryz.zeroValue179
  g15 := by kernel_rfl
  g16 := by kernel_rfl
  g17 := by kernel_rfl
  g18 := by kernel_rfl
  g19 := by kernel_rfl
  t80 := Tryz.underlying180
  a80 := Tryz.isAgg180
  z80 := Tryz.sizeOf180
  v80 := Tryz.zeroValue180
  i0 := by kernel_rfl
  i2 := by kernel_rfl
  i3 := by kernel_rfl
  i4 := by kernel_rfl
  i5 := by kernel_rfl
  i9 := by kernel_rfl
  i20 := by kernel_rfl
  i37 := by kernel_rfl
  i46 := by kernel_rfl
  i51 := by kernel_rfl
  i53 := by kernel_rfl
  i75 := by kernel_rfl
  i80 := by kernel_rfl
  i127 := by kernel_rfl
  i143 := by kernel_rfl
  i145 := by kernel_rfl
  i167 := by kernel_rfl
  i168 := by kernel_rfl
  i171 := by kernel_rfl
  i173 := by kernel_rfl
  i210 := by kernel_rfl
  i212 := by kernel_rfl
  i232 := by kernel_rfl
  i233 := by kernel_rfl
  m15 := by kernel_rfl
  m16 := by kernel_rfl
  m17 := by kernel_rfl
  m18 := by kernel_rfl
  m19 := by kernel_rfl
  c0 := by kernel_rfl
  c2 := by kernel_rfl
  c3 := by kernel_rfl
  c4 := by kernel_rfl
  c5 := by kernel_rfl
  c9 := by kernel_rfl
  c20 := by kernel_rfl
  c37 := by kernel_rfl
  c46 := by kernel_rfl
  c51 := by kernel_rfl
  c53 := by kernel_rfl
  c75 := by kernel_rfl
  c80 := by kernel_rfl
  c127 := by kernel_rfl
  c143 := by kernel_rfl
  c145 := by kernel_rfl
  c167 := by kernel_rfl
  c168 := by kernel_rfl
  c171 := by kernel_rfl
  c173 := by kernel_rfl
  c210 := by kernel_rfl
  c212 := by kernel_rfl
  c213 := by kernel_rfl
  c232 := by kernel_rfl
  c233 := by kernel_rfl }
open Go.RowKit in
theorem Tryz.strconv_toError_syntax (fn s : ByteArray) (base bits : Int) (ev : Value) (w : World) (hlim : s.size ≤ 281474976710656) (hv : w.cell? ⟨0, 0, none⟩ = some ev) (hev : ev = .nilIface ∨ ∃ te pe, ev = .iface te pe) :
    Calls Tryz.prog 99 #[.string fn, .string s, .int .i64 base, .int .i64 bits, .iface 146 (.int .i64 2)] w fun e w' => ∃ N, e = .returned (.iface 149 (.pointer (some ⟨N, 0, none⟩))) ∧ w.heap.size ≤ N ∧ w'.heap[N]? = some (.cells #[.string fn, .string s, ev] 154 (0, 0)) ∧ Below w.heap.size w w' := Any.strconv_toError_syntax Tryz.laysC245 fn s base bits ev w hlim hv hev
open Go.RowKit in
theorem Tryz.strconv_toError_range (fn s : ByteArray) (base bits : Int) (ev : Value) (w : World) (hlim : s.size ≤ 281474976710656) (hv : w.cell? ⟨1, 0, none⟩ = some ev) (hev : ev = .nilIface ∨ ∃ te pe, ev = .iface te pe) :
    Calls Tryz.prog 99 #[.string fn, .string s, .int .i64 base, .int .i64 bits, .iface 146 (.int .i64 1)] w fun e w' => ∃ N, e = .returned (.iface 149 (.pointer (some ⟨N, 0, none⟩))) ∧ w.heap.size ≤ N ∧ w'.heap[N]? = some (.cells #[.string fn, .string s, ev] 154 (0, 0)) ∧ Below w.heap.size w w' := Any.strconv_toError_range Tryz.laysC245 fn s base bits ev w hlim hv hev
def Tryz.lays99_ren : Go.Shelf.Ren := ⟨fun | 99 => 89 | 206 => 96 | n => n, fun | 9 => 9 | 4 => 4 | 3 => 3 | n => n, fun | n => n⟩
theorem Tryz.lays99 : Go.Proofs.Lays.n99 Tryz.prog Tryz.lays99_ren := {
  mixed := by kernel_rfl
  f99 := Tryz.func89.trans (congrArg some (by kernel_rfl))
  f206 := Tryz.func96.trans (congrArg some (by kernel_rfl))
  t3 := Tryz.underlying3
  a3 := Tryz.isAgg3
  z3 := Tryz.sizeOf3
  v3 := Tryz.zeroValue3
  t4 := Tryz.underlying4
  a4 := Tryz.isAgg4
  z4 := Tryz.sizeOf4
  v4 := Tryz.zeroValue4
  t9 := Tryz.underlying9
  a9 := Tryz.isAgg9
  z9 := Tryz.sizeOf9
  v9 := Tryz.zeroValue9 }
open Go.RowKit Go.Lib in
theorem Tryz.strings_HasPrefix (s p : ByteArray) (w : World) :
    Calls Tryz.prog 89 #[.string s, .string p] w fun e w' => e = .returned (.bool (Lib.hasPrefix s.data.toList p.data.toList)) ∧ w' = w := Any.strings_HasPrefix Tryz.lays99 s p w
end Go.Proofs
namespace Go.Proofs.YtafcnijfoejboaaGreatDoor.Pl
theorem drop_pos {p : UInt8 → Bool} : ∀ (l : List UInt8), (∃ x, x ∈ l ∧ p x = false) → 0 < (l.dropWhile p).length
  | [], ⟨x, hx, _⟩ => absurd hx (List.not_mem_nil)
  | a :: l, ⟨x, hx, hp⟩ => by
    cases ha : p a
    · simp [List.dropWhile, ha]
    · rcases List.mem_cons.1 hx with e | hx
      · rw [e, ha] at hp; cases hp
      · simp only [List.dropWhile, ha]
        exact drop_pos l ⟨x, hx, hp⟩
end Go.Proofs.YtafcnijfoejboaaGreatDoor.Pl
namespace Go.Proofs.YtafcnijfoejboaaGreatDoor.W
open Go.RowKit
theorem trim_any (s : ByteArray) (hpos : 0 < s.size) (hd : Pl.dg (Pl.byt s 0) = true) (hs : s.size ≤ 1048576) : ∃ D : ByteArray, 0 < D.size ∧ D.size ≤ s.size ∧ ∀ u : World, Calls Tryz.prog 88 #[.string s, .string ⟨#[117, 85]⟩] u fun e w' => e = .returned (.string D) ∧ Below u.heap.size u w' := by
  refine ⟨⟨(Lib.trimRightS s.data.toList (⟨#[117, 85]⟩ : ByteArray).data.toList).toArray⟩, ?_, ?_, fun u => ?_⟩
  · show 0 < (Lib.trimRightS s.data.toList [117, 85]).toArray.size
    rw [List.size_toArray]
    unfold Lib.trimRightS
    rw [List.length_reverse]
    refine Pl.drop_pos _ ⟨s.data.toList.getD 0 0, ?_, ?_⟩
    · rw [List.mem_reverse]
      have h0 : 0 < s.data.toList.length := by simpa using hpos
      rw [List.getD_eq_getElem?_getD, List.getElem?_eq_getElem h0]
      exact List.getElem_mem _
    · have hb : 48 ≤ Pl.byt s 0 ∧ Pl.byt s 0 ≤ 57 := by simpa [Pl.dg] using hd
      unfold Pl.byt at hb
      generalize s.data.toList.getD 0 0 = x at hb
      rw [Bool.eq_false_iff]
      intro hc
      have hc2 : x = 117 ∨ x = 85 := by simpa using hc
      rcases hc2 with e | e
      · rw [e] at hb; revert hb; decide
      · rw [e] at hb; revert hb; decide
  · show (Lib.trimRightS s.data.toList [117, 85]).toArray.size ≤ s.data.size
    rw [List.size_toArray]
    unfold Lib.trimRightS
    rw [List.length_reverse]
    have := (List.dropWhile_sublist (fun x => List.contains [117, 85] x) (l := s.data.toList.reverse)).length_le
    simpa using this
  · exact Any.strings_TrimRight_laid Tryz.lays162 (by kernel_rfl) s ⟨#[117, 85]⟩ u (by omega) (by decide) (ascii_of_all (by decide))
set_option maxHeartbeats 4000000 in
set_option maxRecDepth 100000 in
theorem sParse_any (b : Int) (hb : b = 8 ∨ b = 10 ∨ b = 16) (t : ByteArray) (ht : t.size ≤ 1048576) (w : World) (hE : Errs w) : Calls Tryz.prog 91 #[.string t, .int .i64 b, .int .i64 32] w fun e w' => (∃ (n : Int) (v : Value), e = .returned (.tuple #[.int .u64 n, v]) ∧ (v = .nilIface ∨ ∃ N, v = .iface 149 (.pointer (some ⟨N, 0, none⟩)))) ∧ Below w.heap.size w w' := by
  have HE : Hid (Errs w) := hE
  clear hE
  go_enter Tryz.func91, Tryz.ntmps91
  go_wp2_with fail
  refine (iParse_any b hb t (by omega) _).mono ?_
  rintro e u1 ⟨⟨n, v, rfl, hv⟩, g1⟩
  have G1 : Hid (Below w.heap.size w u1) := g1
  obtain ⟨⟨e1, c1, q1⟩, ⟨e2, c2, q2⟩⟩ := HE.out.keep g1
  clear g1
  have C1 : Hid (u1.cell? ⟨0, 0, none⟩ = some e1) := c1
  have C2 : Hid (u1.cell? ⟨1, 0, none⟩ = some e2) := c2
  have Q1 : Hid (e1 = .nilIface ∨ ∃ te pe, e1 = .iface te pe) := q1
  have Q2 : Hid (e2 = .nilIface ∨ ∃ te pe, e2 = .iface te pe) := q2
  clear c1 c2 q1 q2
  rcases hv with rfl | rfl | rfl
  · go_wp2_with fail
    go_ret2
    exact ⟨⟨_, _, rfl, .inl rfl⟩, G1.out⟩
  · go_wp2_with fail
    refine (Tryz.strconv_toError_range _ t _ _ e2 _ (by omega) C2.out Q2.out).mono ?_
    rintro e u2 ⟨N, rfl, _, _, g2⟩
    go_wp2_with fail
    go_ret2
    exact ⟨⟨_, _, rfl, .inr ⟨N, rfl⟩⟩, G1.out.trans (g2.mono G1.out.size)⟩
  · go_wp2_with fail
    refine (Tryz.strconv_toError_syntax _ t _ _ e1 _ (by omega) C1.out Q1.out).mono ?_
    rintro e u2 ⟨N, rfl, _, _, g2⟩
    go_wp2_with fail
    go_ret2
    exact ⟨⟨_, _, rfl, .inr ⟨N, rfl⟩⟩, G1.out.trans (g2.mono G1.out.size)⟩
end Go.Proofs.YtafcnijfoejboaaGreatDoor.W
