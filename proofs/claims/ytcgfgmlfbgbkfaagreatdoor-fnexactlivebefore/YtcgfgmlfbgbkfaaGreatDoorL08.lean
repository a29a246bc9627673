import Derived.Test.YtcgfgmlfbgbkfaaGreatDoorL07
import Derived.Deep.AppendLies
import Derived.Test.YtcgfgmlfbgbkfaaGreatDoorL05
import Derived.Laws.OwnMore
import Derived.Test.YtcgfgmlfbgbkfaaGreatDoorL00
set_option linter.unusedVariables false
set_option linter.unusedSimpArgs false
namespace Go.Proofs.YtcgfgmlfbgbkfaaGreatDoor.Pl
def usesL (k : Nat) (x : IrI) : List Int := match k with
  | 1 => []
  | 2 => [x.a]
  | 3 => [x.a, x.b]
  | 4 => [x.a]
  | 5 => [x.a]
  | 6 => [x.a, x.b]
  | 7 => []
  | 8 => []
  | 9 => x.args
  | 10 => x.a :: x.args
  | 11 => []
  | 12 => []
  | 13 => [x.a, x.b]
  | 14 => if x.a = -1 then [] else [x.a]
  | 15 => [x.a, x.b]
  | 16 => [x.a]
  | _ => []
def setsL (k : Nat) (x : IrI) : List Int := match k with
  | 1 => [x.d]
  | 2 => [x.d]
  | 3 => [x.d]
  | 4 => [x.d]
  | 5 => [x.d]
  | 6 => []
  | 7 => [x.d]
  | 8 => [x.d]
  | 9 => if x.d = -1 then [] else [x.d]
  | 10 => if x.d = -1 then [] else [x.d]
  | 11 => []
  | 12 => []
  | 13 => []
  | 14 => []
  | 15 => []
  | 16 => []
  | _ => []
end Go.Proofs.YtcgfgmlfbgbkfaaGreatDoor.Pl
namespace Go.Proofs.YtcgfgmlfbgbkfaaGreatDoor.W
open Go.RowKit
def Ints (lo : Nat) (us : List Int) (e : Ending) (w' : World) : Prop := ∃ (a : Option Addr) (cap : Nat), e = .returned (.slice a us.length cap) ∧ w'.ownsRow lo 3 1 (.slice a us.length cap) us.length (us.map (Value.int .i64))
theorem usesNone_is (w : World) : Calls Tryz.prog 155 #[.agg #[]] w fun e w' => Ints w.heap.size [] e w' ∧ Below w.heap.size w w' := by
  go_enter Tryz.func155, Tryz.ntmps155
  go_wp2_with fail
  go_ret
  exact ⟨⟨none, 0, rfl, World.ownsRow_nil _ _ _ _⟩, below_alloc _ _⟩
theorem usesOne_is (a : Int) (w : World) : Calls Tryz.prog 152 #[.agg #[.int .i64 a]] w fun e w' => Ints w.heap.size [a] e w' ∧ Below w.heap.size w w' := by
  go_enter Tryz.func152, Tryz.ntmps152
  go_wp2_with fail
  go_ret
  refine ⟨⟨_, _, rfl, ?_⟩, (below_alloc _ _).alloc (by simp) _⟩
  have := World.ownsRow_lit (w.alloc (.cells #[.int .i64 a] 143)) #[.int .i64 a] 1 (base := w.heap.size) (e := 3) (size := 1) (by simp) (by unfold maxLen; decide) rfl
  simpa using this
theorem usesTwo_is (a b : Int) (w : World) : Calls Tryz.prog 153 #[.agg #[.int .i64 a, .int .i64 b]] w fun e w' => Ints w.heap.size [a, b] e w' ∧ Below w.heap.size w w' := by
  go_enter Tryz.func153, Tryz.ntmps153
  go_wp2_with fail
  go_ret
  refine ⟨⟨_, _, rfl, ?_⟩, (below_alloc _ _).alloc (by simp) _⟩
  have := World.ownsRow_lit (w.alloc (.cells #[.int .i64 a, .int .i64 b] 145)) #[.int .i64 a, .int .i64 b] 2 (base := w.heap.size) (e := 3) (size := 1) (by simp) (by unfold maxLen; decide) rfl
  simpa using this
theorem regOrNone_is (r : Int) (w : World) : Calls Tryz.prog 185 #[.int .i64 r] w fun e w' => Ints w.heap.size (if r = -1 then [] else [r]) e w' ∧ Below w.heap.size w w' := by
  by_cases h : r = -1
  · rw [if_pos h]
    have hb : (r == -1) = true := by simpa using h
    clear h
    go_enter Tryz.func185, Tryz.ntmps185
    go_wp2_with fail
    go_ret
    exact ⟨⟨none, 0, rfl, World.ownsRow_nil _ _ _ _⟩, Below.refl _ _⟩
  · rw [if_neg h]
    have hb : (r == -1) = false := by simpa using h
    clear h
    go_enter Tryz.func185, Tryz.ntmps185
    go_wp2_with fail
    go_ret
    refine ⟨⟨_, _, rfl, ?_⟩, below_alloc _ _⟩
    have := World.ownsRow_lit w #[.int .i64 r] 1 (base := w.heap.size) (e := 3) (size := 1) (by simp) (by unfold maxLen; decide) rfl
    simpa using this
theorem ints_lower {lo lo' : Nat} {us : List Int} {e : Ending} {w : World} (h : Ints lo us e w) (hl : lo' ≤ lo) : Ints lo' us e w := by
  obtain ⟨a, cap, he, ho⟩ := h
  refine ⟨a, cap, he, ho.1, ?_⟩
  rcases ho.2 with q | ⟨g, c, cur, h0, hlo, r⟩
  · exact .inl q
  · exact .inr ⟨g, c, cur, h0, Nat.le_trans hl hlo, r⟩
theorem setsNone_is (w : World) : Calls Tryz.prog 174 #[.agg #[]] w fun e w' => Ints w.heap.size [] e w' ∧ Below w.heap.size w w' := by
  go_enter Tryz.func174, Tryz.ntmps174
  go_wp2_with fail
  go_ret
  exact ⟨⟨none, 0, rfl, World.ownsRow_nil _ _ _ _⟩, below_alloc _ _⟩
theorem setsOne_is (a : Int) (w : World) : Calls Tryz.prog 154 #[.agg #[.int .i64 a]] w fun e w' => Ints w.heap.size [a] e w' ∧ Below w.heap.size w w' := by
  go_enter Tryz.func154, Tryz.ntmps154
  go_wp2_with fail
  go_ret
  refine ⟨⟨_, _, rfl, ?_⟩, (below_alloc _ _).alloc (by simp) _⟩
  have := World.ownsRow_lit (w.alloc (.cells #[.int .i64 a] 147)) #[.int .i64 a] 1 (base := w.heap.size) (e := 3) (size := 1) (by simp) (by unfold maxLen; decide) rfl
  simpa using this
theorem setsAny_is (d : Int) (w : World) : Calls Tryz.prog 184 #[.agg #[.int .i64 d]] w fun e w' => Ints w.heap.size (if d = -1 then [] else [d]) e w' ∧ Below w.heap.size w w' := by
  have HR : Hid (∀ u : World, Calls Tryz.prog 185 #[.int .i64 d] u fun e w' => Ints u.heap.size (if d = -1 then [] else [d]) e w' ∧ Below u.heap.size u w') := fun u => regOrNone_is d u
  generalize (if d = -1 then [] else [d]) = us at *
  go_enter Tryz.func184, Tryz.ntmps184
  go_wp2_with (go_at_call 185; refine (HR.out _).mono ?_; rintro e u1 ⟨⟨a, cap, rfl, ho⟩, d1⟩; have HO : Hid _ := ho; have D1 : Hid _ := d1; clear ho d1)
  go_ret
  exact ⟨ints_lower ⟨a, cap, rfl, HO.out⟩ (by simp), (below_alloc _ _).trans (D1.out.mono (by simp))⟩
theorem retUses_is (r : Int) (w : World) : Calls Tryz.prog 207 #[.agg #[.int .i64 r]] w fun e w' => Ints w.heap.size (if r = -1 then [] else [r]) e w' ∧ Below w.heap.size w w' := by
  have HR : Hid (∀ u : World, Calls Tryz.prog 185 #[.int .i64 r] u fun e w' => Ints u.heap.size (if r = -1 then [] else [r]) e w' ∧ Below u.heap.size u w') := fun u => regOrNone_is r u
  generalize (if r = -1 then [] else [r]) = us at *
  go_enter Tryz.func207, Tryz.ntmps207
  go_wp2_with (go_at_call 185; refine (HR.out _).mono ?_; rintro e u1 ⟨⟨a, cap, rfl, ho⟩, d1⟩; have HO : Hid _ := ho; have D1 : Hid _ := d1; clear ho d1)
  go_ret
  exact ⟨ints_lower ⟨a, cap, rfl, HO.out⟩ (by simp), (below_alloc _ _).trans (D1.out.mono (by simp))⟩
theorem callUses_is {lo : Nat} (x : Pl.IrI) (y : SV) (w : World) (hr : Row .i64 lo w y.a y.len y.cap x.args) (hl : y.len ≤ 1048576) : Calls Tryz.prog 188 #[.agg #[.int .i64 x.d, .string x.sym, .slice y.a y.len y.cap]] w fun e w' => Ints w.heap.size x.args e w' ∧ Below w.heap.size w w' := by
  have HL : Hid (x.args.length = y.len) := hr.1
  have HR : Hid (∀ u : World, Below w.heap.size w u → Calls Tryz.prog 190 #[.slice y.a y.len y.cap] u fun e w' => ∃ a' cap', e = .returned (.slice a' y.len cap') ∧ Own .i64 3 u.heap.size w' a' y.len cap' x.args ∧ Below u.heap.size u w') := fun u hu => cloneInts_rowA y.a y.len y.cap x.args u (hr.keep hu) hl
  clear hr
  go_enter Tryz.func188, Tryz.ntmps188
  go_wp2_with (go_at_call 190; refine (HR.out _ (below_alloc _ _)).mono ?_; rintro e u1 ⟨a, cap, rfl, ho, d1⟩; have HO : Hid _ := ho; have D1 : Hid _ := d1; clear ho d1)
  go_ret
  refine ⟨ints_lower (lo := (w.alloc (.cells #[.int .i64 x.d, .string x.sym, .slice y.a y.len y.cap] 168)).heap.size) ?_ (by simp), (below_alloc _ _).trans (D1.out.mono (by simp))⟩
  refine ⟨a, cap, (by rw [HL.out]; rfl), ?_⟩
  rw [HL.out]
  exact HO.out.1
theorem callAtUses_is {lo : Nat} (x : Pl.IrI) (y : SV) (w : World) (hr : Row .i64 lo w y.a y.len y.cap x.args) (hl : y.len ≤ 1048576) : Calls Tryz.prog 193 #[.agg #[.int .i64 x.d, .int .i64 x.a, .slice y.a y.len y.cap]] w fun e w' => Ints w.heap.size (x.a :: x.args) e w' ∧ Below w.heap.size w w' := by
  obtain ⟨i0, hi, hz0, hz1, hz2⟩ := info_parts Tryz.infoi64
  obtain ⟨ya, yl, yc⟩ := y
  simp only at hr hl ⊢
  obtain ⟨hl1, hlc, hcm, hwf, h5⟩ := hr
  have hE : ((w.alloc (.cells #[.int .i64 x.d, .int .i64 x.a, .slice ya yl yc] 170)).alloc (.cells #[.int .i64 x.a] 3)).ownsRow w.heap.size 3 1 (.slice (some ⟨w.heap.size + 1, 0, none⟩) 1 1) 1 [.int .i64 x.a] := by
    have := World.ownsRow_lit (w.alloc (.cells #[.int .i64 x.d, .int .i64 x.a, .slice ya yl yc] 170)) #[.int .i64 x.a] 1 (base := w.heap.size) (e := 3) (size := 1) (by simp) (by unfold maxLen; decide) rfl
    simpa using this
  clear hwf
  cases ya with
  | none =>
    have h0 : yl = 0 := by rcases h5 with h | ⟨b, off, hb, _⟩; exact h; cases hb
    subst h0
    have hz : x.args = [] := by cases hq : x.args with | nil => rfl | cons => rw [hq] at hl1; simp at hl1
    rw [hz]
    clear hl1 h5 hz
    go_enter Tryz.func193, Tryz.ntmps193
    go_wp2_with (at_builtin; refine wpList_append_noneA rfl (.tmp 5) (.tmp 7) 22 rfl w.heap.size 3 i0 1 yc Tryz.underlying22 hi _ 1 [.int .i64 x.a] rfl hE rfl ?_)
    go_ret
    exact ⟨⟨_, _, rfl, hE⟩, (below_alloc _ _).alloc (by simp) _⟩
  | some ad =>
    have HN : Hid (∀ j u, (x.args.map (Value.int .i64))[j]? = some u → ((w.alloc (.cells #[.int .i64 x.d, .int .i64 x.a, .slice (some ad) yl yc] 170)).alloc (.cells #[.int .i64 x.a] 3)).cell? (ad.add j) = some u) := fun j u hj => by
      have hjl : j < yl := by
        have := (List.getElem?_eq_some_iff.1 hj).1
        rw [List.length_map] at this
        omega
      rcases h5 with h | ⟨b, off, hb, _, hlt, hc⟩
      · omega
      · cases hb
        have e1 : (⟨b, off, none⟩ : Addr).add j = ⟨b, off + j, none⟩ := by
          simp only [Addr.add]
          split <;> simp_all
        have hbb : Below w.heap.size w ((w.alloc (.cells #[.int .i64 x.d, .int .i64 x.a, .slice (some ⟨b, off, none⟩) yl yc] 170)).alloc (.cells #[.int .i64 x.a] 3)) := (below_alloc _ _).alloc (by simp) _
        rw [e1, hbb.cell (p := ⟨b, off + j, none⟩) hlt, hc j hjl, ← hj, List.getElem?_map, List.getElem?_eq_getElem (by omega), List.getD_eq_getElem?_getD, List.getElem?_eq_getElem (by omega)]
        rfl
    clear h5
    go_enter Tryz.func193, Tryz.ntmps193
    go_wp2_with (at_builtin; refine wpList_append_own _ rfl (.tmp 5) (.tmp 7) 22 rfl w.heap.size 3 i0 (.int .i64 0) 1 8 Tryz.underlying22 hi hz0 hz1 hz2 rfl (by decide) _ 1 [.int .i64 x.a] rfl hE ad yl yc (x.args.map (Value.int .i64)) rfl (by rw [List.length_map, hl1, Nat.mul_one]) HN.out (by intro u hu; obtain ⟨n, _, rfl⟩ := List.mem_map.1 hu; rfl) (by unfold maxLen; omega) (by omega) (by simp; omega) ?_)
    intro v' u1 hown' hgr _
    have HO' : Hid (u1.ownsRow w.heap.size 3 1 v' (1 + yl) ((x.a :: x.args).map (Value.int .i64))) := hown'
    have HB : Hid (Below w.heap.size w u1) := (Below.alloc (below_alloc w _) (by simp) _).grown hgr (by simp; omega) (fun k hk => by simp [Value.ownBlock] at hk; omega)
    have HLL : Hid ((x.a :: x.args).length = 1 + yl) := by show (x.a :: x.args).length = 1 + yl; rw [List.length_cons, hl1]; omega
    clear hown' hgr hE HN
    obtain ⟨g', c', hv, _, _⟩ := HO'.out.form (by omega)
    subst hv
    go_wp2
    go_ret
    refine ⟨⟨_, c', (by rw [HLL.out]; rfl), ?_⟩, HB.out⟩
    rw [HLL.out]
    exact HO'.out
theorem meth_uses_1 (x : Pl.IrI) (y : SV) (w : World) : (method 365 151 (.agg #[.int .i64 x.d, .int .i64 x.n]) "loop.example/s01681/impl.uses").run Tryz.prog w = .ok (155, .agg #[]) w := by kernel_rfl
theorem meth_sets_1 (x : Pl.IrI) (y : SV) (w : World) : (method 365 151 (.agg #[.int .i64 x.d, .int .i64 x.n]) "loop.example/s01681/impl.sets").run Tryz.prog w = .ok (154, .agg #[.int .i64 x.d]) w := by kernel_rfl
theorem meth_uses_2 (x : Pl.IrI) (y : SV) (w : World) : (method 365 153 (.agg #[.int .i64 x.a, .int .i64 x.d]) "loop.example/s01681/impl.uses").run Tryz.prog w = .ok (152, .agg #[.int .i64 x.a]) w := by kernel_rfl
theorem meth_sets_2 (x : Pl.IrI) (y : SV) (w : World) : (method 365 153 (.agg #[.int .i64 x.a, .int .i64 x.d]) "loop.example/s01681/impl.sets").run Tryz.prog w = .ok (154, .agg #[.int .i64 x.d]) w := by kernel_rfl
theorem meth_uses_3 (x : Pl.IrI) (y : SV) (w : World) : (method 365 155 (.agg #[.int .i64 x.a, .int .i64 x.b, .int .i64 x.d, .int .i64 x.n]) "loop.example/s01681/impl.uses").run Tryz.prog w = .ok (153, .agg #[.int .i64 x.a, .int .i64 x.b]) w := by kernel_rfl
theorem meth_sets_3 (x : Pl.IrI) (y : SV) (w : World) : (method 365 155 (.agg #[.int .i64 x.a, .int .i64 x.b, .int .i64 x.d, .int .i64 x.n]) "loop.example/s01681/impl.sets").run Tryz.prog w = .ok (154, .agg #[.int .i64 x.d]) w := by kernel_rfl
theorem meth_uses_4 (x : Pl.IrI) (y : SV) (w : World) : (method 365 157 (.agg #[.int .i64 x.a, .int .i64 x.d, .int .i64 x.n]) "loop.example/s01681/impl.uses").run Tryz.prog w = .ok (152, .agg #[.int .i64 x.a]) w := by kernel_rfl
theorem meth_sets_4 (x : Pl.IrI) (y : SV) (w : World) : (method 365 157 (.agg #[.int .i64 x.a, .int .i64 x.d, .int .i64 x.n]) "loop.example/s01681/impl.sets").run Tryz.prog w = .ok (154, .agg #[.int .i64 x.d]) w := by kernel_rfl
theorem meth_uses_5 (x : Pl.IrI) (y : SV) (w : World) : (method 365 158 (.agg #[.int .i64 x.a, .int .i64 x.d, .int .i64 x.n]) "loop.example/s01681/impl.uses").run Tryz.prog w = .ok (152, .agg #[.int .i64 x.a]) w := by kernel_rfl
theorem meth_sets_5 (x : Pl.IrI) (y : SV) (w : World) : (method 365 158 (.agg #[.int .i64 x.a, .int .i64 x.d, .int .i64 x.n]) "loop.example/s01681/impl.sets").run Tryz.prog w = .ok (154, .agg #[.int .i64 x.d]) w := by kernel_rfl
theorem meth_uses_6 (x : Pl.IrI) (y : SV) (w : World) : (method 365 161 (.agg #[.int .i64 x.a, .int .i64 x.b, .int .i64 x.n]) "loop.example/s01681/impl.uses").run Tryz.prog w = .ok (153, .agg #[.int .i64 x.a, .int .i64 x.b]) w := by kernel_rfl
theorem meth_sets_6 (x : Pl.IrI) (y : SV) (w : World) : (method 365 161 (.agg #[.int .i64 x.a, .int .i64 x.b, .int .i64 x.n]) "loop.example/s01681/impl.sets").run Tryz.prog w = .ok (174, .agg #[]) w := by kernel_rfl
theorem meth_uses_7 (x : Pl.IrI) (y : SV) (w : World) : (method 365 163 (.agg #[.int .i64 x.d, .string x.sym, .int .i64 x.n]) "loop.example/s01681/impl.uses").run Tryz.prog w = .ok (155, .agg #[]) w := by kernel_rfl
theorem meth_sets_7 (x : Pl.IrI) (y : SV) (w : World) : (method 365 163 (.agg #[.int .i64 x.d, .string x.sym, .int .i64 x.n]) "loop.example/s01681/impl.sets").run Tryz.prog w = .ok (154, .agg #[.int .i64 x.d]) w := by kernel_rfl
theorem meth_uses_8 (x : Pl.IrI) (y : SV) (w : World) : (method 365 165 (.agg #[.int .i64 x.d, .int .i64 x.n]) "loop.example/s01681/impl.uses").run Tryz.prog w = .ok (155, .agg #[]) w := by kernel_rfl
theorem meth_sets_8 (x : Pl.IrI) (y : SV) (w : World) : (method 365 165 (.agg #[.int .i64 x.d, .int .i64 x.n]) "loop.example/s01681/impl.sets").run Tryz.prog w = .ok (154, .agg #[.int .i64 x.d]) w := by kernel_rfl
theorem meth_uses_9 (x : Pl.IrI) (y : SV) (w : World) : (method 365 168 (.agg #[.int .i64 x.d, .string x.sym, .slice y.a y.len y.cap]) "loop.example/s01681/impl.uses").run Tryz.prog w = .ok (188, .agg #[.int .i64 x.d, .string x.sym, .slice y.a y.len y.cap]) w := by kernel_rfl
theorem meth_sets_9 (x : Pl.IrI) (y : SV) (w : World) : (method 365 168 (.agg #[.int .i64 x.d, .string x.sym, .slice y.a y.len y.cap]) "loop.example/s01681/impl.sets").run Tryz.prog w = .ok (184, .agg #[.int .i64 x.d]) w := by kernel_rfl
theorem meth_uses_10 (x : Pl.IrI) (y : SV) (w : World) : (method 365 170 (.agg #[.int .i64 x.d, .int .i64 x.a, .slice y.a y.len y.cap]) "loop.example/s01681/impl.uses").run Tryz.prog w = .ok (193, .agg #[.int .i64 x.d, .int .i64 x.a, .slice y.a y.len y.cap]) w := by kernel_rfl
theorem meth_sets_10 (x : Pl.IrI) (y : SV) (w : World) : (method 365 170 (.agg #[.int .i64 x.d, .int .i64 x.a, .slice y.a y.len y.cap]) "loop.example/s01681/impl.sets").run Tryz.prog w = .ok (184, .agg #[.int .i64 x.d]) w := by kernel_rfl
theorem meth_uses_11 (x : Pl.IrI) (y : SV) (w : World) : (method 365 172 (.agg #[.int .i64 x.n]) "loop.example/s01681/impl.uses").run Tryz.prog w = .ok (155, .agg #[]) w := by kernel_rfl
theorem meth_sets_11 (x : Pl.IrI) (y : SV) (w : World) : (method 365 172 (.agg #[.int .i64 x.n]) "loop.example/s01681/impl.sets").run Tryz.prog w = .ok (174, .agg #[]) w := by kernel_rfl
theorem meth_uses_12 (x : Pl.IrI) (y : SV) (w : World) : (method 365 173 (.agg #[.int .i64 x.n]) "loop.example/s01681/impl.uses").run Tryz.prog w = .ok (155, .agg #[]) w := by kernel_rfl
theorem meth_sets_12 (x : Pl.IrI) (y : SV) (w : World) : (method 365 173 (.agg #[.int .i64 x.n]) "loop.example/s01681/impl.sets").run Tryz.prog w = .ok (174, .agg #[]) w := by kernel_rfl
theorem meth_uses_13 (x : Pl.IrI) (y : SV) (w : World) : (method 365 175 (.agg #[.int .i64 x.a, .int .i64 x.b, .string x.sym, .int .i64 x.n]) "loop.example/s01681/impl.uses").run Tryz.prog w = .ok (153, .agg #[.int .i64 x.a, .int .i64 x.b]) w := by kernel_rfl
theorem meth_sets_13 (x : Pl.IrI) (y : SV) (w : World) : (method 365 175 (.agg #[.int .i64 x.a, .int .i64 x.b, .string x.sym, .int .i64 x.n]) "loop.example/s01681/impl.sets").run Tryz.prog w = .ok (174, .agg #[]) w := by kernel_rfl
theorem meth_uses_14 (x : Pl.IrI) (y : SV) (w : World) : (method 365 177 (.agg #[.int .i64 x.a]) "loop.example/s01681/impl.uses").run Tryz.prog w = .ok (207, .agg #[.int .i64 x.a]) w := by kernel_rfl
theorem meth_sets_14 (x : Pl.IrI) (y : SV) (w : World) : (method 365 177 (.agg #[.int .i64 x.a]) "loop.example/s01681/impl.sets").run Tryz.prog w = .ok (174, .agg #[]) w := by kernel_rfl
theorem meth_uses_15 (x : Pl.IrI) (y : SV) (w : World) : (method 365 179 (.agg #[.int .i64 x.a, .int .i64 x.b, .int .i64 x.n]) "loop.example/s01681/impl.uses").run Tryz.prog w = .ok (153, .agg #[.int .i64 x.a, .int .i64 x.b]) w := by kernel_rfl
theorem meth_sets_15 (x : Pl.IrI) (y : SV) (w : World) : (method 365 179 (.agg #[.int .i64 x.a, .int .i64 x.b, .int .i64 x.n]) "loop.example/s01681/impl.sets").run Tryz.prog w = .ok (174, .agg #[]) w := by kernel_rfl
theorem meth_uses_16 (x : Pl.IrI) (y : SV) (w : World) : (method 365 181 (.agg #[.int .i64 x.a, .int .i64 x.n]) "loop.example/s01681/impl.uses").run Tryz.prog w = .ok (152, .agg #[.int .i64 x.a]) w := by kernel_rfl
theorem meth_sets_16 (x : Pl.IrI) (y : SV) (w : World) : (method 365 181 (.agg #[.int .i64 x.a, .int .i64 x.n]) "loop.example/s01681/impl.sets").run Tryz.prog w = .ok (174, .agg #[]) w := by kernel_rfl
def Says (v : Value) (name : String) (args : List Value) (w : World) (R : World → Ending → World → Prop) : Prop := ∃ (T : TypeId) (c : Value) (F : Nat) (r : Value), v = .iface T c ∧ (∀ u : World, (method 365 T c name).run Tryz.prog u = .ok (F, r) u) ∧ (∀ (vs : Array Value) (u : World), (callFunc F vs).run Tryz.prog u = .ok (.enter F vs) u) ∧ ∀ u : World, Below w.heap.size w u → Calls Tryz.prog F (r :: args).toArray u fun e u' => R u e u'
theorem says_uses {lo : Nat} (k : Nat) (hk : 1 ≤ k ∧ k ≤ 16) (x : Pl.IrI) (y : SV) (w : World) (hr : Row .i64 lo w y.a y.len y.cap x.args) (hl : y.len ≤ 1048576) : Says (stV k x y) "loop.example/s01681/impl.uses" [] w fun u e u' => Ints u.heap.size (Pl.usesL k x) e u' ∧ Below u.heap.size u u' := by
  obtain ⟨h1, h2⟩ := hk
  rcases (show k = 1 ∨ k = 2 ∨ k = 3 ∨ k = 4 ∨ k = 5 ∨ k = 6 ∨ k = 7 ∨ k = 8 ∨ k = 9 ∨ k = 10 ∨ k = 11 ∨ k = 12 ∨ k = 13 ∨ k = 14 ∨ k = 15 ∨ k = 16 by omega) with rfl | rfl | rfl | rfl | rfl | rfl | rfl | rfl | rfl | rfl | rfl | rfl | rfl | rfl | rfl | rfl
  · exact ⟨_, _, _, _, rfl, meth_uses_1 x y, fun _ _ => (by kernel_rfl), fun u hu => usesNone_is u⟩
  · exact ⟨_, _, _, _, rfl, meth_uses_2 x y, fun _ _ => (by kernel_rfl), fun u hu => usesOne_is x.a u⟩
  · exact ⟨_, _, _, _, rfl, meth_uses_3 x y, fun _ _ => (by kernel_rfl), fun u hu => usesTwo_is x.a x.b u⟩
  · exact ⟨_, _, _, _, rfl, meth_uses_4 x y, fun _ _ => (by kernel_rfl), fun u hu => usesOne_is x.a u⟩
  · exact ⟨_, _, _, _, rfl, meth_uses_5 x y, fun _ _ => (by kernel_rfl), fun u hu => usesOne_is x.a u⟩
  · exact ⟨_, _, _, _, rfl, meth_uses_6 x y, fun _ _ => (by kernel_rfl), fun u hu => usesTwo_is x.a x.b u⟩
  · exact ⟨_, _, _, _, rfl, meth_uses_7 x y, fun _ _ => (by kernel_rfl), fun u hu => usesNone_is u⟩
  · exact ⟨_, _, _, _, rfl, meth_uses_8 x y, fun _ _ => (by kernel_rfl), fun u hu => usesNone_is u⟩
  · exact ⟨_, _, _, _, rfl, meth_uses_9 x y, fun _ _ => (by kernel_rfl), fun u hu => callUses_is x y u (hr.keep hu) hl⟩
  · exact ⟨_, _, _, _, rfl, meth_uses_10 x y, fun _ _ => (by kernel_rfl), fun u hu => callAtUses_is x y u (hr.keep hu) hl⟩
  · exact ⟨_, _, _, _, rfl, meth_uses_11 x y, fun _ _ => (by kernel_rfl), fun u hu => usesNone_is u⟩
  · exact ⟨_, _, _, _, rfl, meth_uses_12 x y, fun _ _ => (by kernel_rfl), fun u hu => usesNone_is u⟩
  · exact ⟨_, _, _, _, rfl, meth_uses_13 x y, fun _ _ => (by kernel_rfl), fun u hu => usesTwo_is x.a x.b u⟩
  · exact ⟨_, _, _, _, rfl, meth_uses_14 x y, fun _ _ => (by kernel_rfl), fun u hu => retUses_is x.a u⟩
  · exact ⟨_, _, _, _, rfl, meth_uses_15 x y, fun _ _ => (by kernel_rfl), fun u hu => usesTwo_is x.a x.b u⟩
  · exact ⟨_, _, _, _, rfl, meth_uses_16 x y, fun _ _ => (by kernel_rfl), fun u hu => usesOne_is x.a u⟩
theorem says_sets {lo : Nat} (k : Nat) (hk : 1 ≤ k ∧ k ≤ 16) (x : Pl.IrI) (y : SV) (w : World) (hr : Row .i64 lo w y.a y.len y.cap x.args) (hl : y.len ≤ 1048576) : Says (stV k x y) "loop.example/s01681/impl.sets" [] w fun u e u' => Ints u.heap.size (Pl.setsL k x) e u' ∧ Below u.heap.size u u' := by
  obtain ⟨h1, h2⟩ := hk
  rcases (show k = 1 ∨ k = 2 ∨ k = 3 ∨ k = 4 ∨ k = 5 ∨ k = 6 ∨ k = 7 ∨ k = 8 ∨ k = 9 ∨ k = 10 ∨ k = 11 ∨ k = 12 ∨ k = 13 ∨ k = 14 ∨ k = 15 ∨ k = 16 by omega) with rfl | rfl | rfl | rfl | rfl | rfl | rfl | rfl | rfl | rfl | rfl | rfl | rfl | rfl | rfl | rfl
  · exact ⟨_, _, _, _, rfl, meth_sets_1 x y, fun _ _ => (by kernel_rfl), fun u hu => setsOne_is x.d u⟩
  · exact ⟨_, _, _, _, rfl, meth_sets_2 x y, fun _ _ => (by kernel_rfl), fun u hu => setsOne_is x.d u⟩
  · exact ⟨_, _, _, _, rfl, meth_sets_3 x y, fun _ _ => (by kernel_rfl), fun u hu => setsOne_is x.d u⟩
  · exact ⟨_, _, _, _, rfl, meth_sets_4 x y, fun _ _ => (by kernel_rfl), fun u hu => setsOne_is x.d u⟩
  · exact ⟨_, _, _, _, rfl, meth_sets_5 x y, fun _ _ => (by kernel_rfl), fun u hu => setsOne_is x.d u⟩
  · exact ⟨_, _, _, _, rfl, meth_sets_6 x y, fun _ _ => (by kernel_rfl), fun u hu => setsNone_is u⟩
  · exact ⟨_, _, _, _, rfl, meth_sets_7 x y, fun _ _ => (by kernel_rfl), fun u hu => setsOne_is x.d u⟩
  · exact ⟨_, _, _, _, rfl, meth_sets_8 x y, fun _ _ => (by kernel_rfl), fun u hu => setsOne_is x.d u⟩
  · exact ⟨_, _, _, _, rfl, meth_sets_9 x y, fun _ _ => (by kernel_rfl), fun u hu => setsAny_is x.d u⟩
  · exact ⟨_, _, _, _, rfl, meth_sets_10 x y, fun _ _ => (by kernel_rfl), fun u hu => setsAny_is x.d u⟩
  · exact ⟨_, _, _, _, rfl, meth_sets_11 x y, fun _ _ => (by kernel_rfl), fun u hu => setsNone_is u⟩
  · exact ⟨_, _, _, _, rfl, meth_sets_12 x y, fun _ _ => (by kernel_rfl), fun u hu => setsNone_is u⟩
  · exact ⟨_, _, _, _, rfl, meth_sets_13 x y, fun _ _ => (by kernel_rfl), fun u hu => setsNone_is u⟩
  · exact ⟨_, _, _, _, rfl, meth_sets_14 x y, fun _ _ => (by kernel_rfl), fun u hu => setsNone_is u⟩
  · exact ⟨_, _, _, _, rfl, meth_sets_15 x y, fun _ _ => (by kernel_rfl), fun u hu => setsNone_is u⟩
  · exact ⟨_, _, _, _, rfl, meth_sets_16 x y, fun _ _ => (by kernel_rfl), fun u hu => setsNone_is u⟩
end Go.Proofs.YtcgfgmlfbgbkfaaGreatDoor.W
namespace Go.Proofs.YtcgfgmlfbgbkfaaGreatDoor.Pl
def Nx (code : List IrI) (i j : Nat) : Prop := if (code.getD i IrI.zero).op = 14 then False else if (code.getD i IrI.zero).op = 12 then isLab code (code.getD i IrI.zero).n j else if (code.getD i IrI.zero).op = 13 then j = i + 1 ∨ isLab code (code.getD i IrI.zero).n j else j = i + 1
def Us (code : List IrI) (i : Nat) (r : Int) : Prop := r ∈ usesL (code.getD i IrI.zero).op.toNat (code.getD i IrI.zero)
def Se (code : List IrI) (i : Nat) (r : Int) : Prop := r ∈ setsL (code.getD i IrI.zero).op.toNat (code.getD i IrI.zero)
inductive Live (code : List IrI) (r : Int) : Nat → Prop
  | use {i : Nat} : i < code.length → Us code i r → Live code r i
  | go {i j : Nat} : i < code.length → j < code.length → Nx code i j → ¬ Se code i r → Live code r j → Live code r i
theorem Live.lt {code : List IrI} {r : Int} {i : Nat} (h : Live code r i) : i < code.length := by cases h <;> assumption
theorem live_least {code : List IrI} {r : Int} (M : Nat → Prop) (hu : ∀ i, i < code.length → Us code i r → M i) (hg : ∀ i j, i < code.length → j < code.length → Nx code i j → ¬ Se code i r → M j → M i) {i : Nat} (h : Live code r i) : M i := by
  induction h with
  | use h1 h2 => exact hu _ h1 h2
  | go h1 h2 h3 h4 _ ih => exact hg _ _ h1 h2 h3 h4 ih
theorem isLab_lt {code : List IrI} {n : Int} {j : Nat} (h : isLab code n j) : j < code.length := by
  apply Classical.byContradiction
  intro hn
  have := h.1
  rw [show code.getD j IrI.zero = IrI.zero from by simp [List.getD_eq_getElem?_getD, List.getElem?_eq_none (Nat.le_of_not_lt hn)]] at this
  exact absurd this (by decide)
theorem nx_lt {f : IrF} (hf : funOk f) {i j : Nat} (hi : i < f.code.length) (h : Nx f.code i j) : j < f.code.length := by
  have hl := hf.1.2.2.2.2
  unfold Nx at h
  split at h
  · exact h.elim
  split at h
  · exact isLab_lt h
  have hs : i + 1 < f.code.length := by
    apply Classical.byContradiction
    intro hn
    have e : f.code.length - 1 = i := by omega
    rw [e] at hl
    contradiction
  split at h
  · rcases h with rfl | h
    · exact hs
    · exact isLab_lt h
  · rw [h]; exact hs
def usesD (x : IrI) : List Int := x.args ++ (if 0 < irTab.getD x.op.toNat 0 / 4 % 4 ∧ 0 ≤ x.a then [x.a] else []) ++ (if irTab.getD x.op.toNat 0 / 16 % 2 = 1 then [x.b] else [])
def setsD (x : IrI) : Int := if irTab.getD x.op.toNat 0 % 4 = 0 then -1 else x.d
def SameUs (x : IrI) : Prop := (∀ r : Int, r ∈ usesD x ↔ r ∈ usesL x.op.toNat x) ∧ ∀ r : Int, 0 ≤ r → (r = setsD x ↔ r ∈ setsL x.op.toNat x)
theorem same_us_1 (sl : Nat) (regs : Int) (x : IrI) (h : insOk sl regs x) (hx : x.op = 1) : SameUs x := by
  obtain ⟨op, d, a, b, n, sym, args⟩ := x
  simp only at hx
  subst hx
  simp only [insOk, show irTab.getD (Int.toNat 1) 0 = 33 from rfl, show (33 : Int) % 4 = 1 from rfl, show (33 : Int) / 4 % 4 = 0 from rfl, show (33 : Int) / 16 % 2 = 0 from rfl] at h
  simp [regOk, numOk, List.length_eq_zero_iff] at h
  simp only [SameUs, usesD, setsD, usesL, setsL, show irTab.getD (Int.toNat 1) 0 = 33 from rfl, show (33 : Int) % 4 = 1 from rfl, show (33 : Int) / 4 % 4 = 0 from rfl, show (33 : Int) / 16 % 2 = 0 from rfl]
  simp
  first | done | grind
theorem same_us_2 (sl : Nat) (regs : Int) (x : IrI) (h : insOk sl regs x) (hx : x.op = 2) : SameUs x := by
  obtain ⟨op, d, a, b, n, sym, args⟩ := x
  simp only at hx
  subst hx
  simp only [insOk, show irTab.getD (Int.toNat 2) 0 = 5 from rfl, show (5 : Int) % 4 = 1 from rfl, show (5 : Int) / 4 % 4 = 1 from rfl, show (5 : Int) / 16 % 2 = 0 from rfl] at h
  simp [regOk, numOk, List.length_eq_zero_iff] at h
  simp only [SameUs, usesD, setsD, usesL, setsL, show irTab.getD (Int.toNat 2) 0 = 5 from rfl, show (5 : Int) % 4 = 1 from rfl, show (5 : Int) / 4 % 4 = 1 from rfl, show (5 : Int) / 16 % 2 = 0 from rfl]
  simp
  first | done | grind
theorem same_us_3 (sl : Nat) (regs : Int) (x : IrI) (h : insOk sl regs x) (hx : x.op = 3) : SameUs x := by
  obtain ⟨op, d, a, b, n, sym, args⟩ := x
  simp only at hx
  subst hx
  simp only [insOk, show irTab.getD (Int.toNat 3) 0 = 53 from rfl, show (53 : Int) % 4 = 1 from rfl, show (53 : Int) / 4 % 4 = 1 from rfl, show (53 : Int) / 16 % 2 = 1 from rfl] at h
  simp [regOk, numOk, List.length_eq_zero_iff] at h
  simp only [SameUs, usesD, setsD, usesL, setsL, show irTab.getD (Int.toNat 3) 0 = 53 from rfl, show (53 : Int) % 4 = 1 from rfl, show (53 : Int) / 4 % 4 = 1 from rfl, show (53 : Int) / 16 % 2 = 1 from rfl]
  simp
  first | done | grind
theorem same_us_4 (sl : Nat) (regs : Int) (x : IrI) (h : insOk sl regs x) (hx : x.op = 4) : SameUs x := by
  obtain ⟨op, d, a, b, n, sym, args⟩ := x
  simp only at hx
  subst hx
  simp only [insOk, show irTab.getD (Int.toNat 4) 0 = 37 from rfl, show (37 : Int) % 4 = 1 from rfl, show (37 : Int) / 4 % 4 = 1 from rfl, show (37 : Int) / 16 % 2 = 0 from rfl] at h
  simp [regOk, numOk, List.length_eq_zero_iff] at h
  simp only [SameUs, usesD, setsD, usesL, setsL, show irTab.getD (Int.toNat 4) 0 = 37 from rfl, show (37 : Int) % 4 = 1 from rfl, show (37 : Int) / 4 % 4 = 1 from rfl, show (37 : Int) / 16 % 2 = 0 from rfl]
  simp
  first | done | grind
theorem same_us_5 (sl : Nat) (regs : Int) (x : IrI) (h : insOk sl regs x) (hx : x.op = 5) : SameUs x := by
  obtain ⟨op, d, a, b, n, sym, args⟩ := x
  simp only at hx
  subst hx
  simp only [insOk, show irTab.getD (Int.toNat 5) 0 = 37 from rfl, show (37 : Int) % 4 = 1 from rfl, show (37 : Int) / 4 % 4 = 1 from rfl, show (37 : Int) / 16 % 2 = 0 from rfl] at h
  simp [regOk, numOk, List.length_eq_zero_iff] at h
  simp only [SameUs, usesD, setsD, usesL, setsL, show irTab.getD (Int.toNat 5) 0 = 37 from rfl, show (37 : Int) % 4 = 1 from rfl, show (37 : Int) / 4 % 4 = 1 from rfl, show (37 : Int) / 16 % 2 = 0 from rfl]
  simp
  first | done | grind
theorem same_us_6 (sl : Nat) (regs : Int) (x : IrI) (h : insOk sl regs x) (hx : x.op = 6) : SameUs x := by
  obtain ⟨op, d, a, b, n, sym, args⟩ := x
  simp only at hx
  subst hx
  simp only [insOk, show irTab.getD (Int.toNat 6) 0 = 52 from rfl, show (52 : Int) % 4 = 0 from rfl, show (52 : Int) / 4 % 4 = 1 from rfl, show (52 : Int) / 16 % 2 = 1 from rfl] at h
  simp [regOk, numOk, List.length_eq_zero_iff] at h
  simp only [SameUs, usesD, setsD, usesL, setsL, show irTab.getD (Int.toNat 6) 0 = 52 from rfl, show (52 : Int) % 4 = 0 from rfl, show (52 : Int) / 4 % 4 = 1 from rfl, show (52 : Int) / 16 % 2 = 1 from rfl]
  simp
  first | done | grind
theorem same_us_7 (sl : Nat) (regs : Int) (x : IrI) (h : insOk sl regs x) (hx : x.op = 7) : SameUs x := by
  obtain ⟨op, d, a, b, n, sym, args⟩ := x
  simp only at hx
  subst hx
  simp only [insOk, show irTab.getD (Int.toNat 7) 0 = 97 from rfl, show (97 : Int) % 4 = 1 from rfl, show (97 : Int) / 4 % 4 = 0 from rfl, show (97 : Int) / 16 % 2 = 0 from rfl] at h
  simp [regOk, numOk, List.length_eq_zero_iff] at h
  simp only [SameUs, usesD, setsD, usesL, setsL, show irTab.getD (Int.toNat 7) 0 = 97 from rfl, show (97 : Int) % 4 = 1 from rfl, show (97 : Int) / 4 % 4 = 0 from rfl, show (97 : Int) / 16 % 2 = 0 from rfl]
  simp
  first | done | grind
theorem same_us_8 (sl : Nat) (regs : Int) (x : IrI) (h : insOk sl regs x) (hx : x.op = 8) : SameUs x := by
  obtain ⟨op, d, a, b, n, sym, args⟩ := x
  simp only at hx
  subst hx
  simp only [insOk, show irTab.getD (Int.toNat 8) 0 = 33 from rfl, show (33 : Int) % 4 = 1 from rfl, show (33 : Int) / 4 % 4 = 0 from rfl, show (33 : Int) / 16 % 2 = 0 from rfl] at h
  simp [regOk, numOk, List.length_eq_zero_iff] at h
  simp only [SameUs, usesD, setsD, usesL, setsL, show irTab.getD (Int.toNat 8) 0 = 33 from rfl, show (33 : Int) % 4 = 1 from rfl, show (33 : Int) / 4 % 4 = 0 from rfl, show (33 : Int) / 16 % 2 = 0 from rfl]
  simp
  first | done | grind
theorem same_us_9 (sl : Nat) (regs : Int) (x : IrI) (h : insOk sl regs x) (hx : x.op = 9) : SameUs x := by
  obtain ⟨op, d, a, b, n, sym, args⟩ := x
  simp only at hx
  subst hx
  simp only [insOk, show irTab.getD (Int.toNat 9) 0 = 194 from rfl, show (194 : Int) % 4 = 2 from rfl, show (194 : Int) / 4 % 4 = 0 from rfl, show (194 : Int) / 16 % 2 = 0 from rfl] at h
  simp [regOk, numOk, List.length_eq_zero_iff] at h
  simp only [SameUs, usesD, setsD, usesL, setsL, show irTab.getD (Int.toNat 9) 0 = 194 from rfl, show (194 : Int) % 4 = 2 from rfl, show (194 : Int) / 4 % 4 = 0 from rfl, show (194 : Int) / 16 % 2 = 0 from rfl]
  simp
  first | done | grind
theorem same_us_10 (sl : Nat) (regs : Int) (x : IrI) (h : insOk sl regs x) (hx : x.op = 10) : SameUs x := by
  obtain ⟨op, d, a, b, n, sym, args⟩ := x
  simp only at hx
  subst hx
  simp only [insOk, show irTab.getD (Int.toNat 10) 0 = 134 from rfl, show (134 : Int) % 4 = 2 from rfl, show (134 : Int) / 4 % 4 = 1 from rfl, show (134 : Int) / 16 % 2 = 0 from rfl] at h
  simp [regOk, numOk, List.length_eq_zero_iff] at h
  simp only [SameUs, usesD, setsD, usesL, setsL, show irTab.getD (Int.toNat 10) 0 = 134 from rfl, show (134 : Int) % 4 = 2 from rfl, show (134 : Int) / 4 % 4 = 1 from rfl, show (134 : Int) / 16 % 2 = 0 from rfl]
  simp
  first | done | grind
theorem same_us_11 (sl : Nat) (regs : Int) (x : IrI) (h : insOk sl regs x) (hx : x.op = 11) : SameUs x := by
  obtain ⟨op, d, a, b, n, sym, args⟩ := x
  simp only at hx
  subst hx
  simp only [insOk, show irTab.getD (Int.toNat 11) 0 = 32 from rfl, show (32 : Int) % 4 = 0 from rfl, show (32 : Int) / 4 % 4 = 0 from rfl, show (32 : Int) / 16 % 2 = 0 from rfl] at h
  simp [regOk, numOk, List.length_eq_zero_iff] at h
  simp only [SameUs, usesD, setsD, usesL, setsL, show irTab.getD (Int.toNat 11) 0 = 32 from rfl, show (32 : Int) % 4 = 0 from rfl, show (32 : Int) / 4 % 4 = 0 from rfl, show (32 : Int) / 16 % 2 = 0 from rfl]
  simp
  first | done | grind
theorem same_us_12 (sl : Nat) (regs : Int) (x : IrI) (h : insOk sl regs x) (hx : x.op = 12) : SameUs x := by
  obtain ⟨op, d, a, b, n, sym, args⟩ := x
  simp only at hx
  subst hx
  simp only [insOk, show irTab.getD (Int.toNat 12) 0 = 32 from rfl, show (32 : Int) % 4 = 0 from rfl, show (32 : Int) / 4 % 4 = 0 from rfl, show (32 : Int) / 16 % 2 = 0 from rfl] at h
  simp [regOk, numOk, List.length_eq_zero_iff] at h
  simp only [SameUs, usesD, setsD, usesL, setsL, show irTab.getD (Int.toNat 12) 0 = 32 from rfl, show (32 : Int) % 4 = 0 from rfl, show (32 : Int) / 4 % 4 = 0 from rfl, show (32 : Int) / 16 % 2 = 0 from rfl]
  simp
  first | done | grind
theorem same_us_13 (sl : Nat) (regs : Int) (x : IrI) (h : insOk sl regs x) (hx : x.op = 13) : SameUs x := by
  obtain ⟨op, d, a, b, n, sym, args⟩ := x
  simp only at hx
  subst hx
  simp only [insOk, show irTab.getD (Int.toNat 13) 0 = 116 from rfl, show (116 : Int) % 4 = 0 from rfl, show (116 : Int) / 4 % 4 = 1 from rfl, show (116 : Int) / 16 % 2 = 1 from rfl] at h
  simp [regOk, numOk, List.length_eq_zero_iff] at h
  simp only [SameUs, usesD, setsD, usesL, setsL, show irTab.getD (Int.toNat 13) 0 = 116 from rfl, show (116 : Int) % 4 = 0 from rfl, show (116 : Int) / 4 % 4 = 1 from rfl, show (116 : Int) / 16 % 2 = 1 from rfl]
  simp
  first | done | grind
theorem same_us_14 (sl : Nat) (regs : Int) (x : IrI) (h : insOk sl regs x) (hx : x.op = 14) : SameUs x := by
  obtain ⟨op, d, a, b, n, sym, args⟩ := x
  simp only at hx
  subst hx
  simp only [insOk, show irTab.getD (Int.toNat 14) 0 = 8 from rfl, show (8 : Int) % 4 = 0 from rfl, show (8 : Int) / 4 % 4 = 2 from rfl, show (8 : Int) / 16 % 2 = 0 from rfl] at h
  simp [regOk, numOk, List.length_eq_zero_iff] at h
  simp only [SameUs, usesD, setsD, usesL, setsL, show irTab.getD (Int.toNat 14) 0 = 8 from rfl, show (8 : Int) % 4 = 0 from rfl, show (8 : Int) / 4 % 4 = 2 from rfl, show (8 : Int) / 16 % 2 = 0 from rfl]
  simp
  first | done | grind
theorem same_us_15 (sl : Nat) (regs : Int) (x : IrI) (h : insOk sl regs x) (hx : x.op = 15) : SameUs x := by
  obtain ⟨op, d, a, b, n, sym, args⟩ := x
  simp only at hx
  subst hx
  simp only [insOk, show irTab.getD (Int.toNat 15) 0 = 52 from rfl, show (52 : Int) % 4 = 0 from rfl, show (52 : Int) / 4 % 4 = 1 from rfl, show (52 : Int) / 16 % 2 = 1 from rfl] at h
  simp [regOk, numOk, List.length_eq_zero_iff] at h
  simp only [SameUs, usesD, setsD, usesL, setsL, show irTab.getD (Int.toNat 15) 0 = 52 from rfl, show (52 : Int) % 4 = 0 from rfl, show (52 : Int) / 4 % 4 = 1 from rfl, show (52 : Int) / 16 % 2 = 1 from rfl]
  simp
  first | done | grind
theorem same_us_16 (sl : Nat) (regs : Int) (x : IrI) (h : insOk sl regs x) (hx : x.op = 16) : SameUs x := by
  obtain ⟨op, d, a, b, n, sym, args⟩ := x
  simp only at hx
  subst hx
  simp only [insOk, show irTab.getD (Int.toNat 16) 0 = 36 from rfl, show (36 : Int) % 4 = 0 from rfl, show (36 : Int) / 4 % 4 = 1 from rfl, show (36 : Int) / 16 % 2 = 0 from rfl] at h
  simp [regOk, numOk, List.length_eq_zero_iff] at h
  simp only [SameUs, usesD, setsD, usesL, setsL, show irTab.getD (Int.toNat 16) 0 = 36 from rfl, show (36 : Int) % 4 = 0 from rfl, show (36 : Int) / 4 % 4 = 1 from rfl, show (36 : Int) / 16 % 2 = 0 from rfl]
  simp
  first | done | grind
theorem same_us {sl : Nat} {regs : Int} {x : IrI} (h : insOk sl regs x) : SameUs x := by
  have hx := h.1
  have e : x.op = 1 ∨ x.op = 2 ∨ x.op = 3 ∨ x.op = 4 ∨ x.op = 5 ∨ x.op = 6 ∨ x.op = 7 ∨ x.op = 8 ∨ x.op = 9 ∨ x.op = 10 ∨ x.op = 11 ∨ x.op = 12 ∨ x.op = 13 ∨ x.op = 14 ∨ x.op = 15 ∨ x.op = 16 := by omega
  rcases e with e | e | e | e | e | e | e | e | e | e | e | e | e | e | e | e
  · exact same_us_1 sl regs x h e
  · exact same_us_2 sl regs x h e
  · exact same_us_3 sl regs x h e
  · exact same_us_4 sl regs x h e
  · exact same_us_5 sl regs x h e
  · exact same_us_6 sl regs x h e
  · exact same_us_7 sl regs x h e
  · exact same_us_8 sl regs x h e
  · exact same_us_9 sl regs x h e
  · exact same_us_10 sl regs x h e
  · exact same_us_11 sl regs x h e
  · exact same_us_12 sl regs x h e
  · exact same_us_13 sl regs x h e
  · exact same_us_14 sl regs x h e
  · exact same_us_15 sl regs x h e
  · exact same_us_16 sl regs x h e
end Go.Proofs.YtcgfgmlfbgbkfaaGreatDoor.Pl
namespace Go.Proofs.YtcgfgmlfbgbkfaaGreatDoor.W
open Go.RowKit
set_option maxHeartbeats 1000000 in
theorem l3Ints_rowL {lo : Nat} (a : Option Addr) (len cap : Nat) (zs : List Int) (w : World) (h : Row .i64 lo w a len cap zs) (hsz : len ≤ 1048576) :
    Calls Tryz.prog 89 #[.slice a len cap] w fun e w' => ∃ a' cap', e = .returned (.slice a' len cap') ∧ Own .i64 3 w.heap.size w' a' len cap' zs ∧ Below w.heap.size w w' := by
  obtain ⟨i0, hi, hz0, hz1, hz2⟩ := info_parts Tryz.infoi64
  obtain ⟨hl, hlc, hcm, hwf, h5⟩ := h
  have HW : Hid (∀ n ∈ zs, (Lit.int .i64 n).wf = true) := hwf
  clear hwf
  have hE : (w.alloc (.cells #[] 3)).ownsRow w.heap.size 3 1 (.slice (some ⟨w.heap.size, 0, none⟩) 0 0) 0 [] := World.ownsRow_lit w #[] 0 (Nat.le_refl _) (Nat.zero_le _) rfl
  cases a with
  | none =>
    have h0 : len = 0 := by rcases h5 with h | ⟨b, off, hb, _⟩; exact h; cases hb
    subst h0
    have hz : zs = [] := by cases zs with | nil => rfl | cons => simp at hl
    subst hz
    clear hl h5
    go_enter Tryz.func89, Tryz.ntmps89
    go_wp2_with (at_builtin; refine wpList_append_noneA rfl (.tmp 5) (.tmp 6) 22 rfl w.heap.size 3 i0 1 cap Tryz.underlying22 hi _ 0 [] rfl hE rfl ?_)
    go_ret
    exact ⟨_, _, rfl, ⟨hE, fun n hn => (by cases hn)⟩, below_alloc _ _⟩
  | some ad =>
    have HN : Hid (∀ j u, (zs.map (Value.int .i64))[j]? = some u → (w.alloc (.cells #[] 3)).cell? (ad.add j) = some u) := fun j u hj => by
      have hjl : j < len := by
        have := (List.getElem?_eq_some_iff.1 hj).1
        rw [List.length_map] at this
        omega
      rcases h5 with h | ⟨b, off, hb, _, hlt, hc⟩
      · omega
      · cases hb
        have e1 : (⟨b, off, none⟩ : Addr).add j = ⟨b, off + j, none⟩ := by
          simp only [Addr.add]
          split <;> simp_all
        rw [e1, (below_alloc w _).cell (p := ⟨b, off + j, none⟩) hlt, hc j hjl, ← hj, List.getElem?_map, List.getElem?_eq_getElem (by omega), List.getD_eq_getElem?_getD, List.getElem?_eq_getElem (by omega)]
        rfl
    clear h5
    go_enter Tryz.func89, Tryz.ntmps89
    go_wp2_with (at_builtin; refine wpList_append_own _ rfl (.tmp 5) (.tmp 6) 22 rfl w.heap.size 3 i0 (.int .i64 0) 1 8 Tryz.underlying22 hi hz0 hz1 hz2 rfl (by decide) _ 0 [] rfl hE ad len cap (zs.map (Value.int .i64)) rfl (by rw [List.length_map, hl, Nat.mul_one]) HN.out (by intro u hu; obtain ⟨n, _, rfl⟩ := List.mem_map.1 hu; rfl) (by unfold maxLen; omega) (by omega) (by simp) ?_)
    intro v' u1 hown' hgr _
    have HO' : Hid (u1.ownsRow w.heap.size 3 1 v' len (zs.map (Value.int .i64))) := by show u1.ownsRow _ _ _ _ _ _; simpa using hown'
    have HB : Hid (Below w.heap.size w u1) := (below_alloc w _).grown hgr (by simp) (fun k hk => by simp [Value.ownBlock] at hk; omega)
    clear hown' hgr hE HN
    obtain ⟨a', c', hv⟩ : ∃ a' c', v' = .slice a' len c' := by
      rcases HO'.out.2 with ⟨q0, q1⟩ | ⟨g', c', _, q0, _⟩
      · subst q1; exact ⟨none, 0, q0⟩
      · exact ⟨_, c', q0⟩
    subst hv
    go_wp2
    go_ret
    exact ⟨a', c', rfl, ⟨HO'.out, HW.out⟩, HB.out⟩
set_option maxHeartbeats 2000000 in
set_option maxRecDepth 4000 in
theorem l11Sets_any (x : Pl.IrI) (q : SV) (h1 : 0 ≤ x.op) (h16 : x.op ≤ 16) (w : World) : Calls Tryz.prog 53 #[.agg #[.int .i64 x.op, .int .i64 x.d, .int .i64 x.a, .int .i64 x.b, .int .i64 x.n, .string x.sym, .slice q.a q.len q.cap]] w fun e w' => e = .returned (.int .i64 (Pl.setsD x)) ∧ Below w.heap.size w w' := by
  obtain ⟨o, d, a, b, n, sym, args⟩ := x
  obtain ⟨qa, ql, qc⟩ := q
  simp only at h1 h16 ⊢
  obtain ⟨op, rfl⟩ : ∃ op : Nat, o = op := ⟨o.toNat, by omega⟩
  have h16 : op ≤ 16 := by omega
  obtain ⟨uu, huu⟩ : ∃ uu, uu = Pl.irTab.getD op 0 := ⟨_, rfl⟩
  have hub := Pl.irTab_bd op h16
  rw [← huu] at hub
  have HUU : Hid (Pl.irTab.getD op 0 = uu) := huu.symm
  have hw1 : uu.tmod 4 = uu % 4 := Int.tmod_eq_emod_of_nonneg hub.1
  have hw2 : uu.tdiv 4 = uu / 4 := Int.tdiv_eq_ediv_of_nonneg hub.1
  have hw3 : (uu / 4).tmod 4 = uu / 4 % 4 := Int.tmod_eq_emod_of_nonneg (by omega)
  have hw4 : uu.tdiv 16 = uu / 16 := Int.tdiv_eq_ediv_of_nonneg hub.1
  have hw5 : (uu / 16).tmod 2 = uu / 16 % 2 := Int.tmod_eq_emod_of_nonneg (by omega)
  have hww2 : IntKind.i64.wrap (uu / 4) = uu / 4 := by rw [IntKind.wrap_i64]; omega
  have hww4 : IntKind.i64.wrap (uu / 16) = uu / 16 := by rw [IntKind.wrap_i64]; omega
  clear huu
  have HS : Hid (Pl.setsD ⟨(op : Int), d, a, b, n, sym, args⟩ = if uu % 4 = 0 then -1 else d) := by
    show Pl.setsD _ = _
    unfold Pl.setsD
    simp only [Int.toNat_natCast, HUU.out]
  by_cases e1 : uu % 4 = 0
  · have e2 : (uu % 4 == 0) = true := by rw [e1]; rfl
    rw [HS.out, if_pos e1]
    clear e1
    go_enter Tryz.func53, Tryz.ntmps53
    go_wp2_with fail
    refine ty_at fun u0 hu0 => ?_
    have H0 : Hid (Below w.heap.size w u0 ∧ u0.heap[w.heap.size]? = some (.cells #[.int .i64 (op : Int), .int .i64 d, .int .i64 a, .int .i64 b, .int .i64 n, .string sym, .slice qa ql qc] 81)) := by
      refine ⟨by rw [hu0]; exact below_alloc _ _, by rw [hu0]; exact heap_alloc_new w _⟩
    clear hu0
    refine (l10Fields_any op h16 u0).mono ?_
    rintro e u1 ⟨rfl, d1⟩
    rw [HUU.out]
    have H1 : Hid (Below w.heap.size w u1 ∧ u1.heap[w.heap.size]? = some (.cells #[.int .i64 (op : Int), .int .i64 d, .int .i64 a, .int .i64 b, .int .i64 n, .string sym, .slice qa ql qc] 81)) := ⟨H0.out.1.trans (d1.mono H0.out.1.size), (d1.block _ (Array.getElem?_eq_some_iff.1 H0.out.2).1).trans H0.out.2⟩
    have c1 : u1.cell? ⟨w.heap.size, 1, none⟩ = some (.int .i64 d) := by rw [cell_of_row u1 _ 1 _ _ (0, 0) H1.out.2]; rfl
    have c2 : u1.cell? ⟨w.heap.size, 2, none⟩ = some (.int .i64 a) := by rw [cell_of_row u1 _ 2 _ _ (0, 0) H1.out.2]; rfl
    have c3 : u1.cell? ⟨w.heap.size, 3, none⟩ = some (.int .i64 b) := by rw [cell_of_row u1 _ 3 _ _ (0, 0) H1.out.2]; rfl
    have c6 : u1.cell? ⟨w.heap.size, 6, none⟩ = some (.slice qa ql qc) := by rw [cell_of_row u1 _ 6 _ _ (0, 0) H1.out.2]; rfl
    clear d1
    go_wp2_with fail
    go_ret
    exact ⟨rfl, H1.out.1⟩
  · have e2 : (uu % 4 == 0) = false := by rw [beq_eq_false_iff_ne]; exact e1
    rw [HS.out, if_neg e1]
    clear e1
    go_enter Tryz.func53, Tryz.ntmps53
    go_wp2_with fail
    refine ty_at fun u0 hu0 => ?_
    have H0 : Hid (Below w.heap.size w u0 ∧ u0.heap[w.heap.size]? = some (.cells #[.int .i64 (op : Int), .int .i64 d, .int .i64 a, .int .i64 b, .int .i64 n, .string sym, .slice qa ql qc] 81)) := by
      refine ⟨by rw [hu0]; exact below_alloc _ _, by rw [hu0]; exact heap_alloc_new w _⟩
    clear hu0
    refine (l10Fields_any op h16 u0).mono ?_
    rintro e u1 ⟨rfl, d1⟩
    rw [HUU.out]
    have H1 : Hid (Below w.heap.size w u1 ∧ u1.heap[w.heap.size]? = some (.cells #[.int .i64 (op : Int), .int .i64 d, .int .i64 a, .int .i64 b, .int .i64 n, .string sym, .slice qa ql qc] 81)) := ⟨H0.out.1.trans (d1.mono H0.out.1.size), (d1.block _ (Array.getElem?_eq_some_iff.1 H0.out.2).1).trans H0.out.2⟩
    have c1 : u1.cell? ⟨w.heap.size, 1, none⟩ = some (.int .i64 d) := by rw [cell_of_row u1 _ 1 _ _ (0, 0) H1.out.2]; rfl
    have c2 : u1.cell? ⟨w.heap.size, 2, none⟩ = some (.int .i64 a) := by rw [cell_of_row u1 _ 2 _ _ (0, 0) H1.out.2]; rfl
    have c3 : u1.cell? ⟨w.heap.size, 3, none⟩ = some (.int .i64 b) := by rw [cell_of_row u1 _ 3 _ _ (0, 0) H1.out.2]; rfl
    have c6 : u1.cell? ⟨w.heap.size, 6, none⟩ = some (.slice qa ql qc) := by rw [cell_of_row u1 _ 6 _ _ (0, 0) H1.out.2]; rfl
    clear d1
    go_wp2_with fail
    go_ret
    exact ⟨rfl, H1.out.1⟩
theorem own_shapeL {base : Nat} {e : TypeId} {k : Nat} {v : Value} {n : Nat} {xs : List Value} {w : World} (h : w.ownsRow base e k v n xs) : ∃ (a : Option Addr) (c : Nat), v = .slice a n c := by
  rcases h.2 with ⟨q, q2⟩ | ⟨g, cap, cur, h0, _⟩
  · exact ⟨none, 0, by rw [q, q2]⟩
  · exact ⟨_, cap, h0⟩
theorem own_lowL {base base' : Nat} {e : TypeId} {k : Nat} {v : Value} {n : Nat} {xs : List Value} {w : World} (h : w.ownsRow base e k v n xs) (hl : base' ≤ base) : w.ownsRow base' e k v n xs := by
  refine ⟨h.1, ?_⟩
  rcases h.2 with q | ⟨g, cap, cur, h0, hlo, r⟩
  · exact .inl q
  · exact .inr ⟨g, cap, cur, h0, Nat.le_trans hl hlo, r⟩
theorem one_newsL (w : World) (A : Value) (t : TypeId) (j : Nat) (u : Value) (hj : [A][j]? = some u) : (w.alloc (.cells #[A] t)).cell? ((⟨w.heap.size, 0, none⟩ : Addr).add j) = some u := by
  cases j with
  | zero => exact World.news_of_block (heap_alloc_new w (.cells #[A] t)) 0 u hj
  | succ j => simp at hj
set_option maxHeartbeats 4000000 in
set_option maxRecDepth 8000 in
theorem l11Uses_any {lo : Nat} (x : Pl.IrI) (q : SV) (h1 : 0 ≤ x.op) (h16 : x.op ≤ 16) (w : World) (hq : Row .i64 lo w q.a q.len q.cap x.args) (hs : q.len ≤ 8) : Calls Tryz.prog 52 #[.agg #[.int .i64 x.op, .int .i64 x.d, .int .i64 x.a, .int .i64 x.b, .int .i64 x.n, .string x.sym, .slice q.a q.len q.cap]] w fun e w' => Ints w.heap.size (Pl.usesD x) e w' ∧ Below w.heap.size w w' := by
  obtain ⟨i0, hi, hz0, hz1, hz2⟩ := info_parts Tryz.infoi64
  have HI : Hid (_ ∧ _ ∧ _ ∧ _) := ⟨hi, hz0, hz1, hz2⟩
  clear hi hz0 hz1 hz2
  obtain ⟨o, d, a, b, n, sym, args⟩ := x
  obtain ⟨qa, ql, qc⟩ := q
  simp only at h1 h16 hq hs ⊢
  obtain ⟨op, rfl⟩ : ∃ op : Nat, o = op := ⟨o.toNat, by omega⟩
  have h16 : op ≤ 16 := by omega
  obtain ⟨uu, huu⟩ : ∃ uu, uu = Pl.irTab.getD op 0 := ⟨_, rfl⟩
  have hub := Pl.irTab_bd op h16
  rw [← huu] at hub
  have HUU : Hid (Pl.irTab.getD op 0 = uu) := huu.symm
  have hw1 : uu.tmod 4 = uu % 4 := Int.tmod_eq_emod_of_nonneg hub.1
  have hw2 : uu.tdiv 4 = uu / 4 := Int.tdiv_eq_ediv_of_nonneg hub.1
  have hw3 : (uu / 4).tmod 4 = uu / 4 % 4 := Int.tmod_eq_emod_of_nonneg (by omega)
  have hw4 : uu.tdiv 16 = uu / 16 := Int.tdiv_eq_ediv_of_nonneg hub.1
  have hw5 : (uu / 16).tmod 2 = uu / 16 % 2 := Int.tmod_eq_emod_of_nonneg (by omega)
  have hww2 : IntKind.i64.wrap (uu / 4) = uu / 4 := by rw [IntKind.wrap_i64]; omega
  have hww4 : IntKind.i64.wrap (uu / 16) = uu / 16 := by rw [IntKind.wrap_i64]; omega
  clear huu
  have hal : args.length ≤ 8 := by rw [hq.1]; exact hs
  have HQ : Hid (Row .i64 lo w qa ql qc args ∧ args.length = ql) := ⟨hq, hq.1⟩
  clear hq
  have HS : Hid (Pl.usesD ⟨(op : Int), d, a, b, n, sym, args⟩ = args ++ (if 0 < uu / 4 % 4 ∧ 0 ≤ a then [a] else []) ++ (if uu / 16 % 2 = 1 then [b] else [])) := by
    show Pl.usesD _ = _
    unfold Pl.usesD
    simp only [Int.toNat_natCast, HUU.out]
  rw [HS.out]
  clear HS
  obtain ⟨res, hres⟩ : ∃ res, res = args ++ (if 0 < uu / 4 % 4 ∧ 0 ≤ a then [a] else []) ++ (if uu / 16 % 2 = 1 then [b] else []) := ⟨_, rfl⟩
  rw [← hres]
  have HR : Hid (res = args ++ (if 0 < uu / 4 % 4 ∧ 0 ≤ a then [a] else []) ++ (if uu / 16 % 2 = 1 then [b] else [])) := hres
  clear hres
  by_cases p1 : 0 < uu / 4 % 4
  · by_cases p2 : 0 ≤ a
    · by_cases p3 : uu / 16 % 2 = 1
      · have e1 : decide (0 < uu / 4 % 4) = true := decide_eq_true p1
        have e2 : decide (0 ≤ a) = true := decide_eq_true p2
        have e3 : (uu / 16 % 2 == 1) = true := by rw [p3]; rfl
        go_enter Tryz.func52, Tryz.ntmps52
        go_wp2_with fail
        refine ty_at fun u0 hu0 => ?_
        have HX0 : Hid (Below w.heap.size w u0 ∧ u0.heap[w.heap.size]? = some (.cells #[.int .i64 (op : Int), .int .i64 d, .int .i64 a, .int .i64 b, .int .i64 n, .string sym, .slice qa ql qc] 81) ∧ u0.heap.size = w.heap.size + 1) := by
          refine ⟨by rw [hu0]; exact below_alloc _ _, by rw [hu0]; exact heap_alloc_new w _, by rw [hu0]; simp⟩
        clear hu0
        refine (l10Fields_any op h16 u0).mono ?_
        rintro e u1 ⟨rfl, d1⟩
        rw [HUU.out]
        have H1 : Hid (Below (w.heap.size + 1) u0 u1 ∧ u1.heap[w.heap.size]? = some (.cells #[.int .i64 (op : Int), .int .i64 d, .int .i64 a, .int .i64 b, .int .i64 n, .string sym, .slice qa ql qc] 81) ∧ w.heap.size + 1 ≤ u1.heap.size) := by
          have q : Below (w.heap.size + 1) u0 u1 := d1.mono (by have := HX0.out.2.2; omega)
          exact ⟨q, (q.block _ (by omega)).trans HX0.out.2.1, by have := q.size; have := HX0.out.2.2; omega⟩
        have c6 : u1.cell? ⟨w.heap.size, 6, none⟩ = some (.slice qa ql qc) := by rw [cell_of_row u1 _ 6 _ _ (0, 0) H1.out.2.1]; rfl
        clear d1
        go_wp2_with fail
        refine (l3Ints_rowL qa ql qc args u1 (HQ.out.1.keep (HX0.out.1.trans (H1.out.1.mono (by omega)))) (by omega)).mono ?_
        rintro e u2 ⟨a2, cp2, rfl, o2, d2⟩
        have O2 : Hid (u2.ownsRow (w.heap.size + 1) 3 1 (.slice a2 args.length cp2) args.length (args.map (Value.int .i64))) := by
          have := (o2.lower (lo' := w.heap.size + 1) H1.out.2.2).1
          rw [← HQ.out.2] at this; exact this
        have H2 : Hid (Below (w.heap.size + 1) u0 u2 ∧ u2.heap[w.heap.size]? = some (.cells #[.int .i64 (op : Int), .int .i64 d, .int .i64 a, .int .i64 b, .int .i64 n, .string sym, .slice qa ql qc] 81) ∧ w.heap.size + 1 ≤ u2.heap.size) := by
          have q : Below (w.heap.size + 1) u0 u2 := H1.out.1.trans (d2.mono H1.out.2.2)
          exact ⟨q, (q.block _ (by omega)).trans HX0.out.2.1, by have := q.size; have := HX0.out.2.2; omega⟩
        rw [← HQ.out.2]
        clear o2 d2 c6
        have c2 : u2.cell? ⟨w.heap.size, 2, none⟩ = some (.int .i64 a) := by rw [cell_of_row u2 _ 2 _ _ (0, 0) H2.out.2.1]; rfl
        have c3 : u2.cell? ⟨w.heap.size, 3, none⟩ = some (.int .i64 b) := by rw [cell_of_row u2 _ 3 _ _ (0, 0) H2.out.2.1]; rfl
        go_wp2_with (at_builtin; refine wpList_append_own _ rfl (.tmp 20) (.tmp 23) 22 rfl (w.heap.size + 1) 3 i0 (.int .i64 0) 1 8 Tryz.underlying22 HI.out.1 HI.out.2.1 HI.out.2.2.1 HI.out.2.2.2 rfl (by decide) _ args.length (args.map (Value.int .i64)) rfl (World.ownsRow.alloc O2.out _) ⟨u2.heap.size, 0, none⟩ 1 1 [.int .i64 a] rfl rfl (one_newsL u2 _ _) (by intro u hu; simp at hu; subst hu; rfl) (by unfold maxLen; simp; omega) (by omega) (by have := H2.out.1.size; have := H2.out.2.2; simp; omega) ?_)
        intro v' u3 hown' hgr _
        have O3 : Hid (u3.ownsRow (w.heap.size + 1) 3 1 v' (args ++ [a]).length ((args ++ [a]).map (Value.int .i64))) := by rw [List.map_append, List.length_append]; exact hown'
        have H3 : Hid (Below (w.heap.size + 1) u0 u3 ∧ u3.heap[w.heap.size]? = some (.cells #[.int .i64 (op : Int), .int .i64 d, .int .i64 a, .int .i64 b, .int .i64 n, .string sym, .slice qa ql qc] 81) ∧ w.heap.size + 1 ≤ u3.heap.size) := by
          have q : Below (w.heap.size + 1) u0 u3 := (H2.out.1.trans ((below_alloc u2 _).mono (by have := H2.out.2.2; omega))).grown hgr (by have := H2.out.2.2; simp; omega) (fun k hk => (O2.out.lt k hk).1)
          exact ⟨q, (q.block _ (by omega)).trans HX0.out.2.1, by have := q.size; have := HX0.out.2.2; omega⟩
        clear hown' hgr
        obtain ⟨ys0, hys0⟩ : ∃ ys, ys = args ++ [a] := ⟨_, rfl⟩
        have hyl0 : ys0.length ≤ 9 := by rw [hys0]; simp; omega
        rw [← hys0] at O3
        have HY0 : Hid (ys0 = args ++ [a]) := hys0
        clear hys0
        obtain ⟨_, _, hv4⟩ := own_shapeL O3.out
        subst hv4
        have c2 : u3.cell? ⟨w.heap.size, 2, none⟩ = some (.int .i64 a) := by rw [cell_of_row u3 _ 2 _ _ (0, 0) H3.out.2.1]; rfl
        have c3 : u3.cell? ⟨w.heap.size, 3, none⟩ = some (.int .i64 b) := by rw [cell_of_row u3 _ 3 _ _ (0, 0) H3.out.2.1]; rfl
        go_wp2_with (at_builtin; refine wpList_append_own _ rfl (.tmp 29) (.tmp 32) 22 rfl (w.heap.size + 1) 3 i0 (.int .i64 0) 1 8 Tryz.underlying22 HI.out.1 HI.out.2.1 HI.out.2.2.1 HI.out.2.2.2 rfl (by decide) _ ys0.length (ys0.map (Value.int .i64)) rfl (World.ownsRow.alloc O3.out _) ⟨u3.heap.size, 0, none⟩ 1 1 [.int .i64 b] rfl rfl (one_newsL u3 _ _) (by intro u hu; simp at hu; subst hu; rfl) (by unfold maxLen; simp; omega) (by omega) (by have := H3.out.1.size; have := H3.out.2.2; simp; omega) ?_)
        intro v' u4 hown' hgr _
        have O4 : Hid (u4.ownsRow (w.heap.size + 1) 3 1 v' (ys0 ++ [b]).length ((ys0 ++ [b]).map (Value.int .i64))) := by rw [List.map_append, List.length_append]; exact hown'
        have H4 : Hid (Below (w.heap.size + 1) u0 u4 ∧ u4.heap[w.heap.size]? = some (.cells #[.int .i64 (op : Int), .int .i64 d, .int .i64 a, .int .i64 b, .int .i64 n, .string sym, .slice qa ql qc] 81) ∧ w.heap.size + 1 ≤ u4.heap.size) := by
          have q : Below (w.heap.size + 1) u0 u4 := (H3.out.1.trans ((below_alloc u3 _).mono (by have := H3.out.2.2; omega))).grown hgr (by have := H3.out.2.2; simp; omega) (fun k hk => (O3.out.lt k hk).1)
          exact ⟨q, (q.block _ (by omega)).trans HX0.out.2.1, by have := q.size; have := HX0.out.2.2; omega⟩
        clear hown' hgr
        obtain ⟨ys1, hys1⟩ : ∃ ys, ys = ys0 ++ [b] := ⟨_, rfl⟩
        have hyl1 : ys1.length ≤ 10 := by rw [hys1]; simp; omega
        rw [← hys1] at O4
        have HY1 : Hid (ys1 = ys0 ++ [b]) := hys1
        clear hys1
        obtain ⟨_, _, hv4⟩ := own_shapeL O4.out
        subst hv4
        have c2 : u4.cell? ⟨w.heap.size, 2, none⟩ = some (.int .i64 a) := by rw [cell_of_row u4 _ 2 _ _ (0, 0) H4.out.2.1]; rfl
        have c3 : u4.cell? ⟨w.heap.size, 3, none⟩ = some (.int .i64 b) := by rw [cell_of_row u4 _ 3 _ _ (0, 0) H4.out.2.1]; rfl
        go_wp2_with fail
        go_ret
        have q : Below w.heap.size w u4 := HX0.out.1.trans (H4.out.1.mono (by omega))
        refine ⟨?_, q⟩
        rw [show res = ys1 from by rw [HR.out]; rw [HY1.out]; rw [HY0.out]; simp [p1, p2, p3]]
        exact ⟨_, _, rfl, own_lowL O4.out (by omega)⟩
      · have e1 : decide (0 < uu / 4 % 4) = true := decide_eq_true p1
        have e2 : decide (0 ≤ a) = true := decide_eq_true p2
        have e3 : (uu / 16 % 2 == 1) = false := by rw [beq_eq_false_iff_ne]; exact p3
        go_enter Tryz.func52, Tryz.ntmps52
        go_wp2_with fail
        refine ty_at fun u0 hu0 => ?_
        have HX0 : Hid (Below w.heap.size w u0 ∧ u0.heap[w.heap.size]? = some (.cells #[.int .i64 (op : Int), .int .i64 d, .int .i64 a, .int .i64 b, .int .i64 n, .string sym, .slice qa ql qc] 81) ∧ u0.heap.size = w.heap.size + 1) := by
          refine ⟨by rw [hu0]; exact below_alloc _ _, by rw [hu0]; exact heap_alloc_new w _, by rw [hu0]; simp⟩
        clear hu0
        refine (l10Fields_any op h16 u0).mono ?_
        rintro e u1 ⟨rfl, d1⟩
        rw [HUU.out]
        have H1 : Hid (Below (w.heap.size + 1) u0 u1 ∧ u1.heap[w.heap.size]? = some (.cells #[.int .i64 (op : Int), .int .i64 d, .int .i64 a, .int .i64 b, .int .i64 n, .string sym, .slice qa ql qc] 81) ∧ w.heap.size + 1 ≤ u1.heap.size) := by
          have q : Below (w.heap.size + 1) u0 u1 := d1.mono (by have := HX0.out.2.2; omega)
          exact ⟨q, (q.block _ (by omega)).trans HX0.out.2.1, by have := q.size; have := HX0.out.2.2; omega⟩
        have c6 : u1.cell? ⟨w.heap.size, 6, none⟩ = some (.slice qa ql qc) := by rw [cell_of_row u1 _ 6 _ _ (0, 0) H1.out.2.1]; rfl
        clear d1
        go_wp2_with fail
        refine (l3Ints_rowL qa ql qc args u1 (HQ.out.1.keep (HX0.out.1.trans (H1.out.1.mono (by omega)))) (by omega)).mono ?_
        rintro e u2 ⟨a2, cp2, rfl, o2, d2⟩
        have O2 : Hid (u2.ownsRow (w.heap.size + 1) 3 1 (.slice a2 args.length cp2) args.length (args.map (Value.int .i64))) := by
          have := (o2.lower (lo' := w.heap.size + 1) H1.out.2.2).1
          rw [← HQ.out.2] at this; exact this
        have H2 : Hid (Below (w.heap.size + 1) u0 u2 ∧ u2.heap[w.heap.size]? = some (.cells #[.int .i64 (op : Int), .int .i64 d, .int .i64 a, .int .i64 b, .int .i64 n, .string sym, .slice qa ql qc] 81) ∧ w.heap.size + 1 ≤ u2.heap.size) := by
          have q : Below (w.heap.size + 1) u0 u2 := H1.out.1.trans (d2.mono H1.out.2.2)
          exact ⟨q, (q.block _ (by omega)).trans HX0.out.2.1, by have := q.size; have := HX0.out.2.2; omega⟩
        rw [← HQ.out.2]
        clear o2 d2 c6
        have c2 : u2.cell? ⟨w.heap.size, 2, none⟩ = some (.int .i64 a) := by rw [cell_of_row u2 _ 2 _ _ (0, 0) H2.out.2.1]; rfl
        have c3 : u2.cell? ⟨w.heap.size, 3, none⟩ = some (.int .i64 b) := by rw [cell_of_row u2 _ 3 _ _ (0, 0) H2.out.2.1]; rfl
        go_wp2_with (at_builtin; refine wpList_append_own _ rfl (.tmp 20) (.tmp 23) 22 rfl (w.heap.size + 1) 3 i0 (.int .i64 0) 1 8 Tryz.underlying22 HI.out.1 HI.out.2.1 HI.out.2.2.1 HI.out.2.2.2 rfl (by decide) _ args.length (args.map (Value.int .i64)) rfl (World.ownsRow.alloc O2.out _) ⟨u2.heap.size, 0, none⟩ 1 1 [.int .i64 a] rfl rfl (one_newsL u2 _ _) (by intro u hu; simp at hu; subst hu; rfl) (by unfold maxLen; simp; omega) (by omega) (by have := H2.out.1.size; have := H2.out.2.2; simp; omega) ?_)
        intro v' u3 hown' hgr _
        have O3 : Hid (u3.ownsRow (w.heap.size + 1) 3 1 v' (args ++ [a]).length ((args ++ [a]).map (Value.int .i64))) := by rw [List.map_append, List.length_append]; exact hown'
        have H3 : Hid (Below (w.heap.size + 1) u0 u3 ∧ u3.heap[w.heap.size]? = some (.cells #[.int .i64 (op : Int), .int .i64 d, .int .i64 a, .int .i64 b, .int .i64 n, .string sym, .slice qa ql qc] 81) ∧ w.heap.size + 1 ≤ u3.heap.size) := by
          have q : Below (w.heap.size + 1) u0 u3 := (H2.out.1.trans ((below_alloc u2 _).mono (by have := H2.out.2.2; omega))).grown hgr (by have := H2.out.2.2; simp; omega) (fun k hk => (O2.out.lt k hk).1)
          exact ⟨q, (q.block _ (by omega)).trans HX0.out.2.1, by have := q.size; have := HX0.out.2.2; omega⟩
        clear hown' hgr
        obtain ⟨ys0, hys0⟩ : ∃ ys, ys = args ++ [a] := ⟨_, rfl⟩
        have hyl0 : ys0.length ≤ 9 := by rw [hys0]; simp; omega
        rw [← hys0] at O3
        have HY0 : Hid (ys0 = args ++ [a]) := hys0
        clear hys0
        obtain ⟨_, _, hv4⟩ := own_shapeL O3.out
        subst hv4
        have c2 : u3.cell? ⟨w.heap.size, 2, none⟩ = some (.int .i64 a) := by rw [cell_of_row u3 _ 2 _ _ (0, 0) H3.out.2.1]; rfl
        have c3 : u3.cell? ⟨w.heap.size, 3, none⟩ = some (.int .i64 b) := by rw [cell_of_row u3 _ 3 _ _ (0, 0) H3.out.2.1]; rfl
        go_wp2_with fail
        go_ret
        have q : Below w.heap.size w u3 := HX0.out.1.trans (H3.out.1.mono (by omega))
        refine ⟨?_, q⟩
        rw [show res = ys0 from by rw [HR.out]; rw [HY0.out]; simp [p1, p2, p3]]
        exact ⟨_, _, rfl, own_lowL O3.out (by omega)⟩
    · by_cases p3 : uu / 16 % 2 = 1
      · have e1 : decide (0 < uu / 4 % 4) = true := decide_eq_true p1
        have e2 : decide (0 ≤ a) = false := decide_eq_false p2
        have e3 : (uu / 16 % 2 == 1) = true := by rw [p3]; rfl
        go_enter Tryz.func52, Tryz.ntmps52
        go_wp2_with fail
        refine ty_at fun u0 hu0 => ?_
        have HX0 : Hid (Below w.heap.size w u0 ∧ u0.heap[w.heap.size]? = some (.cells #[.int .i64 (op : Int), .int .i64 d, .int .i64 a, .int .i64 b, .int .i64 n, .string sym, .slice qa ql qc] 81) ∧ u0.heap.size = w.heap.size + 1) := by
          refine ⟨by rw [hu0]; exact below_alloc _ _, by rw [hu0]; exact heap_alloc_new w _, by rw [hu0]; simp⟩
        clear hu0
        refine (l10Fields_any op h16 u0).mono ?_
        rintro e u1 ⟨rfl, d1⟩
        rw [HUU.out]
        have H1 : Hid (Below (w.heap.size + 1) u0 u1 ∧ u1.heap[w.heap.size]? = some (.cells #[.int .i64 (op : Int), .int .i64 d, .int .i64 a, .int .i64 b, .int .i64 n, .string sym, .slice qa ql qc] 81) ∧ w.heap.size + 1 ≤ u1.heap.size) := by
          have q : Below (w.heap.size + 1) u0 u1 := d1.mono (by have := HX0.out.2.2; omega)
          exact ⟨q, (q.block _ (by omega)).trans HX0.out.2.1, by have := q.size; have := HX0.out.2.2; omega⟩
        have c6 : u1.cell? ⟨w.heap.size, 6, none⟩ = some (.slice qa ql qc) := by rw [cell_of_row u1 _ 6 _ _ (0, 0) H1.out.2.1]; rfl
        clear d1
        go_wp2_with fail
        refine (l3Ints_rowL qa ql qc args u1 (HQ.out.1.keep (HX0.out.1.trans (H1.out.1.mono (by omega)))) (by omega)).mono ?_
        rintro e u2 ⟨a2, cp2, rfl, o2, d2⟩
        have O2 : Hid (u2.ownsRow (w.heap.size + 1) 3 1 (.slice a2 args.length cp2) args.length (args.map (Value.int .i64))) := by
          have := (o2.lower (lo' := w.heap.size + 1) H1.out.2.2).1
          rw [← HQ.out.2] at this; exact this
        have H2 : Hid (Below (w.heap.size + 1) u0 u2 ∧ u2.heap[w.heap.size]? = some (.cells #[.int .i64 (op : Int), .int .i64 d, .int .i64 a, .int .i64 b, .int .i64 n, .string sym, .slice qa ql qc] 81) ∧ w.heap.size + 1 ≤ u2.heap.size) := by
          have q : Below (w.heap.size + 1) u0 u2 := H1.out.1.trans (d2.mono H1.out.2.2)
          exact ⟨q, (q.block _ (by omega)).trans HX0.out.2.1, by have := q.size; have := HX0.out.2.2; omega⟩
        rw [← HQ.out.2]
        clear o2 d2 c6
        have c2 : u2.cell? ⟨w.heap.size, 2, none⟩ = some (.int .i64 a) := by rw [cell_of_row u2 _ 2 _ _ (0, 0) H2.out.2.1]; rfl
        have c3 : u2.cell? ⟨w.heap.size, 3, none⟩ = some (.int .i64 b) := by rw [cell_of_row u2 _ 3 _ _ (0, 0) H2.out.2.1]; rfl
        go_wp2_with (at_builtin; refine wpList_append_own _ rfl (.tmp 29) (.tmp 32) 22 rfl (w.heap.size + 1) 3 i0 (.int .i64 0) 1 8 Tryz.underlying22 HI.out.1 HI.out.2.1 HI.out.2.2.1 HI.out.2.2.2 rfl (by decide) _ args.length (args.map (Value.int .i64)) rfl (World.ownsRow.alloc O2.out _) ⟨u2.heap.size, 0, none⟩ 1 1 [.int .i64 b] rfl rfl (one_newsL u2 _ _) (by intro u hu; simp at hu; subst hu; rfl) (by unfold maxLen; simp; omega) (by omega) (by have := H2.out.1.size; have := H2.out.2.2; simp; omega) ?_)
        intro v' u4 hown' hgr _
        have O4 : Hid (u4.ownsRow (w.heap.size + 1) 3 1 v' (args ++ [b]).length ((args ++ [b]).map (Value.int .i64))) := by rw [List.map_append, List.length_append]; exact hown'
        have H4 : Hid (Below (w.heap.size + 1) u0 u4 ∧ u4.heap[w.heap.size]? = some (.cells #[.int .i64 (op : Int), .int .i64 d, .int .i64 a, .int .i64 b, .int .i64 n, .string sym, .slice qa ql qc] 81) ∧ w.heap.size + 1 ≤ u4.heap.size) := by
          have q : Below (w.heap.size + 1) u0 u4 := (H2.out.1.trans ((below_alloc u2 _).mono (by have := H2.out.2.2; omega))).grown hgr (by have := H2.out.2.2; simp; omega) (fun k hk => (O2.out.lt k hk).1)
          exact ⟨q, (q.block _ (by omega)).trans HX0.out.2.1, by have := q.size; have := HX0.out.2.2; omega⟩
        clear hown' hgr
        obtain ⟨ys1, hys1⟩ : ∃ ys, ys = args ++ [b] := ⟨_, rfl⟩
        have hyl1 : ys1.length ≤ 10 := by rw [hys1]; simp; omega
        rw [← hys1] at O4
        have HY1 : Hid (ys1 = args ++ [b]) := hys1
        clear hys1
        obtain ⟨_, _, hv4⟩ := own_shapeL O4.out
        subst hv4
        have c2 : u4.cell? ⟨w.heap.size, 2, none⟩ = some (.int .i64 a) := by rw [cell_of_row u4 _ 2 _ _ (0, 0) H4.out.2.1]; rfl
        have c3 : u4.cell? ⟨w.heap.size, 3, none⟩ = some (.int .i64 b) := by rw [cell_of_row u4 _ 3 _ _ (0, 0) H4.out.2.1]; rfl
        go_wp2_with fail
        go_ret
        have q : Below w.heap.size w u4 := HX0.out.1.trans (H4.out.1.mono (by omega))
        refine ⟨?_, q⟩
        rw [show res = ys1 from by rw [HR.out]; rw [HY1.out]; simp [p1, p2, p3]]
        exact ⟨_, _, rfl, own_lowL O4.out (by omega)⟩
      · have e1 : decide (0 < uu / 4 % 4) = true := decide_eq_true p1
        have e2 : decide (0 ≤ a) = false := decide_eq_false p2
        have e3 : (uu / 16 % 2 == 1) = false := by rw [beq_eq_false_iff_ne]; exact p3
        go_enter Tryz.func52, Tryz.ntmps52
        go_wp2_with fail
        refine ty_at fun u0 hu0 => ?_
        have HX0 : Hid (Below w.heap.size w u0 ∧ u0.heap[w.heap.size]? = some (.cells #[.int .i64 (op : Int), .int .i64 d, .int .i64 a, .int .i64 b, .int .i64 n, .string sym, .slice qa ql qc] 81) ∧ u0.heap.size = w.heap.size + 1) := by
          refine ⟨by rw [hu0]; exact below_alloc _ _, by rw [hu0]; exact heap_alloc_new w _, by rw [hu0]; simp⟩
        clear hu0
        refine (l10Fields_any op h16 u0).mono ?_
        rintro e u1 ⟨rfl, d1⟩
        rw [HUU.out]
        have H1 : Hid (Below (w.heap.size + 1) u0 u1 ∧ u1.heap[w.heap.size]? = some (.cells #[.int .i64 (op : Int), .int .i64 d, .int .i64 a, .int .i64 b, .int .i64 n, .string sym, .slice qa ql qc] 81) ∧ w.heap.size + 1 ≤ u1.heap.size) := by
          have q : Below (w.heap.size + 1) u0 u1 := d1.mono (by have := HX0.out.2.2; omega)
          exact ⟨q, (q.block _ (by omega)).trans HX0.out.2.1, by have := q.size; have := HX0.out.2.2; omega⟩
        have c6 : u1.cell? ⟨w.heap.size, 6, none⟩ = some (.slice qa ql qc) := by rw [cell_of_row u1 _ 6 _ _ (0, 0) H1.out.2.1]; rfl
        clear d1
        go_wp2_with fail
        refine (l3Ints_rowL qa ql qc args u1 (HQ.out.1.keep (HX0.out.1.trans (H1.out.1.mono (by omega)))) (by omega)).mono ?_
        rintro e u2 ⟨a2, cp2, rfl, o2, d2⟩
        have O2 : Hid (u2.ownsRow (w.heap.size + 1) 3 1 (.slice a2 args.length cp2) args.length (args.map (Value.int .i64))) := by
          have := (o2.lower (lo' := w.heap.size + 1) H1.out.2.2).1
          rw [← HQ.out.2] at this; exact this
        have H2 : Hid (Below (w.heap.size + 1) u0 u2 ∧ u2.heap[w.heap.size]? = some (.cells #[.int .i64 (op : Int), .int .i64 d, .int .i64 a, .int .i64 b, .int .i64 n, .string sym, .slice qa ql qc] 81) ∧ w.heap.size + 1 ≤ u2.heap.size) := by
          have q : Below (w.heap.size + 1) u0 u2 := H1.out.1.trans (d2.mono H1.out.2.2)
          exact ⟨q, (q.block _ (by omega)).trans HX0.out.2.1, by have := q.size; have := HX0.out.2.2; omega⟩
        rw [← HQ.out.2]
        clear o2 d2 c6
        have c2 : u2.cell? ⟨w.heap.size, 2, none⟩ = some (.int .i64 a) := by rw [cell_of_row u2 _ 2 _ _ (0, 0) H2.out.2.1]; rfl
        have c3 : u2.cell? ⟨w.heap.size, 3, none⟩ = some (.int .i64 b) := by rw [cell_of_row u2 _ 3 _ _ (0, 0) H2.out.2.1]; rfl
        go_wp2_with fail
        go_ret
        have q : Below w.heap.size w u2 := HX0.out.1.trans (H2.out.1.mono (by omega))
        refine ⟨?_, q⟩
        rw [show res = args from by rw [HR.out]; simp [p1, p2, p3]]
        exact ⟨_, _, rfl, own_lowL O2.out (by omega)⟩
  · by_cases p3 : uu / 16 % 2 = 1
    · have e1 : decide (0 < uu / 4 % 4) = false := decide_eq_false p1
      have e3 : (uu / 16 % 2 == 1) = true := by rw [p3]; rfl
      go_enter Tryz.func52, Tryz.ntmps52
      go_wp2_with fail
      refine ty_at fun u0 hu0 => ?_
      have HX0 : Hid (Below w.heap.size w u0 ∧ u0.heap[w.heap.size]? = some (.cells #[.int .i64 (op : Int), .int .i64 d, .int .i64 a, .int .i64 b, .int .i64 n, .string sym, .slice qa ql qc] 81) ∧ u0.heap.size = w.heap.size + 1) := by
        refine ⟨by rw [hu0]; exact below_alloc _ _, by rw [hu0]; exact heap_alloc_new w _, by rw [hu0]; simp⟩
      clear hu0
      refine (l10Fields_any op h16 u0).mono ?_
      rintro e u1 ⟨rfl, d1⟩
      rw [HUU.out]
      have H1 : Hid (Below (w.heap.size + 1) u0 u1 ∧ u1.heap[w.heap.size]? = some (.cells #[.int .i64 (op : Int), .int .i64 d, .int .i64 a, .int .i64 b, .int .i64 n, .string sym, .slice qa ql qc] 81) ∧ w.heap.size + 1 ≤ u1.heap.size) := by
        have q : Below (w.heap.size + 1) u0 u1 := d1.mono (by have := HX0.out.2.2; omega)
        exact ⟨q, (q.block _ (by omega)).trans HX0.out.2.1, by have := q.size; have := HX0.out.2.2; omega⟩
      have c6 : u1.cell? ⟨w.heap.size, 6, none⟩ = some (.slice qa ql qc) := by rw [cell_of_row u1 _ 6 _ _ (0, 0) H1.out.2.1]; rfl
      clear d1
      go_wp2_with fail
      refine (l3Ints_rowL qa ql qc args u1 (HQ.out.1.keep (HX0.out.1.trans (H1.out.1.mono (by omega)))) (by omega)).mono ?_
      rintro e u2 ⟨a2, cp2, rfl, o2, d2⟩
      have O2 : Hid (u2.ownsRow (w.heap.size + 1) 3 1 (.slice a2 args.length cp2) args.length (args.map (Value.int .i64))) := by
        have := (o2.lower (lo' := w.heap.size + 1) H1.out.2.2).1
        rw [← HQ.out.2] at this; exact this
      have H2 : Hid (Below (w.heap.size + 1) u0 u2 ∧ u2.heap[w.heap.size]? = some (.cells #[.int .i64 (op : Int), .int .i64 d, .int .i64 a, .int .i64 b, .int .i64 n, .string sym, .slice qa ql qc] 81) ∧ w.heap.size + 1 ≤ u2.heap.size) := by
        have q : Below (w.heap.size + 1) u0 u2 := H1.out.1.trans (d2.mono H1.out.2.2)
        exact ⟨q, (q.block _ (by omega)).trans HX0.out.2.1, by have := q.size; have := HX0.out.2.2; omega⟩
      rw [← HQ.out.2]
      clear o2 d2 c6
      have c2 : u2.cell? ⟨w.heap.size, 2, none⟩ = some (.int .i64 a) := by rw [cell_of_row u2 _ 2 _ _ (0, 0) H2.out.2.1]; rfl
      have c3 : u2.cell? ⟨w.heap.size, 3, none⟩ = some (.int .i64 b) := by rw [cell_of_row u2 _ 3 _ _ (0, 0) H2.out.2.1]; rfl
      go_wp2_with (at_builtin; refine wpList_append_own _ rfl (.tmp 29) (.tmp 32) 22 rfl (w.heap.size + 1) 3 i0 (.int .i64 0) 1 8 Tryz.underlying22 HI.out.1 HI.out.2.1 HI.out.2.2.1 HI.out.2.2.2 rfl (by decide) _ args.length (args.map (Value.int .i64)) rfl (World.ownsRow.alloc O2.out _) ⟨u2.heap.size, 0, none⟩ 1 1 [.int .i64 b] rfl rfl (one_newsL u2 _ _) (by intro u hu; simp at hu; subst hu; rfl) (by unfold maxLen; simp; omega) (by omega) (by have := H2.out.1.size; have := H2.out.2.2; simp; omega) ?_)
      intro v' u4 hown' hgr _
      have O4 : Hid (u4.ownsRow (w.heap.size + 1) 3 1 v' (args ++ [b]).length ((args ++ [b]).map (Value.int .i64))) := by rw [List.map_append, List.length_append]; exact hown'
      have H4 : Hid (Below (w.heap.size + 1) u0 u4 ∧ u4.heap[w.heap.size]? = some (.cells #[.int .i64 (op : Int), .int .i64 d, .int .i64 a, .int .i64 b, .int .i64 n, .string sym, .slice qa ql qc] 81) ∧ w.heap.size + 1 ≤ u4.heap.size) := by
        have q : Below (w.heap.size + 1) u0 u4 := (H2.out.1.trans ((below_alloc u2 _).mono (by have := H2.out.2.2; omega))).grown hgr (by have := H2.out.2.2; simp; omega) (fun k hk => (O2.out.lt k hk).1)
        exact ⟨q, (q.block _ (by omega)).trans HX0.out.2.1, by have := q.size; have := HX0.out.2.2; omega⟩
      clear hown' hgr
      obtain ⟨ys1, hys1⟩ : ∃ ys, ys = args ++ [b] := ⟨_, rfl⟩
      have hyl1 : ys1.length ≤ 10 := by rw [hys1]; simp; omega
      rw [← hys1] at O4
      have HY1 : Hid (ys1 = args ++ [b]) := hys1
      clear hys1
      obtain ⟨_, _, hv4⟩ := own_shapeL O4.out
      subst hv4
      have c2 : u4.cell? ⟨w.heap.size, 2, none⟩ = some (.int .i64 a) := by rw [cell_of_row u4 _ 2 _ _ (0, 0) H4.out.2.1]; rfl
      have c3 : u4.cell? ⟨w.heap.size, 3, none⟩ = some (.int .i64 b) := by rw [cell_of_row u4 _ 3 _ _ (0, 0) H4.out.2.1]; rfl
      go_wp2_with fail
      go_ret
      have q : Below w.heap.size w u4 := HX0.out.1.trans (H4.out.1.mono (by omega))
      refine ⟨?_, q⟩
      rw [show res = ys1 from by rw [HR.out]; rw [HY1.out]; rw [if_neg (fun c => Int.not_lt.2 p1 c.1)]; simp [p3]]
      exact ⟨_, _, rfl, own_lowL O4.out (by omega)⟩
    · have e1 : decide (0 < uu / 4 % 4) = false := decide_eq_false p1
      have e3 : (uu / 16 % 2 == 1) = false := by rw [beq_eq_false_iff_ne]; exact p3
      go_enter Tryz.func52, Tryz.ntmps52
      go_wp2_with fail
      refine ty_at fun u0 hu0 => ?_
      have HX0 : Hid (Below w.heap.size w u0 ∧ u0.heap[w.heap.size]? = some (.cells #[.int .i64 (op : Int), .int .i64 d, .int .i64 a, .int .i64 b, .int .i64 n, .string sym, .slice qa ql qc] 81) ∧ u0.heap.size = w.heap.size + 1) := by
        refine ⟨by rw [hu0]; exact below_alloc _ _, by rw [hu0]; exact heap_alloc_new w _, by rw [hu0]; simp⟩
      clear hu0
      refine (l10Fields_any op h16 u0).mono ?_
      rintro e u1 ⟨rfl, d1⟩
      rw [HUU.out]
      have H1 : Hid (Below (w.heap.size + 1) u0 u1 ∧ u1.heap[w.heap.size]? = some (.cells #[.int .i64 (op : Int), .int .i64 d, .int .i64 a, .int .i64 b, .int .i64 n, .string sym, .slice qa ql qc] 81) ∧ w.heap.size + 1 ≤ u1.heap.size) := by
        have q : Below (w.heap.size + 1) u0 u1 := d1.mono (by have := HX0.out.2.2; omega)
        exact ⟨q, (q.block _ (by omega)).trans HX0.out.2.1, by have := q.size; have := HX0.out.2.2; omega⟩
      have c6 : u1.cell? ⟨w.heap.size, 6, none⟩ = some (.slice qa ql qc) := by rw [cell_of_row u1 _ 6 _ _ (0, 0) H1.out.2.1]; rfl
      clear d1
      go_wp2_with fail
      refine (l3Ints_rowL qa ql qc args u1 (HQ.out.1.keep (HX0.out.1.trans (H1.out.1.mono (by omega)))) (by omega)).mono ?_
      rintro e u2 ⟨a2, cp2, rfl, o2, d2⟩
      have O2 : Hid (u2.ownsRow (w.heap.size + 1) 3 1 (.slice a2 args.length cp2) args.length (args.map (Value.int .i64))) := by
        have := (o2.lower (lo' := w.heap.size + 1) H1.out.2.2).1
        rw [← HQ.out.2] at this; exact this
      have H2 : Hid (Below (w.heap.size + 1) u0 u2 ∧ u2.heap[w.heap.size]? = some (.cells #[.int .i64 (op : Int), .int .i64 d, .int .i64 a, .int .i64 b, .int .i64 n, .string sym, .slice qa ql qc] 81) ∧ w.heap.size + 1 ≤ u2.heap.size) := by
        have q : Below (w.heap.size + 1) u0 u2 := H1.out.1.trans (d2.mono H1.out.2.2)
        exact ⟨q, (q.block _ (by omega)).trans HX0.out.2.1, by have := q.size; have := HX0.out.2.2; omega⟩
      rw [← HQ.out.2]
      clear o2 d2 c6
      have c2 : u2.cell? ⟨w.heap.size, 2, none⟩ = some (.int .i64 a) := by rw [cell_of_row u2 _ 2 _ _ (0, 0) H2.out.2.1]; rfl
      have c3 : u2.cell? ⟨w.heap.size, 3, none⟩ = some (.int .i64 b) := by rw [cell_of_row u2 _ 3 _ _ (0, 0) H2.out.2.1]; rfl
      go_wp2_with fail
      go_ret
      have q : Below w.heap.size w u2 := HX0.out.1.trans (H2.out.1.mono (by omega))
      refine ⟨?_, q⟩
      rw [show res = args from by rw [HR.out]; rw [if_neg (fun c => Int.not_lt.2 p1 c.1)]; simp [p3]]
      exact ⟨_, _, rfl, own_lowL O2.out (by omega)⟩
end Go.Proofs.YtcgfgmlfbgbkfaaGreatDoor.W
namespace Go.Proofs.YtcgfgmlfbgbkfaaGreatDoor.Pl
def NxL (code : List IrI) (i : Nat) (ns : List Int) : Prop := ns.length ≤ 2 ∧ ∀ j : Int, j ∈ ns ↔ ∃ k : Nat, j = k ∧ Nx code i k
theorem labIs_nx {code : List IrI} (hu : ∀ i j n, isLab code n i → isLab code n j → i = j) {n r : Int} (h : LabIs code n r) (hn : ¬ LabIs code n (-1)) (j : Int) : j = r ↔ ∃ k : Nat, j = k ∧ isLab code n k := by
  rcases h with ⟨rfl, h⟩ | ⟨i, hi, rfl, h1, h2⟩
  · exact absurd (.inl ⟨rfl, h⟩) hn
  · constructor
    · rintro rfl; exact ⟨i, rfl, h1⟩
    · rintro ⟨k, rfl, hk⟩; rw [hu k i n hk h1]
theorem lab_one {f : IrF} (hf : funOk f) : ∀ i j n, isLab f.code n i → isLab f.code n j → i = j := by
  intro i j n hi hj
  have h1 := ((hf.2.2.2 i (isLab_lt hi)).1 hi.1).2
  have h2 := ((hf.2.2.2 j (isLab_lt hj)).1 hj.1).2
  rw [hi.2] at h1
  rw [hj.2] at h2
  have := LabIs.fn h1 h2
  omega
end Go.Proofs.YtcgfgmlfbgbkfaaGreatDoor.Pl
namespace Go.Proofs.YtcgfgmlfbgbkfaaGreatDoor.W
open Go.RowKit
theorem lit0 (u : World) (base k : Nat) (hb : base ≤ u.heap.size) (hk : k = u.heap.size) : (u.alloc (.cells #[] 3)).ownsRow base 3 1 (.slice (some ⟨k, 0, none⟩) 0 0) 0 [] := by
  subst hk
  exact World.ownsRow_lit u #[] 0 hb (Nat.zero_le _) rfl
theorem lit1 (u : World) (base k : Nat) (x : Int) (hb : base ≤ u.heap.size) (hk : k = u.heap.size) : (u.alloc (.cells #[.int .i64 x] 3)).ownsRow base 3 1 (.slice (some ⟨k, 0, none⟩) 1 1) 1 [.int .i64 x] := by
  subst hk
  exact World.ownsRow_lit u #[.int .i64 x] 1 hb (by unfold maxLen; decide) rfl
theorem lit2 (u : World) (base k : Nat) (x z : Int) (hb : base ≤ u.heap.size) (hk : k = u.heap.size) : (u.alloc (.cells #[.int .i64 x, .int .i64 z] 3)).ownsRow base 3 1 (.slice (some ⟨k, 0, none⟩) 2 2) 2 [.int .i64 x, .int .i64 z] := by
  subst hk
  exact World.ownsRow_lit u #[.int .i64 x, .int .i64 z] 2 hb (by unfold maxLen; decide) rfl
set_option maxHeartbeats 4000000 in
set_option maxRecDepth 8000 in
theorem l11Next_any {lo : Nat} (f : Pl.IrF) (v s : SV) (i : Nat) (w : World) (h : IRow lo w s.a s.len s.cap f.code) (hf : Pl.funOk f) (hi : i < f.code.length) : Calls Tryz.prog 51 #[.agg #[.string f.name, .int .i64 f.params, .int .i64 f.regs, .slice v.a v.len v.cap, .slice s.a s.len s.cap], .int .i64 i] w fun e w' => (∃ ns, Pl.NxL f.code i ns ∧ Ints w.heap.size ns e w') ∧ Below w.heap.size w w' := by
  obtain ⟨sa, sl, sc⟩ := s
  simp only at h ⊢
  have hm : (sl : Int) ≤ 9223372036854775807 := by have := h.small; omega
  have hl : f.code.length = sl := h.1
  have hki : (i : Int) < (sl : Int) := by omega
  have hsz : sl ≤ 8000 := by have := hf.1.2.2.2.1.2; omega
  obtain ⟨bb, off, y, rfl, _, hb, hc, _, _⟩ := h.at (show i < sl by omega)
  have HR : Hid (IRow lo w (some ⟨bb, off, none⟩) sl sc f.code) := h
  have HF : Hid (Pl.funOk f) := hf
  obtain ⟨x, hx⟩ : ∃ x, x = f.code.getD i Pl.IrI.zero := ⟨_, rfl⟩
  rw [← hx] at hc
  have HX : Hid (f.code.getD i Pl.IrI.zero = x) := hx.symm
  have HO : Hid (Pl.Nx f.code i = fun j => if x.op = 14 then False else if x.op = 12 then Pl.isLab f.code x.n j else if x.op = 13 then j = i + 1 ∨ Pl.isLab f.code x.n j else j = i + 1) := by
    show Pl.Nx f.code i = _
    funext j
    unfold Pl.Nx
    rw [HX.out]
  have HL : Hid (x.op = 12 ∨ x.op = 13 → ¬ Pl.LabIs f.code x.n (-1)) := by
    have := (hf.2.2.2 i hi).2
    rw [HX.out] at this; exact this
  clear hx h hf hl hi
  have B2 : ∀ o1 o2 : Obj, Below w.heap.size w ((w.alloc o1).alloc o2) := fun o1 o2 => (below_alloc w o1).trans ((below_alloc _ o2).mono (by simp))
  have B3 : ∀ o1 o2 o3 : Obj, Below w.heap.size w (((w.alloc o1).alloc o2).alloc o3) := fun o1 o2 o3 => (B2 o1 o2).trans ((below_alloc _ o3).mono (by simp; omega))
  obtain ⟨c0, c1, c2, c3, c4, c5, c6⟩ := iri_cells hc
  clear hc
  by_cases p14 : x.op = 14
  · have e1 : (x.op == 14) = true := by rw [p14]; rfl
    have HN : Hid (Pl.NxL f.code i []) := ⟨by simp, fun j => by rw [HO.out]; simp [p14]⟩
    clear p14
    go_enter Tryz.func51, Tryz.ntmps51
    go_wp2_with fail
    go_ret
    exact ⟨⟨[], HN.out, _, _, rfl, lit0 _ _ _ (by simp; try omega) (by simp)⟩, B3 _ _ _⟩
  have e1 : (x.op == 14) = false := by rw [beq_eq_false_iff_ne]; exact p14
  by_cases p12 : x.op = 12
  · have e2 : (x.op == 12) = true := by rw [p12]; rfl
    have HN : Hid (∀ r : Int, Pl.LabIs f.code x.n r → Pl.NxL f.code i [r]) := fun r hr => ⟨by simp, fun j => by rw [HO.out]; simp only [p14, p12, if_false, if_true, List.mem_singleton]; exact Pl.labIs_nx (Pl.lab_one HF.out) hr (HL.out (.inl p12)) j⟩
    clear p14 p12
    go_enter Tryz.func51, Tryz.ntmps51
    go_wp2_with fail
    refine ty_at fun u0 hu0 => ?_
    have H0 : Hid (Below w.heap.size w u0) := by rw [hu0]; exact B2 _ _
    clear hu0
    refine (l10Label_any f v ⟨some ⟨bb, off, none⟩, sl, sc⟩ x.n u0 (HR.out.keep H0.out)).mono ?_
    rintro e u1 ⟨r, rfl, hr, d1⟩
    have H1 : Hid (Below w.heap.size w u1 ∧ Pl.LabIs f.code x.n r) := ⟨H0.out.trans (d1.mono H0.out.size), hr⟩
    clear d1 hr
    go_wp2_with fail
    go_ret
    exact ⟨⟨[r], HN.out r H1.out.2, _, _, rfl, lit1 u1 _ _ r H1.out.1.size rfl⟩, H1.out.1.trans ((below_alloc _ _).mono H1.out.1.size)⟩
  have e2 : (x.op == 12) = false := by rw [beq_eq_false_iff_ne]; exact p12
  have hadd : IntKind.i64.wrap ((i : Int) + 1) = ((i + 1 : Nat) : Int) := by rw [IntKind.wrap_i64]; omega
  by_cases p13 : x.op = 13
  · have e3 : (x.op == 13) = true := by rw [p13]; rfl
    have HN : Hid (∀ r : Int, Pl.LabIs f.code x.n r → Pl.NxL f.code i [((i + 1 : Nat) : Int), r]) := fun r hr => ⟨by simp, fun j => by
      rw [HO.out]
      simp only [p14, p12, p13, if_false, if_true, List.mem_cons, List.not_mem_nil, or_false]
      rw [Pl.labIs_nx (Pl.lab_one HF.out) hr (HL.out (.inr p13)) j]
      constructor
      · rintro (h | ⟨k, h1, h2⟩)
        · exact ⟨i + 1, h, .inl rfl⟩
        · exact ⟨k, h1, .inr h2⟩
      · rintro ⟨k, h1, h2 | h2⟩
        · exact .inl (by rw [h1, h2])
        · exact .inr ⟨k, h1, h2⟩⟩
    clear p14 p12 p13
    go_enter Tryz.func51, Tryz.ntmps51
    go_wp2_with fail
    refine ty_at fun u0 hu0 => ?_
    have H0 : Hid (Below w.heap.size w u0) := by rw [hu0]; exact B2 _ _
    clear hu0
    refine (l10Label_any f v ⟨some ⟨bb, off, none⟩, sl, sc⟩ x.n u0 (HR.out.keep H0.out)).mono ?_
    rintro e u1 ⟨r, rfl, hr, d1⟩
    have H1 : Hid (Below w.heap.size w u1 ∧ Pl.LabIs f.code x.n r) := ⟨H0.out.trans (d1.mono H0.out.size), hr⟩
    clear d1 hr
    go_wp2_with fail
    go_ret
    exact ⟨⟨[((i + 1 : Nat) : Int), r], HN.out r H1.out.2, _, _, rfl, lit2 u1 _ _ _ r H1.out.1.size rfl⟩, H1.out.1.trans ((below_alloc _ _).mono H1.out.1.size)⟩
  have e3 : (x.op == 13) = false := by rw [beq_eq_false_iff_ne]; exact p13
  have HN : Hid (Pl.NxL f.code i [((i + 1 : Nat) : Int)]) := ⟨by simp, fun j => by
    rw [HO.out]
    simp only [p14, p12, p13, if_false, List.mem_singleton]
    constructor
    · intro h; exact ⟨i + 1, h, rfl⟩
    · rintro ⟨k, h1, h2⟩; rw [h1, h2]⟩
  clear p14 p12 p13
  go_enter Tryz.func51, Tryz.ntmps51
  go_wp2_with fail
  go_ret
  exact ⟨⟨[((i + 1 : Nat) : Int)], HN.out, _, _, rfl, lit1 _ _ _ _ (by simp; try omega) (by simp)⟩, B3 _ _ _⟩
end Go.Proofs.YtcgfgmlfbgbkfaaGreatDoor.W
namespace Go.Proofs.YtcgfgmlfbgbkfaaGreatDoor.Pl
def mkd (ms : List Bool) (k : Nat) : List Int := ((List.range k).filter fun r => ms.getD r false).map fun r : Nat => (r : Int)
theorem mkd_len (ms : List Bool) (k : Nat) : (mkd ms k).length ≤ k := by
  unfold mkd
  rw [List.length_map]
  exact Nat.le_trans (List.length_filter_le _ _) (by simp)
theorem mkd_yes {ms : List Bool} {k : Nat} (h : ms.getD k false = true) : mkd ms (k + 1) = mkd ms k ++ [(k : Int)] := by
  unfold mkd
  rw [List.range_succ, List.filter_append, List.map_append, List.filter_cons_of_pos (by exact h)]
  rfl
theorem mkd_no {ms : List Bool} {k : Nat} (h : ms.getD k false = false) : mkd ms (k + 1) = mkd ms k := by
  unfold mkd
  rw [List.range_succ, List.filter_append, List.map_append, List.filter_cons_of_neg (by rw [h]; decide)]
  simp
end Go.Proofs.YtcgfgmlfbgbkfaaGreatDoor.Pl
namespace Go.Proofs.YtcgfgmlfbgbkfaaGreatDoor.W
open Go.RowKit
set_option maxHeartbeats 4000000 in
set_option maxRecDepth 8000 in
theorem l11Marked_any (g : Nat) (ms : List Bool) (w : World) (hgl : g < w.heap.size) (h : ∀ k, k < ms.length → w.cell? ⟨g, k, none⟩ = some (.bool (ms.getD k false))) (hs : ms.length ≤ 2000) : Calls Tryz.prog 29 #[.slice (some ⟨g, 0, none⟩) ms.length ms.length] w fun e w' => Ints w.heap.size (Pl.mkd ms ms.length) e w' ∧ Below w.heap.size w w' := by
  obtain ⟨i0, hi, hz0, hz1, hz2⟩ := info_parts Tryz.infoi64
  have HI : Hid (_ ∧ _ ∧ _ ∧ _) := ⟨hi, hz0, hz1, hz2⟩
  clear hi hz0 hz1 hz2
  have HG : Hid (∀ k, k < ms.length → w.cell? ⟨g, k, none⟩ = some (.bool (ms.getD k false))) := h
  clear h
  obtain ⟨R, hR⟩ : ∃ R, R = ms.length := ⟨_, rfl⟩
  rw [← hR] at hs ⊢
  have HM : Hid (R = ms.length) := hR
  clear hR
  go_enter Tryz.func29, Tryz.ntmps29
  go_wp2_with fail
  go_loopw [3, 4] (fun o t wr => ∃ k : Nat, k ≤ R ∧ t = .int .i64 k ∧ Hid (∃ ys, ys = Pl.mkd ms k ∧ ∃ (a : Option Addr) (c : Nat), o = .slice a ys.length c ∧ wr.ownsRow w.heap.size 3 1 (.slice a ys.length c) ys.length (ys.map (Value.int .i64)) ∧ Below w.heap.size w wr)) (fun _ t _ => R - (intOf t).toNat)
  case atStart => exact ⟨0, Nat.zero_le _, rfl, [], rfl, _, _, rfl, lit0 _ _ _ (by simp) (by simp), below_alloc _ _⟩
  case round =>
    obtain ⟨k, hk, rfl, S⟩ := hrel
    obtain ⟨ys, hys, a, c, rfl, O, B⟩ := S.out
    clear S
    have HO : Hid (wr.ownsRow w.heap.size 3 1 (.slice a ys.length c) ys.length (ys.map (Value.int .i64)) ∧ Below w.heap.size w wr) := ⟨O, B⟩
    have HY : Hid (ys = Pl.mkd ms k) := hys
    have hyl : ys.length ≤ 2000 := by rw [hys]; exact Nat.le_trans (Pl.mkd_len ms k) (by omega)
    clear O B hys
    by_cases hlt : k < R
    · have hki : (k : Int) < (R : Int) := by omega
      have hc : wr.cell? ⟨g, k, none⟩ = some (.bool (ms.getD k false)) := by
        rw [HO.out.2.cell (p := ⟨g, k, none⟩) hgl]; exact HG.out k (by have := HM.out; omega)
      by_cases hb : ms.getD k false = true
      · rw [hb] at hc
        go_wp2_with (at_builtin; refine wpList_append_own _ rfl (.tmp 16) (.tmp 18) 22 rfl w.heap.size 3 i0 (.int .i64 0) 1 8 Tryz.underlying22 HI.out.1 HI.out.2.1 HI.out.2.2.1 HI.out.2.2.2 rfl (by decide) _ ys.length (ys.map (Value.int .i64)) rfl (World.ownsRow.alloc HO.out.1 _) ⟨wr.heap.size, 0, none⟩ 1 1 [.int .i64 (k : Int)] rfl rfl (one_newsL wr _ _) (by intro u hu; simp at hu; subst hu; rfl) (by unfold maxLen; simp; omega) (by omega) (by have := HO.out.2.size; simp; omega) ?_)
        intro v' z hown' hgr _
        have HZ : Hid (z.ownsRow w.heap.size 3 1 v' (ys ++ [(k : Int)]).length ((ys ++ [(k : Int)]).map (Value.int .i64)) ∧ Below w.heap.size w z) := by
          refine ⟨by rw [List.map_append, List.length_append]; exact hown', ?_⟩
          exact (HO.out.2.trans ((below_alloc wr _).mono HO.out.2.size)).grown hgr (by have := HO.out.2.size; simp; omega) (fun k hk => (HO.out.1.lt k hk).1)
        clear hown' hgr
        go_wp2_with fail
        go_roundw
        case rel =>
          obtain ⟨a3, c3, rfl⟩ := own_shapeL HZ.out.1
          exact ⟨k + 1, by omega, by go_num, ys ++ [(k : Int)], by rw [Pl.mkd_yes hb, HY.out], a3, c3, rfl, HZ.out.1, HZ.out.2⟩
        case measure => simp [intOf]; omega
      · have hb' : ms.getD k false = false := by simpa using hb
        rw [hb'] at hc
        go_wp2_with fail
        go_roundw
        case rel => exact ⟨k + 1, by omega, by go_num, ys, by rw [Pl.mkd_no hb', HY.out], a, c, rfl, HO.out.1, HO.out.2⟩
        case measure => simp [intOf]; omega
    · have hki : ¬ ((k : Int) < (R : Int)) := by omega
      have he : k = R := by omega
      have HR : Hid (Pl.mkd ms R = ys) := by rw [← he]; exact HY.out.symm
      clear he
      go_wp2_with fail
      go_ret
      rw [HR.out]
      exact ⟨⟨a, c, rfl, HO.out.1⟩, HO.out.2⟩
end Go.Proofs.YtcgfgmlfbgbkfaaGreatDoor.W
namespace Go.Proofs.YtcgfgmlfbgbkfaaGreatDoor.W
open Go.RowKit
theorem own_eqL {base : Nat} {e : TypeId} {k : Nat} {v : Value} {n : Nat} {xs : List Value} {w w' : World} (h : w.ownsRow base e k v n xs) (hb : ∀ g, v.ownBlock = some g → w'.heap[g]? = w.heap[g]?) : w'.ownsRow base e k v n xs := by
  refine ⟨h.1, ?_⟩
  rcases h.2 with q | ⟨g, cap, cur, h0, hlo, hg, r⟩
  · exact .inl q
  · exact .inr ⟨g, cap, cur, h0, hlo, (hb g (by rw [h0]; rfl)).trans hg, r⟩
def mkV (R : Nat) (m : Nat → Bool) : List Value := (List.range R).map fun r => .bool (m r)
def rowsV (n R : Nat) (G : Nat → Nat) : List Value := (List.range n).map fun i => .slice (some ⟨G i, 0, none⟩) R R
def listsV (k : Nat) (A : Nat → Option Addr) (C : Nat → Nat) (NS : Nat → List Int) : List Value := (List.range k).map fun i => .slice (A i) (NS i).length (C i)
structure Lb (w0 w : World) (f : Pl.IrF) (v s : SV) (n k R go co gn cn : Nat) (G : Nat → Nat) (A : Nat → Option Addr) (C : Nat → Nat) (NS : Nat → List Int) (m : Nat → Nat → Bool) : Prop where
  bel : Below w0.heap.size w0 w
  box : w.heap[w0.heap.size]? = some (.cells #[.string f.name, .int .i64 f.params, .int .i64 f.regs, .slice v.a v.len v.cap, .slice s.a s.len s.cap] 31)
  oo : w.ownsRow (w0.heap.size + 1) 52 1 (.slice (some ⟨go, 0, none⟩) n co) n (rowsV n R G)
  rr : ∀ i, i < n → w.ownsRow (w0.heap.size + 1) 4 1 (.slice (some ⟨G i, 0, none⟩) R R) R (mkV R (m i))
  nn : w.ownsRow (w0.heap.size + 1) 22 1 (.slice (some ⟨gn, 0, none⟩) k cn) k (listsV k A C NS)
  nr : ∀ i, i < k → w.ownsRow (w0.heap.size + 1) 3 1 (.slice (A i) (NS i).length (C i)) (NS i).length ((NS i).map (Value.int .i64))
  nx : ∀ i, i < k → Pl.NxL f.code i (NS i)
  dG : ∀ i j, i < n → j < n → G i = G j → i = j
  dO : ∀ i, i < n → G i ≠ go ∧ G i ≠ gn
  dA : ∀ j, j < k → ∀ g, (Value.slice (A j) (NS j).length (C j)).ownBlock = some g → g ≠ go ∧ g ≠ gn ∧ ∀ i, i < n → g ≠ G i
  dN : go ≠ gn
section
variable {w0 w w' : World} {f : Pl.IrF} {v s : SV} {n k R go co gn cn : Nat} {G : Nat → Nat} {A : Nat → Option Addr} {C : Nat → Nat} {NS : Nat → List Int} {m : Nat → Nat → Bool}
theorem Lb.later (h : Lb w0 w f v s n k R go co gn cn G A C NS m) (hb : Below w.heap.size w w') : Lb w0 w' f v s n k R go co gn cn G A C NS m := by
  have q : ∀ {e : TypeId} {kk : Nat} {u : Value} {nn : Nat} {xs : List Value}, w.ownsRow (w0.heap.size + 1) e kk u nn xs → w'.ownsRow (w0.heap.size + 1) e kk u nn xs := fun h => own_eqL h fun g hg => hb.block g (h.lt g hg).2
  exact ⟨h.bel.trans (hb.mono h.bel.size), (hb.block _ (Array.getElem?_eq_some_iff.1 h.box).1).trans h.box, q h.oo, fun i hi => q (h.rr i hi), q h.nn, fun i hi => q (h.nr i hi), h.nx, h.dG, h.dO, h.dA, h.dN⟩
def setM (m : Nat → Nat → Bool) (i r : Nat) : Nat → Nat → Bool := fun i' r' => if i' = i ∧ r' = r then true else m i' r'
theorem mkV_set (R : Nat) (m : Nat → Nat → Bool) (i r : Nat) (hr : r < R) : (mkV R (m i)).set r (.bool true) = mkV R (setM m i r i) := by
  apply List.ext_getElem?
  intro p
  unfold mkV
  by_cases hp : p = r
  · subst hp
    rw [List.getElem?_set_self (by simpa using hr), List.getElem?_map, List.getElem?_range hr]
    simp [setM]
  · rw [List.getElem?_set_ne (fun q => hp q.symm), List.getElem?_map, List.getElem?_map]
    by_cases hpR : p < R
    · rw [List.getElem?_range hpR]; simp [setM, hp]
    · rw [List.getElem?_eq_none (by simp; omega)]; rfl
theorem setM_other {m : Nat → Nat → Bool} {i r j : Nat} (h : j ≠ i) : setM m i r j = m j := by funext r'; simp [setM, h]
theorem Lb.mark (h : Lb w0 w f v s n k R go co gn cn G A C NS m) {i r : Nat} (hi : i < n) (hr : r < R) : Lb w0 (w.setCell ⟨G i, r, none⟩ (.bool true)) f v s n k R go co gn cn G A C NS (setM m i r) := by
  obtain ⟨st, gr⟩ := (h.rr i hi).stored r (.bool true)
  have hG : w0.heap.size + 1 ≤ G i := ((h.rr i hi).lt (G i) rfl).1
  have hk : ∀ g, g ≠ G i → (w.setCell ⟨G i, r, none⟩ (.bool true)).heap[g]? = w.heap[g]? := fun g hg => heap_setCell_other w ⟨G i, r, none⟩ g _ (fun e => hg (by simpa using e))
  have q : ∀ {e : TypeId} {kk : Nat} {u : Value} {nn : Nat} {xs : List Value}, w.ownsRow (w0.heap.size + 1) e kk u nn xs → (∀ g, u.ownBlock = some g → g ≠ G i) → (w.setCell ⟨G i, r, none⟩ (.bool true)).ownsRow (w0.heap.size + 1) e kk u nn xs := fun h hn => own_eqL h fun g hg => hk g (hn g hg)
  refine ⟨h.bel.grown gr h.bel.size (fun k hk => by simp at hk; omega), (hk _ (by omega)).trans h.box, q h.oo (fun g hg => by have := (h.dO i hi).1; simp [Value.ownBlock] at hg; omega), fun j hj => ?_, q h.nn (fun g hg => by have := (h.dO i hi).2; simp [Value.ownBlock] at hg; omega), fun j hj => q (h.nr j hj) (fun g hg => (h.dA j hj g hg).2.2 i hi), h.nx, h.dG, h.dO, h.dA, h.dN⟩
  by_cases e : j = i
  · subst e; rw [← mkV_set R m j r hr]; exact st
  · rw [setM_other e]; exact q (h.rr j hj) (fun g hg => by simp [Value.ownBlock] at hg; intro c; exact e (h.dG j i hj hi (by omega)))
end
end Go.Proofs.YtcgfgmlfbgbkfaaGreatDoor.W
namespace Go.Proofs.YtcgfgmlfbgbkfaaGreatDoor.W
open Go.RowKit
def upd {α : Type} (g : Nat → α) (n : Nat) (x : α) : Nat → α := fun i => if i = n then x else g i
theorem upd_at {α : Type} (g : Nat → α) (n : Nat) (x : α) : upd g n x n = x := by simp [upd]
theorem upd_ne {α : Type} {g : Nat → α} {n : Nat} {x : α} {i : Nat} (h : i ≠ n) : upd g n x i = g i := by simp [upd, h]
theorem rowsV_succ (n R : Nat) (G : Nat → Nat) (g0 : Nat) : rowsV (n + 1) R (upd G n g0) = rowsV n R G ++ [.slice (some ⟨g0, 0, none⟩) R R] := by
  unfold rowsV
  rw [List.range_succ, List.map_append, List.map_singleton, upd_at]
  congr 1
  apply List.map_congr_left
  intro i hi
  rw [upd_ne (by have := List.mem_range.1 hi; omega)]
theorem listsV_succ (k : Nat) (A : Nat → Option Addr) (C : Nat → Nat) (NS : Nat → List Int) (a : Option Addr) (c : Nat) (ns : List Int) : listsV (k + 1) (upd A k a) (upd C k c) (upd NS k ns) = listsV k A C NS ++ [.slice a ns.length c] := by
  unfold listsV
  rw [List.range_succ, List.map_append, List.map_singleton, upd_at, upd_at, upd_at]
  congr 1
  apply List.map_congr_left
  intro i hi
  have : i ≠ k := by have := List.mem_range.1 hi; omega
  rw [upd_ne this, upd_ne this, upd_ne this]
section
variable {w0 w w1 w2 y : World} {f : Pl.IrF} {v s : SV} {n k R go co gn cn : Nat} {G : Nat → Nat} {A : Nat → Option Addr} {C : Nat → Nat} {NS : Nat → List Int} {m : Nat → Nat → Bool}
theorem Lb.row (h : Lb w0 w f v s n k R go co gn cn G A C NS m) (b1 : Below w.heap.size w w1) {g0 : Nat} (hg0 : w.heap.size ≤ g0) (hrow : w1.ownsRow (w0.heap.size + 1) 4 1 (.slice (some ⟨g0, 0, none⟩) R R) R (List.replicate R (.bool false))) (b2 : Below w1.heap.size w1 w2) {g' c' : Nat} (hown : y.ownsRow (w0.heap.size + 1) 52 1 (.slice (some ⟨g', 0, none⟩) (n + 1) c') (n + 1) (rowsV n R G ++ [.slice (some ⟨g0, 0, none⟩) R R])) (hgr : w2.grownBy y (some go)) (hli : go = g' ∨ g' = w2.heap.size) : Lb w0 y f v s (n + 1) k R g' c' gn cn (upd G n g0) A C NS (upd m n fun _ => false) := by
  have h2 := (h.later b1).later b2
  have hrow2 : w2.ownsRow (w0.heap.size + 1) 4 1 (.slice (some ⟨g0, 0, none⟩) R R) R (List.replicate R (.bool false)) := own_eqL hrow fun g hg => b2.block g (hrow.lt g hg).2
  have hlt0 : g0 < w2.heap.size := (hrow2.lt g0 rfl).2
  have hgo : w0.heap.size + 1 ≤ go ∧ go < w.heap.size := h.oo.lt go rfl
  have hgn : w0.heap.size + 1 ≤ gn ∧ gn < w.heap.size := h.nn.lt gn rfl
  have hw2 : w.heap.size ≤ w2.heap.size := Nat.le_trans b1.size b2.size
  have hG : ∀ i, i < n → G i < w.heap.size := fun i hi => ((h.rr i hi).lt (G i) rfl).2
  have q : ∀ {e : TypeId} {kk : Nat} {u : Value} {nn : Nat} {xs : List Value}, w2.ownsRow (w0.heap.size + 1) e kk u nn xs → (∀ g, u.ownBlock = some g → g ≠ go) → y.ownsRow (w0.heap.size + 1) e kk u nn xs := fun h hn => own_eqL h fun g hg => hgr.block g (h.lt g hg).2 (fun c => hn g hg (by simpa using c))
  have hA : ∀ j, j < k → ∀ g, (Value.slice (A j) (NS j).length (C j)).ownBlock = some g → g < w.heap.size := fun j hj g hg => ((h.nr j hj).lt g hg).2
  refine ⟨h2.bel.grown hgr h2.bel.size (fun k hk => by simp at hk; omega), (hgr.block _ (Array.getElem?_eq_some_iff.1 h2.box).1 (by simp; omega)).trans h2.box, by rw [rowsV_succ]; exact hown, fun i hi => ?_, q h2.nn (fun g hg => by simp [Value.ownBlock] at hg; have := h.dN; omega), fun j hj => q (h2.nr j hj) (fun g hg => (h.dA j hj g hg).1), h.nx, fun i j hi hj e => ?_, fun i hi => ?_, fun j hj g hg => ?_, ?_⟩
  · by_cases e : i = n
    · subst e
      rw [upd_at, upd_at]
      have := q hrow2 (fun g hg => by simp [Value.ownBlock] at hg; omega)
      rw [show mkV R (fun _ => false) = List.replicate R (.bool false) from by unfold mkV; rw [List.map_const']; simp]
      exact this
    · rw [upd_ne e, upd_ne e]
      exact q (h2.rr i (by omega)) (fun g hg => by simp [Value.ownBlock] at hg; have := (h.dO i (by omega)).1; omega)
  · by_cases e1 : i = n
    · by_cases e2 : j = n
      · omega
      · rw [e1, upd_at, upd_ne e2] at e; have := hG j (by omega); omega
    · by_cases e2 : j = n
      · rw [e2, upd_at, upd_ne e1] at e; have := hG i (by omega); omega
      · rw [upd_ne e1, upd_ne e2] at e; exact h.dG i j (by omega) (by omega) e
  · by_cases e : i = n
    · subst e; rw [upd_at]; rcases hli with q | q <;> exact ⟨by omega, by omega⟩
    · rw [upd_ne e]; have := h.dO i (by omega); have := hG i (by omega); rcases hli with q | q <;> exact ⟨by omega, by omega⟩
  · have h1 := h.dA j hj g hg
    have h2 := hA j hj g hg
    refine ⟨by rcases hli with q | q <;> omega, h1.2.1, fun i hi => ?_⟩
    by_cases e : i = n
    · subst e; rw [upd_at]; omega
    · rw [upd_ne e]; exact h1.2.2 i (by omega)
  · have := h.dN; rcases hli with q | q <;> omega
theorem Lb.next (h : Lb w0 w f v s n k R go co gn cn G A C NS m) (b1 : Below w.heap.size w w1) {a : Option Addr} {c : Nat} {ns : List Int} (hns : Pl.NxL f.code k ns) (hrow : w1.ownsRow w.heap.size 3 1 (.slice a ns.length c) ns.length (ns.map (Value.int .i64))) (b2 : Below w1.heap.size w1 w2) {g' c' : Nat} (hown : y.ownsRow (w0.heap.size + 1) 22 1 (.slice (some ⟨g', 0, none⟩) (k + 1) c') (k + 1) (listsV k A C NS ++ [.slice a ns.length c])) (hgr : w2.grownBy y (some gn)) (hli : gn = g' ∨ g' = w2.heap.size) : Lb w0 y f v s n (k + 1) R go co g' c' G (upd A k a) (upd C k c) (upd NS k ns) m := by
  have h2 := (h.later b1).later b2
  have hrow1 : w2.ownsRow w.heap.size 3 1 (.slice a ns.length c) ns.length (ns.map (Value.int .i64)) := own_eqL hrow fun g hg => b2.block g (hrow.lt g hg).2
  have hgo : w0.heap.size + 1 ≤ go ∧ go < w.heap.size := h.oo.lt go rfl
  have hgn : w0.heap.size + 1 ≤ gn ∧ gn < w.heap.size := h.nn.lt gn rfl
  have hrow2 : w2.ownsRow (w0.heap.size + 1) 3 1 (.slice a ns.length c) ns.length (ns.map (Value.int .i64)) := own_lowL hrow1 (by omega)
  have hw2 : w.heap.size ≤ w2.heap.size := Nat.le_trans b1.size b2.size
  have hG : ∀ i, i < n → G i < w.heap.size := fun i hi => ((h.rr i hi).lt (G i) rfl).2
  have q : ∀ {e : TypeId} {kk : Nat} {u : Value} {nn : Nat} {xs : List Value}, w2.ownsRow (w0.heap.size + 1) e kk u nn xs → (∀ g, u.ownBlock = some g → g ≠ gn) → y.ownsRow (w0.heap.size + 1) e kk u nn xs := fun h hn => own_eqL h fun g hg => hgr.block g (h.lt g hg).2 (fun c => hn g hg (by simpa using c))
  have hA : ∀ j, j < k → ∀ g, (Value.slice (A j) (NS j).length (C j)).ownBlock = some g → g < w.heap.size := fun j hj g hg => ((h.nr j hj).lt g hg).2
  have hnew : ∀ g, (Value.slice a ns.length c).ownBlock = some g → w.heap.size ≤ g ∧ g < w2.heap.size := fun g hg => hrow1.lt g hg
  refine ⟨h2.bel.grown hgr h2.bel.size (fun k hk => by simp at hk; omega), (hgr.block _ (Array.getElem?_eq_some_iff.1 h2.box).1 (by simp; omega)).trans h2.box, q h2.oo (fun g hg => by simp [Value.ownBlock] at hg; have := h.dN; omega), fun i hi => q (h2.rr i hi) (fun g hg => by simp [Value.ownBlock] at hg; have := (h.dO i hi).2; omega), by rw [listsV_succ]; exact hown, fun j hj => ?_, fun j hj => ?_, h.dG, fun i hi => ?_, fun j hj g hg => ?_, ?_⟩
  · by_cases e : j = k
    · subst e; rw [upd_at, upd_at, upd_at]; exact q hrow2 (fun g hg => by have := hnew g hg; omega)
    · rw [upd_ne e, upd_ne e, upd_ne e]; exact q (h2.nr j (by omega)) (fun g hg => (h.dA j (by omega) g hg).2.1)
  · by_cases e : j = k
    · subst e; rw [upd_at]; exact hns
    · rw [upd_ne e]; exact h.nx j (by omega)
  · have := h.dO i hi; have := hG i hi; rcases hli with q | q <;> exact ⟨by omega, by omega⟩
  · by_cases e : j = k
    · subst e
      rw [upd_at, upd_at, upd_at] at hg
      have := hnew g hg
      refine ⟨by omega, by rcases hli with q | q <;> omega, fun i hi => by have := hG i hi; omega⟩
    · rw [upd_ne e, upd_ne e, upd_ne e] at hg
      have h1 := h.dA j (by omega) g hg
      have h2 := hA j (by omega) g hg
      exact ⟨h1.1, by rcases hli with q | q <;> omega, h1.2.2⟩
  · have := h.dN; rcases hli with q | q <;> omega
end
end Go.Proofs.YtcgfgmlfbgbkfaaGreatDoor.W
namespace Go.Proofs.YtcgfgmlfbgbkfaaGreatDoor.W
open Go.RowKit
structure OnlyG (g : Nat) (w w' : World) : Prop where
  os : w'.os = w.os
  tape : w'.tape = w.tape
  output : w'.output = w.output
  size : w'.heap.size = w.heap.size
  block : ∀ k, k ≠ g → w'.heap[k]? = w.heap[k]?
theorem OnlyG.refl (g : Nat) (w : World) : OnlyG g w w := ⟨rfl, rfl, rfl, rfl, fun _ _ => rfl⟩
theorem OnlyG.trans {g : Nat} {a b c : World} (h : OnlyG g a b) (k : OnlyG g b c) : OnlyG g a c :=
  ⟨k.os.trans h.os, k.tape.trans h.tape, k.output.trans h.output, k.size.trans h.size, fun i hi => (k.block i hi).trans (h.block i hi)⟩
theorem OnlyG.setCell (w : World) (g j : Nat) (v : Value) : OnlyG g w (w.setCell ⟨g, j, none⟩ v) := by
  have b := (Below.refl 0 w).setCell (p := ⟨g, j, none⟩) (Nat.zero_le _) v
  exact ⟨b.os, b.tape, b.output, by simp, fun k hk => heap_setCell_other w ⟨g, j, none⟩ k v hk⟩
theorem OnlyG.drew {g : Nat} {w w' : World} (h : OnlyG g w w') : OnlyG g w w'.drew := by
  have b := Below.drew (Below.refl w'.heap.size w')
  exact ⟨b.os.trans h.os, b.tape.trans h.tape, b.output.trans h.output, h.size, h.block⟩
theorem OnlyG.below {g lo : Nat} {w w' : World} (h : OnlyG g w w') (hlo : lo ≤ g) : Below lo w w' := ⟨h.os, h.tape, h.output, Nat.le_of_eq h.size.symm, fun k hk => h.block k (by omega)⟩
theorem OnlyG.own {g : Nat} {w w' : World} (h : OnlyG g w w') {base : Nat} {e : TypeId} {k : Nat} {v : Value} {n : Nat} {xs : List Value} (ho : w.ownsRow base e k v n xs) (hn : v.ownBlock ≠ some g) : w'.ownsRow base e k v n xs := own_eqL ho fun q hq => h.block q (fun c => hn (by rw [hq, c]))
theorem OnlyG.cell {g : Nat} {w w' : World} (h : OnlyG g w w') {p : Addr} (hp : p.block ≠ g) : w'.cell? p = w.cell? p := by simp only [World.cell?, h.block p.block hp]
def slV (k : Nat) (A : Nat → Option Addr) (C : Nat → Nat) (L : Nat → List Value) : List Value := (List.range k).map fun i => .slice (A i) (L i).length (C i)
theorem slV_at {k i : Nat} (A : Nat → Option Addr) (C : Nat → Nat) (L : Nat → List Value) (h : i < k) : (slV k A C L)[i]? = some (.slice (A i) (L i).length (C i)) := by
  unfold slV; rw [List.getElem?_map, List.getElem?_range h]; rfl
theorem slV_set (k i : Nat) (A : Nat → Option Addr) (C : Nat → Nat) (L : Nat → List Value) (a : Option Addr) (c : Nat) (l : List Value) (h : i < k) : (slV k A C L).set i (.slice a l.length c) = slV k (upd A i a) (upd C i c) (upd L i l) := by
  apply List.ext_getElem?
  intro p
  by_cases hp : p = i
  · subst hp
    rw [List.getElem?_set_self (by simpa [slV] using h), slV_at _ _ _ h, upd_at, upd_at, upd_at]
  · rw [List.getElem?_set_ne (fun q => hp q.symm)]
    by_cases hpk : p < k
    · rw [slV_at _ _ _ hpk, slV_at _ _ _ hpk, upd_ne hp, upd_ne hp, upd_ne hp]
    · rw [List.getElem?_eq_none (by simp [slV]; omega), List.getElem?_eq_none (by simp [slV]; omega)]
structure Rw (eo ei : TypeId) (lo : Nat) (w : World) (go k co : Nat) (A : Nat → Option Addr) (C : Nat → Nat) (L : Nat → List Value) (T : Nat → Nat) (t : Nat) : Prop where
  oo : w.ownsRow lo eo 1 (.slice (some ⟨go, 0, none⟩) k co) k (slV k A C L)
  tt : T go = t
  nr : ∀ i, i < k → w.ownsRow lo ei 1 (.slice (A i) (L i).length (C i)) (L i).length (L i)
  tn : ∀ i, i < k → ∀ g, (Value.slice (A i) (L i).length (C i)).ownBlock = some g → T g = t + 1
  dA : ∀ i j, i < k → j < k → ∀ g, (Value.slice (A i) (L i).length (C i)).ownBlock = some g → (Value.slice (A j) (L j).length (C j)).ownBlock = some g → i = j
section
variable {eo ei : TypeId} {lo : Nat} {w w' y : World} {go k co : Nat} {A : Nat → Option Addr} {C : Nat → Nat} {L : Nat → List Value} {T T' : Nat → Nat} {t : Nat}
theorem Rw.kept (h : Rw eo ei lo w go k co A C L T t) (hb : ∀ g, g < w.heap.size → T g = t ∨ T g = t + 1 → w'.heap[g]? = w.heap[g]?) (hT : ∀ g, g < w.heap.size → T' g = T g) : Rw eo ei lo w' go k co A C L T' t := by
  have hgo := (h.oo.lt go rfl).2
  refine ⟨own_eqL h.oo fun g hg => ?_, (hT go hgo).trans h.tt, fun i hi => own_eqL (h.nr i hi) fun g hg => hb g ((h.nr i hi).lt g hg).2 (.inr (h.tn i hi g hg)), fun i hi g hg => (hT g ((h.nr i hi).lt g hg).2).trans (h.tn i hi g hg), h.dA⟩
  simp only [Value.ownBlock, Option.some.injEq] at hg
  subst hg
  exact hb go hgo (.inl h.tt)
theorem Rw.later (h : Rw eo ei lo w go k co A C L T t) (hb : Below w.heap.size w w') : Rw eo ei lo w' go k co A C L T t := h.kept (fun g hg _ => hb.block g hg) fun _ _ => rfl
theorem Rw.cell (h : Rw eo ei lo w go k co A C L T t) {i : Nat} (hi : i < k) : w.cell? ⟨go, i, none⟩ = some (.slice (A i) (L i).length (C i)) := by rw [h.oo.cellAt i (by omega)]; exact slV_at _ _ _ hi
theorem Rw.ne (h : Rw eo ei lo w go k co A C L T t) {i : Nat} (hi : i < k) : (Value.slice (A i) (L i).length (C i)).ownBlock ≠ some go := fun e => by have := h.tn i hi go e; have := h.tt; omega
theorem Rw.repl (h : Rw eo ei lo w go k co A C L T t) {i : Nat} (hi : i < k) {a : Option Addr} {c : Nat} {l : List Value}
    (hy : ∀ g, g < w.heap.size → (Value.slice (A i) (L i).length (C i)).ownBlock ≠ some g → y.heap[g]? = w.heap[g]?)
    (hown : y.ownsRow lo ei 1 (.slice a l.length c) l.length l)
    (hli : ∀ g, (Value.slice a l.length c).ownBlock = some g → (Value.slice (A i) (L i).length (C i)).ownBlock = some g ∨ w.heap.size ≤ g)
    (hT : ∀ g, g < w.heap.size → T' g = T g) (hTn : ∀ g, w.heap.size ≤ g → T' g = t + 1) :
    Rw eo ei lo (y.setCell ⟨go, i, none⟩ (.slice a l.length c)) go k co (upd A i a) (upd C i c) (upd L i l) T' t := by
  have hgo := (h.oo.lt go rfl).2
  have hto : T' go = t := (hT go hgo).trans h.tt
  have hoy : y.ownsRow lo eo 1 (.slice (some ⟨go, 0, none⟩) k co) k (slV k A C L) := own_eqL h.oo fun g hg => by
    simp only [Value.ownBlock, Option.some.injEq] at hg
    subst hg
    exact hy go hgo (h.ne hi)
  have hnew : ∀ g, (Value.slice a l.length c).ownBlock = some g → T' g = t + 1 := fun g hg => by
    rcases hli g hg with q | q
    · exact (hT g ((h.nr i hi).lt g q).2).trans (h.tn i hi g q)
    · exact hTn g q
  have hst := (hoy.stored i (.slice a l.length c)).1
  rw [slV_set k i A C L a c l hi] at hst
  have ho : ∀ g, g ≠ go → (y.setCell ⟨go, i, none⟩ (.slice a l.length c)).heap[g]? = y.heap[g]? := fun g hg => heap_setCell_other y ⟨go, i, none⟩ g _ hg
  refine ⟨hst, hto, fun j hj => ?_, fun j hj g hg => ?_, fun p j hp hj g hg hg2 => ?_⟩
  · by_cases e : j = i
    · subst e
      rw [upd_at, upd_at, upd_at]
      exact own_eqL hown fun g hg => ho g (fun q => by have := hnew g hg; rw [q] at this; omega)
    · rw [upd_ne e, upd_ne e, upd_ne e]
      refine own_eqL (h.nr j hj) fun g hg => (ho g (fun q => h.ne hj (by rw [hg, q]))).trans (hy g ((h.nr j hj).lt g hg).2 fun q => e (h.dA j i hj hi g hg q))
  · by_cases e : j = i
    · subst e; rw [upd_at, upd_at, upd_at] at hg; exact hnew g hg
    · rw [upd_ne e, upd_ne e, upd_ne e] at hg; exact (hT g ((h.nr j hj).lt g hg).2).trans (h.tn j hj g hg)
  · by_cases e1 : p = i
    · by_cases e2 : j = i
      · omega
      · subst e1
        rw [upd_at, upd_at, upd_at] at hg
        rw [upd_ne e2, upd_ne e2, upd_ne e2] at hg2
        rcases hli g hg with q | q
        · exact h.dA p j hp hj g q hg2
        · have := ((h.nr j hj).lt g hg2).2; omega
    · by_cases e2 : j = i
      · subst e2
        rw [upd_at, upd_at, upd_at] at hg2
        rw [upd_ne e1, upd_ne e1, upd_ne e1] at hg
        rcases hli g hg2 with q | q
        · exact h.dA p j hp hj g hg q
        · have := ((h.nr p hp).lt g hg).2; omega
      · rw [upd_ne e1, upd_ne e1, upd_ne e1] at hg
        rw [upd_ne e2, upd_ne e2, upd_ne e2] at hg2
        exact h.dA p j hp hj g hg hg2
theorem Rw.repl_far (h : Rw eo ei lo w go k co A C L T t) {i : Nat} (hi : i < k) {v : Value}
    (hy : ∀ g, g < w.heap.size → (Value.slice (A i) (L i).length (C i)).ownBlock ≠ some g → y.heap[g]? = w.heap[g]?) {g : Nat} (hg : g < w.heap.size) (h1 : T g ≠ t) (h2 : T g ≠ t + 1) :
    (y.setCell ⟨go, i, none⟩ v).heap[g]? = w.heap[g]? := by
  rw [heap_setCell_other y ⟨go, i, none⟩ g _ (fun q => h1 (by rw [show g = go from q]; exact h.tt))]
  exact hy g hg fun q => h2 (h.tn i hi g q)
theorem Rw.turned (h : Rw eo ei lo w go k co A C L T t) {i : Nat} (hi : i < k) {g : Nat} (hg : A i = some ⟨g, 0, none⟩) {l : List Value} (hl : l.length = (L i).length)
    (hO : OnlyG g w w') (hown : w'.ownsRow lo ei 1 (.slice (A i) l.length (C i)) l.length l) : Rw eo ei lo w' go k co A C (upd L i l) T t := by
  have hb : (Value.slice (A i) (L i).length (C i)).ownBlock = some g := by rw [hg]; rfl
  have hne : go ≠ g := fun e => h.ne hi (by rw [hb, e])
  have hlen : ∀ j, (upd L i l j).length = (L j).length := fun j => by
    by_cases e : j = i
    · subst e; rw [upd_at]; exact hl
    · rw [upd_ne e]
  have hsl : slV k A C (upd L i l) = slV k A C L := by
    unfold slV
    apply List.map_congr_left
    intro j _
    rw [hlen j]
  refine ⟨by rw [hsl]; exact hO.own h.oo (by simpa [Value.ownBlock] using hne), h.tt, fun j hj => ?_, fun j hj q hq => ?_, fun p j hp hj q hq hq2 => ?_⟩
  · by_cases e : j = i
    · subst e; rw [upd_at]; exact hown
    · rw [upd_ne e]; exact hO.own (h.nr j hj) fun q => e (h.dA j i hj hi g q hb)
  · rw [hlen j] at hq; exact h.tn j hj q hq
  · rw [hlen p] at hq; rw [hlen j] at hq2; exact h.dA p j hp hj q hq hq2
end
theorem Rw.nil {eo ei : TypeId} {lo : Nat} {w : World} {go k : Nat} {T : Nat → Nat} {t : Nat} (h : w.ownsRow lo eo 1 (.slice (some ⟨go, 0, none⟩) k k) k (List.replicate k (.slice none 0 0))) (hT : T go = t) : Rw eo ei lo w go k k (fun _ => none) (fun _ => 0) (fun _ => []) T t := by
  refine ⟨?_, hT, fun i hi => World.ownsRow_nil _ _ _ _, fun i hi g hg => (by cases hg), fun i j hi hj g hg => (by cases hg)⟩
  rw [show slV k (fun _ => none) (fun _ => 0) (fun _ => []) = List.replicate k (.slice none 0 0) from by unfold slV; rw [List.map_const']; simp]
  exact h
end Go.Proofs.YtcgfgmlfbgbkfaaGreatDoor.W
namespace Go.Proofs.YtcgfgmlfbgbkfaaGreatDoor.W
open Go.RowKit
structure Touch (a : Option Addr) (w w' : World) : Prop where
  os : w'.os = w.os
  tape : w'.tape = w.tape
  output : w'.output = w.output
  size : w'.heap.size = w.heap.size
  block : ∀ k, (∀ ad, a = some ad → k ≠ ad.block) → w'.heap[k]? = w.heap[k]?
theorem Touch.refl (a : Option Addr) (w : World) : Touch a w w := ⟨rfl, rfl, rfl, rfl, fun _ _ => rfl⟩
theorem Touch.setCell {a : Option Addr} {w u : World} (h : Touch a w u) {g : Nat} (hp : a = some ⟨g, 0, none⟩) (x : Value) {i : Nat} : Touch a w (u.setCell ⟨g, i, none⟩ x) :=
  ⟨h.os, h.tape, h.output, by simpa using h.size, fun k hk => (Below.heap_setCell u ⟨g, i, none⟩ x k (show k ≠ g from hk ⟨g, 0, none⟩ hp)).trans (h.block k hk)⟩
theorem mkIntS_wf (k : Int) (len : Nat) (hk : 0 ≤ k ∧ k + len ≤ 4611686018427387904) : ∀ n ∈ (List.range len).map (fun (i : Nat) => k + (i : Int)), (Lit.int .i64 n).wf = true := by
  intro n hn
  obtain ⟨i, hi, rfl⟩ := List.mem_map.1 hn
  have := List.mem_range.1 hi
  have h1 : -9223372036854775808 ≤ k + (i : Int) := by omega
  have h2 : k + (i : Int) ≤ 9223372036854775807 := by omega
  generalize k + (i : Int) = y at h1 h2
  simp [Lit.wf, IntKind.min, IntKind.max, IntKind.signed, IntKind.bits]
  omega
def mkIntS (k : Int) (len : Nat) : List Int := (List.range len).map fun (i : Nat) => (k + (i : Int))
theorem mkIntS_length (k : Int) (len : Nat) : (mkIntS k len).length = len := by simp [mkIntS]
theorem mkIntS_get (k : Int) (len i : Nat) (h : i < len) : (mkIntS k len).getD i 0 = (k + (i : Int)) := by
  rw [List.getD_eq_getElem?_getD]
  simp [mkIntS, h]
def mtIntS (k : Int) (zs : List Int) (j : Nat) : List Int := (mkIntS k zs.length).take j ++ zs.drop j
theorem mtIntS_zero (k : Int) (zs : List Int) : mtIntS k zs 0 = zs := by simp [mtIntS]
theorem mtIntS_full (k : Int) (zs : List Int) {j : Nat} (h : zs.length ≤ j) : mtIntS k zs j = mkIntS k zs.length := by
  unfold mtIntS
  rw [List.take_of_length_le (by rw [mkIntS_length]; exact h), List.drop_of_length_le h, List.append_nil]
theorem mtIntS_length (k : Int) (zs : List Int) (j : Nat) : (mtIntS k zs j).length = zs.length := by
  unfold mtIntS
  rw [List.length_append, List.length_take, List.length_drop, mkIntS_length]; omega
theorem mtIntS_set (k : Int) (zs : List Int) {j : Nat} (h : j < zs.length) : (mtIntS k zs j).set j ((k + (j : Int))) = mtIntS k zs (j + 1) := by
  have hx : (mkIntS k zs.length)[j]? = some ((k + (j : Int))) := by simp [mkIntS, h]
  apply List.ext_getElem?
  intro i
  unfold mtIntS
  rw [List.getElem?_set, List.length_append, List.length_take, List.length_drop, mkIntS_length]
  by_cases h1 : j = i
  · subst h1
    rw [if_pos rfl, if_pos (by omega), List.getElem?_append_left (by rw [List.length_take, mkIntS_length]; omega), List.getElem?_take, if_pos (by omega), hx]
  · rw [if_neg h1]
    by_cases h2 : i < j
    · rw [List.getElem?_append_left (by rw [List.length_take, mkIntS_length]; omega), List.getElem?_append_left (by rw [List.length_take, mkIntS_length]; omega), List.getElem?_take, List.getElem?_take, if_pos h2, if_pos (by omega)]
    · rw [List.getElem?_append_right (by rw [List.length_take, mkIntS_length]; omega), List.getElem?_append_right (by rw [List.length_take, mkIntS_length]; omega), List.length_take, List.length_take, mkIntS_length, List.getElem?_drop, List.getElem?_drop]
      congr 1
      omega
set_option maxHeartbeats 1000000 in
theorem markIntS_any {lo : Nat} (a : Option Addr) (len cap : Nat) (zs : List Int) (k : Int) (w : World) (h : Own .i64 3 lo w a len cap zs) (hk : 0 ≤ k ∧ k + len ≤ 4611686018427387904) :
    Calls Tryz.prog 37 #[.slice a len cap, .int .i64 k] w fun e w' => e = .returned (.int .i64 (k + len)) ∧ Own .i64 3 lo w' a len cap (mkIntS k len) ∧ Touch a w w' := by
  have hsm := h.row.small
  have hl := h.row.1
  have HO : Hid (w.ownsRow lo 3 1 (.slice a len cap) len (zs.map (Value.int .i64))) := h.1
  have HL : Hid (zs.length = len) := hl
  have HF : Hid (len = 0 ∨ ∃ g, a = some ⟨g, 0, none⟩) := by
    rcases h.1.2 with ⟨h0, h1⟩ | ⟨g, _, _, h0, _⟩
    · exact .inl h1
    · simp only [Value.slice.injEq] at h0; exact .inr ⟨g, h0.1⟩
  clear h hl
  go_enter Tryz.func37, Tryz.ntmps37
  go_wp2
  go_loopw [1, 5] (fun x i wr => ∃ j : Nat, j ≤ len ∧ i = .int .i64 j ∧ x = .int .i64 (k + (j : Int)) ∧ wr.ownsRow lo 3 1 (.slice a len cap) len ((mtIntS k zs j).map (Value.int .i64)) ∧ Touch a w wr) (fun _ i _ => len - (intOf i).toNat)
  case atStart => exact ⟨0, Nat.zero_le _, rfl, by simp, by rw [mtIntS_zero]; exact HO.out, Touch.refl _ _⟩
  case round =>
    obtain ⟨j, hj, rfl, rfl, ho, ht⟩ := hrel
    clear HO
    have HO : Hid (wr.ownsRow lo 3 1 (.slice a len cap) len ((mtIntS k zs j).map (Value.int .i64))) := ho
    have HT : Hid (Touch a w wr) := ht
    clear ho ht
    by_cases hlt : j < len
    · obtain ⟨g, rfl⟩ := HF.out.resolve_left (by omega)
      have hfz : wr.frozen? ⟨g, j, none⟩ = false := HO.out.frozenAt j
      obtain ⟨y, hy⟩ : ∃ y, wr.cell? ⟨g, j, none⟩ = some (.int .i64 y) := by
        have := HO.out.cellAt j (by omega)
        rw [List.getElem?_map, List.getElem?_eq_getElem (by rw [mtIntS_length]; have := HL.out; omega)] at this
        exact ⟨_, this⟩
      go_wp2
      go_roundw
      case rel =>
        have st := HO.out.stored j (.int .i64 ((k + (j : Int))))
        refine ⟨j + 1, by omega, by go_num, congrArg (Value.int .i64) (by omega), ?_, HT.out.setCell rfl _⟩
        rw [← mtIntS_set k zs (by have := HL.out; omega), List.map_set]
        exact st.1
      case measure => simp [intOf]; omega
    · have hje : j = len := by omega
      subst hje
      go_wp2
      go_ret
      refine ⟨rfl, ⟨?_, mkIntS_wf k _ hk⟩, HT.out⟩
      have := HO.out
      rwa [mtIntS_full k zs (by have := HL.out; omega), HL.out] at this
set_option maxHeartbeats 1000000 in
theorem heldIntS_any {lo : Nat} (a : Option Addr) (len cap : Nat) (k : Int) (w : World) (h : Row .i64 lo w a len cap (mkIntS k len)) (hk : 0 ≤ k ∧ k + len ≤ 4611686018427387904) :
    Calls Tryz.prog 39 #[.slice a len cap, .int .i64 k] w fun e w' => e = .returned (.int .i64 (k + len)) ∧ Below w.heap.size w w' := by
  have hsm := h.small
  have HR : Hid (len = 0 ∨ ∃ b off, a = some ⟨b, off, none⟩ ∧ lo ≤ b ∧ b < w.heap.size ∧ ∀ i, i < len → w.cell? ⟨b, off + i, none⟩ = some (.int .i64 ((mkIntS k len).getD i 0))) := h.2.2.2.2
  clear h
  go_enter Tryz.func39, Tryz.ntmps39
  go_wp2
  go_loopw [1, 5] (fun x i wr => ∃ j : Nat, j ≤ len ∧ i = .int .i64 j ∧ x = .int .i64 (k + (j : Int)) ∧ Below w.heap.size w wr) (fun _ i _ => len - (intOf i).toNat)
  case atStart => exact ⟨0, Nat.zero_le _, rfl, by simp, Below.refl _ _⟩
  case round =>
    obtain ⟨j, hj, rfl, rfl, hb⟩ := hrel
    have HB : Hid (Below w.heap.size w wr) := hb
    clear hb
    by_cases hlt : j < len
    · obtain ⟨b, off, rfl, _, hbl, hc⟩ := HR.out.resolve_left (by omega)
      have hcell : wr.cell? ⟨b, off + j, none⟩ = some (.int .i64 ((k + (j : Int)))) := by rw [HB.out.cell (by exact hbl), hc j hlt, mkIntS_get k len j hlt]
      clear hc
      go_wp2
      go_roundw
      case rel => exact ⟨j + 1, by omega, by go_num, congrArg (Value.int .i64) (by omega), HB.out⟩
      case measure => simp [intOf]; omega
    · have hje : j = len := by omega
      subst hje
      go_wp2
      go_ret
      exact ⟨rfl, HB.out⟩
end Go.Proofs.YtcgfgmlfbgbkfaaGreatDoor.W
