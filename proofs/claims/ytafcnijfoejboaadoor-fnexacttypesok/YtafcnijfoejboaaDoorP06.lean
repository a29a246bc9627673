import Derived.Test.YtafcnijfoejboaaDoorP05
import Derived.Lib.Strings
import Derived.Lib.Walk
import Derived.Laws.Strings3
import Derived.BigCall
import Derived.BigGuard
import Derived.Lib.AtoiErrMem
set_option linter.unusedVariables false
set_option linter.unusedSimpArgs false
namespace Go.Proofs.YtafcnijfoejboaaDoor.W
open Go.RowKit
theorem lower_all : ∃ low : Int → Int, ∀ c, (0 ≤ low c ∧ low c < 256) ∧ ∀ w, Calls Tryd.prog 68 #[.int .u8 c] w fun e w' => e = .returned (.int .u8 (low c)) ∧ w' = w := by
  refine ⟨fun c => bits .or .u8 c 32, fun c => ⟨⟨bits_lo_u8 _ _ _, Int.lt_of_le_of_lt (bits_hi_u8 .or c 32) (by decide)⟩, fun w => ?_⟩⟩
  go_enter Tryd.func68, Tryd.ntmps68
  go_wp2
  go_ret
  exact ⟨rfl, rfl⟩
theorem bytesWorld_below (w : World) (e : TypeId) (s : ByteArray) : Below w.heap.size w (Lib.bytesWorld w e s) :=
  Lib.bytesWorld_below w e s
def PErr (v : Value) : Prop := v = .nilIface ∨ v = .iface 99 (.int .i64 1) ∨ v = .iface 99 (.int .i64 2)
set_option maxHeartbeats 32000000 in
set_option maxRecDepth 100000 in
theorem iParse_any (b : Int) (hb : b = 8 ∨ b = 10 ∨ b = 16) (t : ByteArray) (hmax : t.size ≤ 9223372036854775806) (w : World) :
    Calls Tryd.prog 62 #[.string t, .int .i64 b, .int .i64 32] w fun e w' => (∃ (n : Int) (v : Value), e = .returned (.tuple #[.int .u64 n, v]) ∧ PErr v) ∧ Below w.heap.size w w' := by
  by_cases hne : t.size = 0
  · have ht : t = ⟨#[]⟩ := by
      cases t with | mk d => congr; exact Array.eq_empty_of_size_eq_zero hne
    subst ht
    rcases hb with rfl | rfl | rfl
    all_goals
      go_enter Tryd.func62, Tryd.ntmps62
      go_wp2
      go_ret2
      exact ⟨⟨_, _, rfl, .inr (.inr rfl)⟩, Below.refl _ _⟩
  have hemp : t.toList.isEmpty = false := by
    rw [← decide_eq_emptyBytes]
    exact decide_eq_false (fun h => hne (by rw [h]; rfl))
  have hcv := Lib.run_convert_string_bytes (P := Tryd.prog) w 9 102 5 t (u := .string) Tryd.underlying9 Tryd.underlying102 Tryd.underlying5
  have hB : ∀ j, j < t.size → (Lib.bytesWorld w 5 t).cell? ⟨w.heap.size, j, none⟩ = some (.int .u8 (t.data.toList.getD j 0).toNat) := fun j hj => Lib.bytesWorld_cell w 5 t j hj
  have HBW : Hid (Below w.heap.size w (Lib.bytesWorld w 5 t)) := bytesWorld_below _ _ _
  obtain ⟨W1, hW1⟩ : ∃ W1, W1 = Lib.bytesWorld w 5 t := ⟨_, rfl⟩
  rw [← hW1] at hcv hB HBW
  clear hW1
  obtain ⟨bs, hL⟩ : ∃ bs, bs = t.data.toList := ⟨_, rfl⟩
  rw [← hL] at hB
  clear hL
  have hmv : IntKind.u64.wrap (IntKind.u64.wrap 4294967296 - 1) = 4294967295 := by
    rw [IntKind.wrap_u64, IntKind.wrap_u64]
    decide
  obtain ⟨low, hlow⟩ := lower_all
  have HL : Hid (∀ c, (0 ≤ low c ∧ low c < 256) ∧ ∀ w, Calls Tryd.prog 68 #[.int .u8 c] w fun e w' => e = .returned (.int .u8 (low c)) ∧ w' = w) := hlow
  clear hlow
  rcases hb with rfl | rfl | rfl
  all_goals
    go_enter Tryd.func62, Tryd.ntmps62
    go_wp2
    go_loop [12, 13, 101] (fun vu vn vi => ∃ (k : Nat) (a : Int), vu = .bool false ∧ vn = .int .u64 a ∧ vi = .int .i64 k ∧ k ≤ t.size ∧ 0 ≤ a ∧ a ≤ 4294967295)
      (fun _ _ vi => t.size - (intOf vi).toNat)
    case atStart => exact ⟨0, 0, rfl, rfl, rfl, by omega, by omega, by omega⟩
    case round =>
      obtain ⟨k, a, rfl, rfl, rfl, hk, a0, a1⟩ := hrel
      by_cases hkn : k < t.size
      · have hc := hB k hkn
        have hc0 : (0 : Int) ≤ ((bs.getD k 0).toNat : Int) := by omega
        have hc1 : ((bs.getD k 0).toNat : Int) < 256 := by have := (bs.getD k 0).toNat_lt; omega
        generalize ((bs.getD k 0).toNat : Int) = c at hc hc0 hc1
        clear hB
        have hl0 := (HL.out c).1.1
        have hl1 := (HL.out c).1.2
        by_cases hd : 48 ≤ c ∧ c ≤ 57
        · obtain ⟨hd0, hd1⟩ := hd
          go_wp2
          all_goals first
            | (refine ⟨⟨k + 1, _, rfl, rfl, (by first | rfl | (congr 1; omega)), by omega, by omega, by omega⟩, by simp [intOf]; omega⟩)
            | (go_ret2; exact ⟨⟨_, _, rfl, by first | exact .inr (.inl rfl) | exact .inr (.inr rfl)⟩, HBW.out⟩)
        · by_cases h95 : c = 95
          · subst h95
            by_cases hl : 97 ≤ low 95 ∧ low 95 ≤ 122
            · obtain ⟨hl2, hl3⟩ := hl
              go_wp2_with (go_at_call 68; refine ((HL.out _).2 _).mono ?_; rintro e u1 ⟨rfl, rfl⟩)
              all_goals first
                | (refine ⟨⟨k + 1, _, rfl, rfl, (by first | rfl | (congr 1; omega)), by omega, by omega, by omega⟩, by simp [intOf]; omega⟩)
                | (go_ret2; exact ⟨⟨_, _, rfl, by first | exact .inr (.inl rfl) | exact .inr (.inr rfl)⟩, HBW.out⟩)
            · go_wp2_with (go_at_call 68; refine ((HL.out _).2 _).mono ?_; rintro e u1 ⟨rfl, rfl⟩)
              all_goals (go_ret2; exact ⟨⟨_, _, rfl, by first | exact .inr (.inl rfl) | exact .inr (.inr rfl)⟩, HBW.out⟩)
          · by_cases hl : 97 ≤ low c ∧ low c ≤ 122
            · obtain ⟨hl2, hl3⟩ := hl
              go_wp2_with (go_at_call 68; refine ((HL.out _).2 _).mono ?_; rintro e u1 ⟨rfl, rfl⟩)
              all_goals first
                | (refine ⟨⟨k + 1, _, rfl, rfl, (by first | rfl | (congr 1; omega)), by omega, by omega, by omega⟩, by simp [intOf]; omega⟩)
                | (go_ret2; exact ⟨⟨_, _, rfl, by first | exact .inr (.inl rfl) | exact .inr (.inr rfl)⟩, HBW.out⟩)
            · go_wp2_with (go_at_call 68; refine ((HL.out _).2 _).mono ?_; rintro e u1 ⟨rfl, rfl⟩)
              all_goals (go_ret2; exact ⟨⟨_, _, rfl, by first | exact .inr (.inl rfl) | exact .inr (.inr rfl)⟩, HBW.out⟩)
      · have hkk : k = t.size := by omega
        subst hkk
        go_wp2
        go_ret2
        exact ⟨⟨_, _, rfl, .inl rfl⟩, HBW.out⟩
end Go.Proofs.YtafcnijfoejboaaDoor.W
