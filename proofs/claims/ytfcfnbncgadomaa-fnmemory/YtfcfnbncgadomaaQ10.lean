import Derived.Test.YtfcfnbncgadomaaQ03
import Derived.Test.YtfcfnbncgadomaaQ09
import Derived.Test.YtfcfnbncgadomaaQ01
import Derived.Laws.AppendOwnNone
import Derived.Lib.SliceRun
set_option linter.unusedVariables false
set_option linter.unusedSimpArgs false
namespace Go.Proofs.Ytfcfnbncgadomaa.W
open Go.RowKit
theorem enc_wf (k : Nat) (h1 : 1 ≤ k) (h2 : k ≤ 47) (rd r1 r2 im : Int) (hok : Pl.okF (Pl.fmN k) rd r1 r2 im = true) : 0 ≤ Pl.enc k rd r1 r2 im ∧ Pl.enc k rd r1 r2 im ≤ 1099511627776 := by
  obtain ⟨g0, g1, g2, g3⟩ := Pl.okF_parts hok
  obtain ⟨a1, a2, _⟩ := Pl.rg_bd g0
  obtain ⟨b1, b2, _⟩ := Pl.rg_bd g1
  obtain ⟨c1, c2, _⟩ := Pl.rg_bd g2
  obtain ⟨f1, f2, _⟩ := Pl.fm_cases k (by omega) h1
  obtain ⟨i1, i2⟩ := Pl.imw_bd _ f1 f2 im
  obtain ⟨p0, q0⟩ := Pl.cc_bd' k (by omega) 0 (by omega)
  obtain ⟨p1, q1⟩ := Pl.cc_bd' k (by omega) 1 (by omega)
  obtain ⟨p2, q2⟩ := Pl.cc_bd' k (by omega) 2 (by omega)
  obtain ⟨p3, q3⟩ := Pl.cc_bd' k (by omega) 3 (by omega)
  unfold Pl.enc Pl.cw
  generalize Pl.imw (Pl.fmN k) im = M at *
  generalize Pl.cc k 0 = x0 at *
  generalize Pl.cc k 1 = x1 at *
  generalize Pl.cc k 2 = x2 at *
  generalize Pl.cc k 3 = x3 at *
  omega
theorem ew_wf (n rd r1 r2 im : Int) : 0 ≤ ew n rd r1 r2 im ∧ ew n rd r1 r2 im ≤ 1099511627776 := by
  unfold ew
  split
  · rename_i h
    obtain ⟨k, rfl, k1, k2, hk⟩ := iok_nat h
    exact enc_wf k k1 k2 rd r1 r2 im hk
  · omega
theorem l3Words_any (w : World) (c : Nat) (h : RdOk w c) : Calls Try.prog 68 #[.pointer (some ⟨c, 0, none⟩)] w fun e w' => ∃ (g len cap : Nat), e = .returned (.slice (some ⟨g, 0, none⟩) len cap) ∧ (∃ zs : List Int, Own .i64 3 w.heap.size w' (some ⟨g, 0, none⟩) len cap zs) ∧ len ≤ 12 ∧ RdOk w' c ∧ OnlyB c w w' :=
  l3Words_core (fun n rd r1 r2 im w => (specEnc_all n rd r1 r2 im w).mono fun e w' ⟨he, hb⟩ => ⟨_, _, he, ew_wf n rd r1 r2 im, hb⟩) w c h
end Go.Proofs.Ytfcfnbncgadomaa.W
namespace Go.Proofs.Ytfcfnbncgadomaa.W
open Go.RowKit
set_option maxHeartbeats 1000000 in
theorem cloneInts_any {lo : Nat} (a : Option Addr) (len cap : Nat) (zs : List Int) (w : World) (h : Own .i64 3 lo w a len cap zs) (hsz : len ≤ 1048576) :
    Calls Try.prog 54 #[.slice a len cap] w fun e w' => ∃ a' cap', e = .returned (.slice a' len cap') ∧ Own .i64 3 w.heap.size w' a' len cap' zs ∧ Below w.heap.size w w' := by
  obtain ⟨i0, hi, hz0, hz1, hz2⟩ := info_parts Try.infoi64
  have hq : ∀ (w : World) (a : Option Addr) (n c n' c' : Nat), (binOp .eql 23 (.slice a n c) (.slice none n' c')).run Try.prog w = .ok (.bool a.isNone) w := fun w a n c n' c' => Lib.run_eql_slice_nil w _ _ a n c n' c' Try.underlying23
  obtain ⟨hown, hwf⟩ := h
  have hl : zs.length = len := by have := hown.1; simpa using this
  have HW : Hid (∀ n ∈ zs, (Lit.int .i64 n).wf = true) := hwf
  have HO : Hid (w.ownsRow lo 3 1 (.slice a len cap) len (zs.map (Value.int .i64))) := hown
  clear hwf
  rcases hown.2 with ⟨h0, h1⟩ | ⟨g, cap', cur, h0, hlo, hg, hnc, hcm, hcs, htake⟩
  · simp only [Value.slice.injEq] at h0
    obtain ⟨rfl, rfl, rfl⟩ := h0
    have hz : zs = [] := by cases zs with | nil => rfl | cons => simp at hl
    subst hz
    clear hown hl
    go_enter Try.func54, Try.ntmps54
    go_wp2
    go_ret
    exact ⟨none, 0, rfl, ⟨World.ownsRow_nil _ _ _ _, fun n hn => (by cases hn)⟩, Below.refl _ _⟩
  · simp only [Value.slice.injEq] at h0
    obtain ⟨rfl, _, rfl⟩ := h0
    have hE : (w.alloc (.cells #[] 3)).ownsRow w.heap.size 3 1 (.slice (some ⟨w.heap.size, 0, none⟩) 0 0) 0 [] := World.ownsRow_lit w #[] 0 (Nat.le_refl _) (Nat.zero_le _) rfl
    have HL : Hid (g < w.heap.size) := (Array.getElem?_eq_some_iff.1 hg).1
    have HN : Hid (∀ j u, (zs.map (Value.int .i64))[j]? = some u → (w.alloc (.cells #[] 3)).cell? ((⟨g, 0, none⟩ : Addr).add j) = some u) := fun j u hj => ((hown.alloc _).cells (g := g) rfl j u hj)
    clear hown hg hcs htake hlo hcm hnc
    go_enter Try.func54, Try.ntmps54
    go_wp2_with (at_builtin; refine wpList_append_own _ rfl (.tmp 5) (.tmp 6) 23 rfl w.heap.size 3 i0 (.int .i64 0) 1 8 Try.underlying23 hi hz0 hz1 hz2 rfl (by decide) _ 0 [] rfl hE ⟨g, 0, none⟩ len cap (zs.map (Value.int .i64)) rfl (by rw [List.length_map, hl, Nat.mul_one]) HN.out (by intro u hu; obtain ⟨n, _, rfl⟩ := List.mem_map.1 hu; rfl) (by unfold maxLen; omega) (by omega) (by simp) ?_)
    intro v' u1 hown' hgr _
    have HO' : Hid (u1.ownsRow w.heap.size 3 1 v' len (zs.map (Value.int .i64))) := by show u1.ownsRow _ _ _ _ _ _; simpa using hown'
    have HB : Hid (Below w.heap.size w u1) := (below_alloc w _).grown hgr (by simp) (fun k hk => by simp [Value.ownBlock] at hk; omega)
    clear hown' hgr hE HN HO
    obtain ⟨a', c', hv⟩ : ∃ a' c', v' = .slice a' len c' := by
      rcases HO'.out.2 with ⟨q0, q1⟩ | ⟨g', c', _, q0, _⟩
      · subst q1; exact ⟨none, 0, q0⟩
      · exact ⟨_, c', q0⟩
    subst hv
    go_wp2
    go_ret
    exact ⟨a', c', rfl, ⟨HO'.out, HW.out⟩, HB.out⟩
set_option maxHeartbeats 1000000 in
theorem l3Ints_any {lo : Nat} (a : Option Addr) (len cap : Nat) (zs : List Int) (w : World) (h : Own .i64 3 lo w a len cap zs) (hsz : len ≤ 1048576) :
    Calls Try.prog 48 #[.slice a len cap] w fun e w' => ∃ a' cap', e = .returned (.slice a' len cap') ∧ Own .i64 3 w.heap.size w' a' len cap' zs ∧ Below w.heap.size w w' := by
  obtain ⟨i0, hi, hz0, hz1, hz2⟩ := info_parts Try.infoi64
  have hq : ∀ (w : World) (a : Option Addr) (n c n' c' : Nat), (binOp .eql 23 (.slice a n c) (.slice none n' c')).run Try.prog w = .ok (.bool a.isNone) w := fun w a n c n' c' => Lib.run_eql_slice_nil w _ _ a n c n' c' Try.underlying23
  obtain ⟨hown, hwf⟩ := h
  have hl : zs.length = len := by have := hown.1; simpa using this
  have HW : Hid (∀ n ∈ zs, (Lit.int .i64 n).wf = true) := hwf
  have HO : Hid (w.ownsRow lo 3 1 (.slice a len cap) len (zs.map (Value.int .i64))) := hown
  clear hwf
  rcases hown.2 with ⟨h0, h1⟩ | ⟨g, cap', cur, h0, hlo, hg, hnc, hcm, hcs, htake⟩
  · simp only [Value.slice.injEq] at h0
    obtain ⟨rfl, rfl, rfl⟩ := h0
    have hz : zs = [] := by cases zs with | nil => rfl | cons => simp at hl
    subst hz
    clear hown hl
    have hE : (w.alloc (.cells #[] 3)).ownsRow w.heap.size 3 1 (.slice (some ⟨w.heap.size, 0, none⟩) 0 0) 0 [] := World.ownsRow_lit w #[] 0 (Nat.le_refl _) (Nat.zero_le _) rfl
    go_enter Try.func48, Try.ntmps48
    go_wp2_with (at_builtin; refine wpList_append_own_none rfl (.tmp 5) (.tmp 6) 23 rfl w.heap.size 3 i0 1 Try.underlying23 hi _ 0 [] rfl hE rfl ?_)
    go_ret
    exact ⟨_, _, rfl, ⟨hE, fun n hn => (by cases hn)⟩, below_alloc _ _⟩
  · simp only [Value.slice.injEq] at h0
    obtain ⟨rfl, _, rfl⟩ := h0
    have hE : (w.alloc (.cells #[] 3)).ownsRow w.heap.size 3 1 (.slice (some ⟨w.heap.size, 0, none⟩) 0 0) 0 [] := World.ownsRow_lit w #[] 0 (Nat.le_refl _) (Nat.zero_le _) rfl
    have HL : Hid (g < w.heap.size) := (Array.getElem?_eq_some_iff.1 hg).1
    have HN : Hid (∀ j u, (zs.map (Value.int .i64))[j]? = some u → (w.alloc (.cells #[] 3)).cell? ((⟨g, 0, none⟩ : Addr).add j) = some u) := fun j u hj => ((hown.alloc _).cells (g := g) rfl j u hj)
    clear hown hg hcs htake hlo hcm hnc
    go_enter Try.func48, Try.ntmps48
    go_wp2_with (at_builtin; refine wpList_append_own _ rfl (.tmp 5) (.tmp 6) 23 rfl w.heap.size 3 i0 (.int .i64 0) 1 8 Try.underlying23 hi hz0 hz1 hz2 rfl (by decide) _ 0 [] rfl hE ⟨g, 0, none⟩ len cap (zs.map (Value.int .i64)) rfl (by rw [List.length_map, hl, Nat.mul_one]) HN.out (by intro u hu; obtain ⟨n, _, rfl⟩ := List.mem_map.1 hu; rfl) (by unfold maxLen; omega) (by omega) (by simp) ?_)
    intro v' u1 hown' hgr _
    have HO' : Hid (u1.ownsRow w.heap.size 3 1 v' len (zs.map (Value.int .i64))) := by show u1.ownsRow _ _ _ _ _ _; simpa using hown'
    have HB : Hid (Below w.heap.size w u1) := (below_alloc w _).grown hgr (by simp) (fun k hk => by simp [Value.ownBlock] at hk; omega)
    clear hown' hgr hE HN HO
    obtain ⟨a', c', hv⟩ : ∃ a' c', v' = .slice a' len c' := by
      rcases HO'.out.2 with ⟨q0, q1⟩ | ⟨g', c', _, q0, _⟩
      · subst q1; exact ⟨none, 0, q0⟩
      · exact ⟨_, c', q0⟩
    subst hv
    go_wp2
    go_ret
    exact ⟨a', c', rfl, ⟨HO'.out, HW.out⟩, HB.out⟩
set_option maxHeartbeats 1000000 in
theorem cloneBytes_any {lo : Nat} (a : Option Addr) (len cap : Nat) (zs : List Int) (w : World) (h : Own .u8 5 lo w a len cap zs) (hsz : len ≤ 1048576) :
    Calls Try.prog 55 #[.slice a len cap] w fun e w' => ∃ a' cap', e = .returned (.slice a' len cap') ∧ Own .u8 5 w.heap.size w' a' len cap' zs ∧ Below w.heap.size w w' := by
  obtain ⟨i0, hi, hz0, hz1, hz2⟩ := info_parts Try.infou8
  have hq : ∀ (w : World) (a : Option Addr) (n c n' c' : Nat), (binOp .eql 22 (.slice a n c) (.slice none n' c')).run Try.prog w = .ok (.bool a.isNone) w := fun w a n c n' c' => Lib.run_eql_slice_nil w _ _ a n c n' c' Try.underlying22
  obtain ⟨hown, hwf⟩ := h
  have hl : zs.length = len := by have := hown.1; simpa using this
  have HW : Hid (∀ n ∈ zs, (Lit.int .u8 n).wf = true) := hwf
  have HO : Hid (w.ownsRow lo 5 1 (.slice a len cap) len (zs.map (Value.int .u8))) := hown
  clear hwf
  rcases hown.2 with ⟨h0, h1⟩ | ⟨g, cap', cur, h0, hlo, hg, hnc, hcm, hcs, htake⟩
  · simp only [Value.slice.injEq] at h0
    obtain ⟨rfl, rfl, rfl⟩ := h0
    have hz : zs = [] := by cases zs with | nil => rfl | cons => simp at hl
    subst hz
    clear hown hl
    go_enter Try.func55, Try.ntmps55
    go_wp2
    go_ret
    exact ⟨none, 0, rfl, ⟨World.ownsRow_nil _ _ _ _, fun n hn => (by cases hn)⟩, Below.refl _ _⟩
  · simp only [Value.slice.injEq] at h0
    obtain ⟨rfl, _, rfl⟩ := h0
    have hE : (w.alloc (.cells #[] 5)).ownsRow w.heap.size 5 1 (.slice (some ⟨w.heap.size, 0, none⟩) 0 0) 0 [] := World.ownsRow_lit w #[] 0 (Nat.le_refl _) (Nat.zero_le _) rfl
    have HL : Hid (g < w.heap.size) := (Array.getElem?_eq_some_iff.1 hg).1
    have HN : Hid (∀ j u, (zs.map (Value.int .u8))[j]? = some u → (w.alloc (.cells #[] 5)).cell? ((⟨g, 0, none⟩ : Addr).add j) = some u) := fun j u hj => ((hown.alloc _).cells (g := g) rfl j u hj)
    clear hown hg hcs htake hlo hcm hnc
    go_enter Try.func55, Try.ntmps55
    go_wp2_with (at_builtin; refine wpList_append_own _ rfl (.tmp 5) (.tmp 6) 22 rfl w.heap.size 5 i0 (.int .u8 0) 1 1 Try.underlying22 hi hz0 hz1 hz2 rfl (by decide) _ 0 [] rfl hE ⟨g, 0, none⟩ len cap (zs.map (Value.int .u8)) rfl (by rw [List.length_map, hl, Nat.mul_one]) HN.out (by intro u hu; obtain ⟨n, _, rfl⟩ := List.mem_map.1 hu; rfl) (by unfold maxLen; omega) (by omega) (by simp) ?_)
    intro v' u1 hown' hgr _
    have HO' : Hid (u1.ownsRow w.heap.size 5 1 v' len (zs.map (Value.int .u8))) := by show u1.ownsRow _ _ _ _ _ _; simpa using hown'
    have HB : Hid (Below w.heap.size w u1) := (below_alloc w _).grown hgr (by simp) (fun k hk => by simp [Value.ownBlock] at hk; omega)
    clear hown' hgr hE HN HO
    obtain ⟨a', c', hv⟩ : ∃ a' c', v' = .slice a' len c' := by
      rcases HO'.out.2 with ⟨q0, q1⟩ | ⟨g', c', _, q0, _⟩
      · subst q1; exact ⟨none, 0, q0⟩
      · exact ⟨_, c', q0⟩
    subst hv
    go_wp2
    go_ret
    exact ⟨a', c', rfl, ⟨HO'.out, HW.out⟩, HB.out⟩
set_option maxHeartbeats 1000000 in
theorem l3Bytes_any {lo : Nat} (a : Option Addr) (len cap : Nat) (zs : List Int) (w : World) (h : Own .u8 5 lo w a len cap zs) (hsz : len ≤ 1048576) :
    Calls Try.prog 49 #[.slice a len cap] w fun e w' => ∃ a' cap', e = .returned (.slice a' len cap') ∧ Own .u8 5 w.heap.size w' a' len cap' zs ∧ Below w.heap.size w w' := by
  obtain ⟨i0, hi, hz0, hz1, hz2⟩ := info_parts Try.infou8
  have hq : ∀ (w : World) (a : Option Addr) (n c n' c' : Nat), (binOp .eql 22 (.slice a n c) (.slice none n' c')).run Try.prog w = .ok (.bool a.isNone) w := fun w a n c n' c' => Lib.run_eql_slice_nil w _ _ a n c n' c' Try.underlying22
  obtain ⟨hown, hwf⟩ := h
  have hl : zs.length = len := by have := hown.1; simpa using this
  have HW : Hid (∀ n ∈ zs, (Lit.int .u8 n).wf = true) := hwf
  have HO : Hid (w.ownsRow lo 5 1 (.slice a len cap) len (zs.map (Value.int .u8))) := hown
  clear hwf
  rcases hown.2 with ⟨h0, h1⟩ | ⟨g, cap', cur, h0, hlo, hg, hnc, hcm, hcs, htake⟩
  · simp only [Value.slice.injEq] at h0
    obtain ⟨rfl, rfl, rfl⟩ := h0
    have hz : zs = [] := by cases zs with | nil => rfl | cons => simp at hl
    subst hz
    clear hown hl
    have hE : (w.alloc (.cells #[] 5)).ownsRow w.heap.size 5 1 (.slice (some ⟨w.heap.size, 0, none⟩) 0 0) 0 [] := World.ownsRow_lit w #[] 0 (Nat.le_refl _) (Nat.zero_le _) rfl
    go_enter Try.func49, Try.ntmps49
    go_wp2_with (at_builtin; refine wpList_append_own_none rfl (.tmp 5) (.tmp 6) 22 rfl w.heap.size 5 i0 1 Try.underlying22 hi _ 0 [] rfl hE rfl ?_)
    go_ret
    exact ⟨_, _, rfl, ⟨hE, fun n hn => (by cases hn)⟩, below_alloc _ _⟩
  · simp only [Value.slice.injEq] at h0
    obtain ⟨rfl, _, rfl⟩ := h0
    have hE : (w.alloc (.cells #[] 5)).ownsRow w.heap.size 5 1 (.slice (some ⟨w.heap.size, 0, none⟩) 0 0) 0 [] := World.ownsRow_lit w #[] 0 (Nat.le_refl _) (Nat.zero_le _) rfl
    have HL : Hid (g < w.heap.size) := (Array.getElem?_eq_some_iff.1 hg).1
    have HN : Hid (∀ j u, (zs.map (Value.int .u8))[j]? = some u → (w.alloc (.cells #[] 5)).cell? ((⟨g, 0, none⟩ : Addr).add j) = some u) := fun j u hj => ((hown.alloc _).cells (g := g) rfl j u hj)
    clear hown hg hcs htake hlo hcm hnc
    go_enter Try.func49, Try.ntmps49
    go_wp2_with (at_builtin; refine wpList_append_own _ rfl (.tmp 5) (.tmp 6) 22 rfl w.heap.size 5 i0 (.int .u8 0) 1 1 Try.underlying22 hi hz0 hz1 hz2 rfl (by decide) _ 0 [] rfl hE ⟨g, 0, none⟩ len cap (zs.map (Value.int .u8)) rfl (by rw [List.length_map, hl, Nat.mul_one]) HN.out (by intro u hu; obtain ⟨n, _, rfl⟩ := List.mem_map.1 hu; rfl) (by unfold maxLen; omega) (by omega) (by simp) ?_)
    intro v' u1 hown' hgr _
    have HO' : Hid (u1.ownsRow w.heap.size 5 1 v' len (zs.map (Value.int .u8))) := by show u1.ownsRow _ _ _ _ _ _; simpa using hown'
    have HB : Hid (Below w.heap.size w u1) := (below_alloc w _).grown hgr (by simp) (fun k hk => by simp [Value.ownBlock] at hk; omega)
    clear hown' hgr hE HN HO
    obtain ⟨a', c', hv⟩ : ∃ a' c', v' = .slice a' len c' := by
      rcases HO'.out.2 with ⟨q0, q1⟩ | ⟨g', c', _, q0, _⟩
      · subst q1; exact ⟨none, 0, q0⟩
      · exact ⟨_, c', q0⟩
    subst hv
    go_wp2
    go_ret
    exact ⟨a', c', rfl, ⟨HO'.out, HW.out⟩, HB.out⟩
end Go.Proofs.Ytfcfnbncgadomaa.W
