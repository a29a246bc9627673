import Derived.Test.YtgpmplcamdophaaDoorQtE
set_option linter.unusedVariables false
set_option linter.unusedSimpArgs false
namespace Go.Proofs.YtgpmplcamdophaaDoor.W
open Go.RowKit
theorem one_cell_m (m : Nat) (hm : m < 256) (w : World) (j : Nat) (u : Value) (hj : (Pl.cl [UInt8.ofNat m])[j]? = some u) : (w.alloc (.cells #[.int .u8 (m : Int)] 5)).cell? ((⟨w.heap.size, 0, none⟩ : Addr).add j) = some u := by
  rcases j with _ | j
  · have e : ((UInt8.ofNat m).toNat : Int) = (m : Int) := by simp; omega
    simp only [Pl.cl, List.map_cons, List.map_nil, List.getElem?_cons_zero, Option.some.injEq, e] at hj
    subst hj
    exact cell_of_row _ w.heap.size 0 _ 5 (0, 0) (heap_alloc_new w _)
  · simp [Pl.cl] at hj
set_option maxHeartbeats 2000000 in
theorem quote_any (s : ByteArray) (hs : s.size ≤ 1048576) (m : Nat) (hm : m = 34 ∨ m = 39) (b cap : Nat) (w : World) (hd : DbLies w) (hb : b < w.heap.size) (hcs : ∀ j (h : j < s.size), w.cell? ⟨b, j, none⟩ = some (.int .u8 ((s[j]'h).toNat : Int))) :
    Calls Tryd.prog 17 #[.slice (some ⟨b, 0, none⟩) s.size cap, .int .u8 m] w fun e w' => e = .returned (.string (Pl.qt s m)) ∧ Below w.heap.size w w' := by
  obtain ⟨i0, hi, hz0, hz1, hz2⟩ := info_parts qinfou8
  have hm' : m < 256 := by omega
  have em : ((UInt8.ofNat m).toNat : Int) = (m : Int) := by simp; omega
  have H0 : Hid ((w.alloc (.cells #[.int .u8 (m : Int)] 5)).ownsRow w.heap.size 5 1 (.slice (some ⟨w.heap.size, 0, none⟩) 1 1) 1 (Pl.cl (Pl.qc s m 0))) := by
    show (w.alloc _).ownsRow _ _ _ _ _ _
    rw [Pl.qc_zero]
    have := World.ownsRow_lit w #[.int .u8 (m : Int)] 1 (base := w.heap.size) (e := 5) (size := 1) (Nat.le_refl _) (by decide) rfl
    rw [show Pl.cl [UInt8.ofNat m] = [.int .u8 (m : Int)] by rw [← em]; rfl]
    exact this
  have HC : Hid (∀ j (h : j < s.size), w.cell? ⟨b, j, none⟩ = some (.int .u8 ((s[j]'h).toNat : Int))) := hcs
  have HD : Hid (DbLies w) := hd
  clear hcs hd em
  go_enter Tryd.func17, Tryd.ntmps17
  go_wp2_with fail
  go_loopw [5, 12] (fun v i wr => ∃ k : Nat, k ≤ s.size ∧ i = .int .i64 k ∧ wr.ownsRow w.heap.size 5 1 v (Pl.qc s m k).length (Pl.cl (Pl.qc s m k)) ∧ Below w.heap.size w wr) (fun _ i _ => s.size - (intOf i).toNat)
  case atStart => exact ⟨0, Nat.zero_le _, rfl, by rw [show (Pl.qc s m 0).length = 1 from rfl]; exact H0.out, (Below.refl _ _).alloc (Nat.le_refl _) _⟩
  case round =>
    obtain ⟨k, hk, rfl, hown, hbel⟩ := hrel
    have HO : Hid (wr.ownsRow w.heap.size 5 1 _ (Pl.qc s m k).length (Pl.cl (Pl.qc s m k))) := hown
    have HB : Hid (Below w.heap.size w wr) := hbel
    clear hown hbel H0
    by_cases hlt : k < s.size
    · have hi' : (k : Int) < (s.size : Int) := by omega
      have hc256 : (s[k]'hlt).toNat < 256 := (s[k]'hlt).toNat_lt
      have hcell : wr.cell? ⟨b, k, none⟩ = some (.int .u8 ((s[k]'hlt).toNat : Int)) := (HB.out.cell (p := ⟨b, k, none⟩) hb).trans (HC.out k hlt)
      have HDr : Hid (DbLies wr) := HD.out.below HB.out
      go_wp2_with (first | (go_at_call 27; refine (byteText_any (s[k]'hlt).toNat m hc256 hm _ HDr.out).mono ?_; rintro e u1 ⟨rfl, hb1⟩) | (at_builtin; refine Lib.wpList_append_own_string _ rfl (.tmp 16) (.tmp 19) 26 9 rfl w.heap.size 5 i0 Tryd.underlying26 Tryd.underlying9 hi hz0 hz1 hz2 _ _ _ rfl (ow_keep HO.out hb1) _ rfl (by have := Pl.qc_len s m k hk; have := Pl.shown_len (s[k]'hlt).toNat m; show _ + (Pl.shown (s[k]'hlt).toNat m).length ≤ _; unfold maxLen; omega) (by have := Pl.qc_len s m k hk; have := Pl.shown_len (s[k]'hlt).toNat m; show _ + (Pl.shown (s[k]'hlt).toNat m).length ≤ _; omega) (Nat.le_trans HB.out.size hb1.size) ?_; intro v' u2 hown' hgr _; rw [Pl.cl_str, ← Pl.cl_app] at hown'))
      refine ⟨⟨k + 1, by omega, by go_num, ?_, ?_⟩, by simp [intOf]; omega⟩
      · rw [Pl.qc_succ s m k hlt, List.length_append]; exact hown'
      · exact (HB.out.trans (hb1.mono HB.out.size)).grown hgr (Nat.le_trans HB.out.size hb1.size) (fun j hj => (HO.out.lt j hj).1)
    · have hi' : ¬ (k : Int) < (s.size : Int) := by omega
      obtain rfl : s.size = k := by omega
      have HE : Hid ((wr.alloc (.cells #[.int .u8 (m : Int)] 5)).ownsRow w.heap.size 5 1 _ (Pl.qc s m s.size).length (Pl.cl (Pl.qc s m s.size))) := HO.out.alloc _
      go_wp2_with (first | (at_builtin; refine wpList_append_own _ rfl (.tmp 22) (.tmp 24) 26 rfl w.heap.size 5 i0 (.int .u8 0) 1 1 Tryd.underlying26 hi hz0 hz1 hz2 rfl (by decide) _ _ _ rfl HE.out ⟨wr.heap.size, 0, none⟩ 1 _ (Pl.cl [UInt8.ofNat m]) rfl rfl (one_cell_m m hm' wr) (by intro u hu; obtain ⟨n, _, rfl⟩ := List.mem_map.1 hu; rfl) (by have := Pl.qc_len s m s.size (Nat.le_refl _); unfold maxLen; omega) (by have := Pl.qc_len s m s.size (Nat.le_refl _); omega) (Nat.le_trans HB.out.size (by simp)) ?_; intro v' u2 hown' hgr _; rw [← Pl.cl_app] at hown'; have hst := own_string hown' (Nat.succ_pos _)))
      go_ret
      refine ⟨rfl, ?_⟩
      exact (HB.out.trans (((Below.refl _ _).alloc (Nat.le_refl _) _).mono HB.out.size)).grown hgr (Nat.le_trans HB.out.size (by simp)) (fun j hj => (HO.out.lt j hj).1)
theorem quote_34 (s : ByteArray) (hs : s.size ≤ 1048576) (b cap : Nat) (w : World) (hd : DbLies w) (hb : b < w.heap.size) (hcs : ∀ j (h : j < s.size), w.cell? ⟨b, j, none⟩ = some (.int .u8 ((s[j]'h).toNat : Int))) :
    Calls Tryd.prog 17 #[.slice (some ⟨b, 0, none⟩) s.size cap, .int .u8 34] w fun e w' => e = .returned (.string (Pl.qt s 34)) ∧ Below w.heap.size w w' := quote_any s hs 34 (.inl rfl) b cap w hd hb hcs
theorem bw_byte (w : World) (s : ByteArray) (j : Nat) (h : j < s.size) : (Lib.bytesWorld w 5 s).cell? ⟨w.heap.size, j, none⟩ = some (.int .u8 ((s[j]'h).toNat : Int)) := by
  rw [Lib.bytesWorld_cell w 5 s j h]
  obtain ⟨⟨l⟩⟩ := s
  have hl : j < l.length := h
  simp [List.getD, List.getElem?_eq_getElem hl]
  rfl
theorem implQuote_any (s : ByteArray) (hs : s.size ≤ 1048576) (w : World) (hd : DbLies w) : Calls Tryd.prog 6 #[.string s] w fun e w' => e = .returned (.string (Pl.qt s 34)) ∧ Below w.heap.size w w' := by
  have hcv : ∀ (u : World) (t : ByteArray), (convert 9 26 (.string t)).run Tryd.prog u = .ok (.slice (some ⟨u.heap.size, 0, none⟩) t.size (grownCap u t.size 0 5)) (Lib.bytesWorld u 5 t) := fun u t => Lib.run_convert_string_bytes u 9 26 5 t Tryd.underlying9 Tryd.underlying26 Tryd.underlying5
  have HD : Hid (DbLies w) := hd
  clear hd
  have HW : Hid (Below w.heap.size w (Lib.bytesWorld w 5 s)) := Joins.below_bytesWorld _ _ 5 _ (Nat.le_refl _)
  go_enter Tryd.func6, Tryd.ntmps6
  go_wp2_with (go_at_call 17; refine (quote_34 s hs w.heap.size _ _ (HD.out.below HW.out) (by rw [Lib.bytesWorld_size]; omega) (bw_byte w s)).mono ?_; rintro e u1 ⟨rfl, hb1⟩)
  go_ret
  exact ⟨rfl, HW.out.trans (hb1.mono HW.out.size)⟩
set_option maxHeartbeats 400000 in
theorem fnExactQuoteText_walk (a0 : ByteArray) (w0 : a0.size ≤ maxLen) (w : World) (hr : DbLies w) :
    Calls Tryd.prog 3 #[.string a0] w fun e w' => e = .returned (.bool true) ∧ Below w.heap.size w w' := by
  have HR : Hid (DbLies w) := hr
  clear hr
  unfold maxLen at w0
  by_cases hl : 1048576 < a0.size
  · have h' : (1048576 : Int) < (a0.size : Int) := by omega
    go_enter Tryd.func3, Tryd.ntmps3
    go_wp2
    go_ret
    exact ⟨rfl, Below.refl _ _⟩
  · have h' : ¬ (1048576 : Int) < (a0.size : Int) := by omega
    have hs : a0.size ≤ 1048576 := by omega
    clear hl
    go_enter Tryd.func3, Tryd.ntmps3
    go_wp2_with (first | (go_at_call 5; refine (specQuote_any a0 hs _).mono ?_; rintro e u1 ⟨rfl, hb1⟩) | (go_at_call 6; refine (implQuote_any a0 hs _ (HR.out.below hb1)).mono ?_; rintro e u2 ⟨rfl, hb2⟩))
    go_ret
    exact ⟨rfl, hb1.trans (hb2.mono hb1.size)⟩
end Go.Proofs.YtgpmplcamdophaaDoor.W
