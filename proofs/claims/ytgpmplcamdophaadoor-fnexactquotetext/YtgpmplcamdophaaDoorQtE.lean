import Derived.Test.YtgpmplcamdophaaDoorQtD
import Derived.Lib.SmallJoins
import Derived.OwnWalk
set_option linter.unusedVariables false
set_option linter.unusedSimpArgs false
namespace Go.Proofs.YtgpmplcamdophaaDoor.Pl
/-- the cells of bytes -/
def cl (l : List UInt8) : List Value := l.map fun b => Value.int .u8 (b.toNat : Int)
theorem cl_len (l : List UInt8) : (cl l).length = l.length := by simp [cl]
theorem cl_app (a b : List UInt8) : cl (a ++ b) = cl a ++ cl b := by simp [cl]
theorem cl_str (l : List UInt8) : Lib.strCells ⟨l.toArray⟩ = cl l := by simp [Lib.strCells, cl]
/-- the mark and the first k bytes, as they stand behind it -/
def qc (s : ByteArray) (m k : Nat) : List UInt8 := UInt8.ofNat m :: (s.data.toList.take k).flatMap fun b => shown b.toNat m
/-- the whole text -/
def qt (s : ByteArray) (m : Nat) : ByteArray := ⟨(qc s m s.size ++ [UInt8.ofNat m]).toArray⟩
theorem qc_zero (s : ByteArray) (m : Nat) : qc s m 0 = [UInt8.ofNat m] := by simp [qc]
theorem qc_succ (s : ByteArray) (m k : Nat) (h : k < s.size) : qc s m (k + 1) = qc s m k ++ shown (s[k]'h).toNat m := by
  obtain ⟨⟨l⟩⟩ := s
  have hl : k < l.length := h
  unfold qc
  show _ :: (l.take (k + 1)).flatMap _ = _ :: (l.take k).flatMap _ ++ _
  rw [List.take_add_one, List.getElem?_eq_getElem hl, List.flatMap_append]
  simp only [Option.toList_some, List.flatMap_cons, List.flatMap_nil, List.append_nil, List.cons_append]
  rfl
theorem qc_len (s : ByteArray) (m : Nat) : ∀ k, k ≤ s.size → (qc s m k).length ≤ 1 + 4 * k
  | 0, _ => by simp [qc]
  | k + 1, h => by
    rw [qc_succ s m k (by omega)]
    have := qc_len s m k (by omega)
    have := shown_len (s[k]'(by omega)).toNat m
    simp only [List.length_append]
    omega
theorem qc_pos (s : ByteArray) (m k : Nat) : 1 ≤ (qc s m k).length := by simp [qc]
end Go.Proofs.YtgpmplcamdophaaDoor.Pl
namespace Go.Proofs.YtgpmplcamdophaaDoor.W
open Go.RowKit
theorem qinfou8 : (Tryd.prog.info? 5).map (fun i => (i.zero, i.size, i.bytes)) = some (some (.int .u8 0), 1, 1) := by kernel_rfl
theorem l5Shown_34 (c : Nat) (h : c < 256) (w : World) : Calls Tryd.prog 16 #[.int .i64 c, .int .u8 34] w fun e w' => e = .returned (.string ⟨(Pl.shown c 34).toArray⟩) ∧ Below w.heap.size w w' := l5Shown_any c 34 h (by decide) w
theorem ow_keep {B : Nat} {e : TypeId} {k : Nat} {v : Value} {n : Nat} {xs : List Value} {w w' : World} (h : w.ownsRow B e k v n xs) (hb : Below w.heap.size w w') : w'.ownsRow B e k v n xs := by
  refine ⟨h.1, ?_⟩
  rcases h.2 with ⟨a, b⟩ | ⟨g, cap, cur, h0, hlo, hg, r⟩
  · exact .inl ⟨a, b⟩
  · exact .inr ⟨g, cap, cur, h0, hlo, (hb.block g (Array.getElem?_eq_some_iff.1 hg).1).trans hg, r⟩
theorem bw_cells (w : World) (l : List UInt8) (j : Nat) (u : Value) (hj : (Pl.cl l)[j]? = some u) : (Lib.bytesWorld w 5 ⟨l.toArray⟩).cell? ((⟨w.heap.size, 0, none⟩ : Addr).add j) = some u := by
  have hl : j < l.length := by have := (List.getElem?_eq_some_iff.1 hj).1; rwa [Pl.cl_len] at this
  have := Lib.bytesWorld_cell w 5 ⟨l.toArray⟩ j (by simpa [ByteArray.size] using hl)
  simp only [Pl.cl, List.getElem?_map, List.getElem?_eq_getElem hl, Option.map_some, Option.some.injEq] at hj
  rw [show (⟨w.heap.size, 0, none⟩ : Addr).add j = ⟨w.heap.size, j, none⟩ by simp [Addr.add]; omega, this, ← hj]
  simp [List.getD, List.getElem?_eq_getElem hl]
theorem one_cell (w : World) (j : Nat) (u : Value) (hj : (Pl.cl [34])[j]? = some u) : (w.alloc (.cells #[.int .u8 34] 5)).cell? ((⟨w.heap.size, 0, none⟩ : Addr).add j) = some u := by
  rcases j with _ | j
  · cases hj
    exact cell_of_row _ w.heap.size 0 _ 5 (0, 0) (heap_alloc_new w _)
  · simp [Pl.cl] at hj
theorem own_string {B : Nat} {w : World} {v : Value} {n : Nat} {l : List UInt8} (h : w.ownsRow B 5 1 v n (Pl.cl l)) (hn : 0 < n) : (convert 26 9 v).run Tryd.prog w = .ok (.string ⟨l.toArray⟩) w := by
  obtain ⟨g, cap, rfl⟩ := Joins.ownsRow_form h hn
  have hl : l.length = n := by have := h.1; rw [Pl.cl_len] at this; omega
  subst hl
  refine run_convert_bytes_back w 26 9 5 ⟨g, 0, none⟩ cap l Tryd.underlying26 Tryd.underlying5 Tryd.underlying9 fun j hj => ?_
  exact h.cells (g := g) rfl j _ (by simp [Pl.cl, List.getElem?_eq_getElem hj])
set_option maxHeartbeats 2000000 in
theorem specQuote_any (s : ByteArray) (hs : s.size ≤ 1048576) (w : World) : Calls Tryd.prog 5 #[.string s] w fun e w' => e = .returned (.string (Pl.qt s 34)) ∧ Below w.heap.size w w' := by
  obtain ⟨i0, hi, hz0, hz1, hz2⟩ := info_parts qinfou8
  have hcv : ∀ (u : World) (t : ByteArray), (convert 9 26 (.string t)).run Tryd.prog u = .ok (.slice (some ⟨u.heap.size, 0, none⟩) t.size (grownCap u t.size 0 5)) (Lib.bytesWorld u 5 t) := fun u t => Lib.run_convert_string_bytes u 9 26 5 t Tryd.underlying9 Tryd.underlying26 Tryd.underlying5
  have h0 : (w.alloc (.cells #[.int .u8 34] 5)).ownsRow w.heap.size 5 1 (.slice (some ⟨w.heap.size, 0, none⟩) 1 1) 1 (Pl.cl (Pl.qc s 34 0)) := by
    rw [Pl.qc_zero]; exact World.ownsRow_lit w #[.int .u8 34] 1 (Nat.le_refl _) (by decide) rfl
  have H0 : Hid ((w.alloc (.cells #[.int .u8 34] 5)).ownsRow w.heap.size 5 1 (.slice (some ⟨w.heap.size, 0, none⟩) 1 1) 1 (Pl.cl (Pl.qc s 34 0))) := h0
  clear h0
  go_enter Tryd.func5, Tryd.ntmps5
  go_wp2_with fail
  go_loopw [3, 4] (fun v i wr => ∃ k : Nat, k ≤ s.size ∧ i = .int .i64 k ∧ wr.ownsRow w.heap.size 5 1 v (Pl.qc s 34 k).length (Pl.cl (Pl.qc s 34 k)) ∧ Below w.heap.size w wr) (fun _ i _ => s.size - (intOf i).toNat)
  case atStart => exact ⟨0, Nat.zero_le _, rfl, by rw [show (Pl.qc s 34 0).length = 1 from rfl]; exact H0.out, (Below.refl _ _).alloc (Nat.le_refl _) _⟩
  case round =>
    obtain ⟨k, hk, rfl, hown, hbel⟩ := hrel
    have HO : Hid (wr.ownsRow w.heap.size 5 1 _ (Pl.qc s 34 k).length (Pl.cl (Pl.qc s 34 k))) := hown
    have HB : Hid (Below w.heap.size w wr) := hbel
    clear hown hbel H0
    by_cases hlt : k < s.size
    · have hi' : (k : Int) < (s.size : Int) := by omega
      have hc256 : (s[k]'hlt).toNat < 256 := (s[k]'hlt).toNat_lt
      go_wp2_with (first | (go_at_call 16; refine (l5Shown_34 (s[k]'hlt).toNat hc256 _).mono ?_; rintro e u1 ⟨rfl, hb1⟩) | (at_builtin; refine wpList_append_own _ rfl (.tmp 12) (.tmp 18) 26 rfl w.heap.size 5 i0 (.int .u8 0) 1 1 Tryd.underlying26 hi hz0 hz1 hz2 rfl (by decide) _ _ _ rfl (ow_keep HO.out (hb1.trans (Joins.below_bytesWorld _ _ 5 ⟨(Pl.shown (s[k]'hlt).toNat 34).toArray⟩ hb1.size))) ⟨u1.heap.size, 0, none⟩ (Pl.shown (s[k]'hlt).toNat 34).length _ (Pl.cl (Pl.shown (s[k]'hlt).toNat 34)) (by rfl) (by rw [Pl.cl_len, Nat.mul_one]) (bw_cells u1 _) (by intro u hu; obtain ⟨n, _, rfl⟩ := List.mem_map.1 hu; rfl) (by have := Pl.qc_len s 34 k hk; have := Pl.shown_len (s[k]'hlt).toNat 34; unfold maxLen; omega) (by have := Pl.qc_len s 34 k hk; have := Pl.shown_len (s[k]'hlt).toNat 34; omega) (Nat.le_trans HB.out.size (Nat.le_trans hb1.size (by rw [Lib.bytesWorld_size]; omega))) ?_; intro v' u2 hown' hgr _))
      refine ⟨⟨k + 1, by omega, by go_num, ?_, ?_⟩, by simp [intOf]; omega⟩
      · rw [Pl.qc_succ s 34 k hlt, Pl.cl_app, List.length_append]; exact hown'
      · exact (HB.out.trans ((hb1.trans (Joins.below_bytesWorld _ _ 5 _ hb1.size)).mono HB.out.size)).grown hgr (Nat.le_trans HB.out.size (Nat.le_trans hb1.size (by rw [Lib.bytesWorld_size]; omega))) (fun j hj => (HO.out.lt j hj).1)
    · have hi' : ¬ (k : Int) < (s.size : Int) := by omega
      obtain rfl : s.size = k := by omega
      have HE : Hid ((wr.alloc (.cells #[.int .u8 34] 5)).ownsRow w.heap.size 5 1 _ (Pl.qc s 34 s.size).length (Pl.cl (Pl.qc s 34 s.size))) := HO.out.alloc _
      go_wp2_with (first | (at_builtin; refine wpList_append_own _ rfl (.tmp 20) (.tmp 21) 26 rfl w.heap.size 5 i0 (.int .u8 0) 1 1 Tryd.underlying26 hi hz0 hz1 hz2 rfl (by decide) _ _ _ rfl HE.out ⟨wr.heap.size, 0, none⟩ 1 _ (Pl.cl [34]) rfl rfl (one_cell wr) (by intro u hu; obtain ⟨n, _, rfl⟩ := List.mem_map.1 hu; rfl) (by have := Pl.qc_len s 34 s.size (Nat.le_refl _); unfold maxLen; omega) (by have := Pl.qc_len s 34 s.size (Nat.le_refl _); omega) (Nat.le_trans HB.out.size (by simp)) ?_; intro v' u2 hown' hgr _; rw [← Pl.cl_app] at hown'; have hst := own_string hown' (Nat.succ_pos _)))
      go_ret
      refine ⟨rfl, ?_⟩
      exact (HB.out.trans (((Below.refl _ _).alloc (Nat.le_refl _) _).mono HB.out.size)).grown hgr (Nat.le_trans HB.out.size (by simp)) (fun j hj => (HO.out.lt j hj).1)
end Go.Proofs.YtgpmplcamdophaaDoor.W
