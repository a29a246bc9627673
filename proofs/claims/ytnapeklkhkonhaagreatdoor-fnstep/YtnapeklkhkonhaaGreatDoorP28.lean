import Derived.Test.YtnapeklkhkonhaaGreatDoorP10
import Derived.Test.YtnapeklkhkonhaaGreatDoorP29
set_option linter.unusedVariables false
set_option linter.unusedSimpArgs false
namespace Go.Proofs.YtnapeklkhkonhaaGreatDoor.Pl
def hd (r : List Nat) : Nat := r.headD 0
end Go.Proofs.YtnapeklkhkonhaaGreatDoor.Pl
namespace Go.Proofs.YtnapeklkhkonhaaGreatDoor.W
open Go.RowKit
def RdAt (w : World) (c : Nat) (r : List Nat) : Prop := ∃ (a : Option Addr) (len cap p : Nat), w.heap[c]? = some (.cells #[.slice a len cap, .int .i64 (p : Int)] 47) ∧ len ≤ 1500 ∧ p + r.length = len ∧ (∀ x ∈ r, x ≤ 255) ∧
  (r = [] ∨ ∃ b off, a = some ⟨b, off, none⟩ ∧ b < c ∧ ∀ i, i < r.length → w.cell? ⟨b, off + (p + i), none⟩ = some (.int .u8 ((r.getD i 0 : Nat) : Int)))
theorem hd_le {w : World} {c : Nat} {r : List Nat} (h : RdAt w c r) : Pl.hd r ≤ 255 := by
  obtain ⟨_, _, _, _, _, _, _, hb, _⟩ := h
  unfold Pl.hd
  cases r with
  | nil => exact Nat.zero_le _
  | cons x r => exact hb x (by simp)
theorem RdAt.lt {w : World} {c : Nat} {r : List Nat} (h : RdAt w c r) : c < w.heap.size := by
  obtain ⟨_, _, _, _, hrow, _⟩ := h
  exact (Array.getElem?_eq_some_iff.1 hrow).1
theorem RdAt.keep {B c : Nat} {u u' : World} {r : List Nat} (h : RdAt u c r) (hb : Below B u u') (hB : c < B) : RdAt u' c r := by
  obtain ⟨a, len, cap, p, hrow, h1, h2, h3, h4⟩ := h
  refine ⟨a, len, cap, p, (hb.block c hB).trans hrow, h1, h2, h3, ?_⟩
  rcases h4 with h4 | ⟨b, off, ha, hbc, hc⟩
  · exact .inl h4
  · exact .inr ⟨b, off, ha, hbc, fun i hi => (hb.cell (p := ⟨b, off + (p + i), none⟩) (show b < B by omega)).trans (hc i hi)⟩
theorem RdAt.below {c : Nat} {u u' : World} {r : List Nat} (h : RdAt u c r) (hb : Below u.heap.size u u') : RdAt u' c r := h.keep hb h.lt
theorem RdAt.alloc {w : World} {c : Nat} {r : List Nat} (h : RdAt w c r) (o : Obj) : RdAt (w.alloc o) c r := h.below ((Below.refl _ _).alloc (Nat.le_refl _) _)
theorem RdAt.drewN {w : World} {c : Nat} {r : List Nat} (h : RdAt w c r) (m : Nat) : RdAt (w.drewN m) c r := h
set_option maxHeartbeats 1000000 in
theorem next_f (w : World) (c : Nat) (r : List Nat) (h : RdAt w c r) : Calls Tryz.prog 23 #[.pointer (some ⟨c, 0, none⟩)] w fun e w' => e = .returned (.int .i64 ((Pl.hd r : Nat) : Int)) ∧ RdAt w' c r.tail ∧ OnlyB c w w' := by
  have H : Hid (RdAt w c r) := h
  obtain ⟨a, len, cap, p, hrow, hl, hp, hle, hbytes⟩ := h
  have hc0 : w.cell? ⟨c, 0, none⟩ = some (.slice a len cap) := by rw [cell_of_row w c 0 _ 47 (0, 0) hrow]; rfl
  have hc1 : w.cell? ⟨c, 1, none⟩ = some (.int .i64 (p : Int)) := by rw [cell_of_row w c 1 _ 47 (0, 0) hrow]; rfl
  have hf1 : w.frozen? ⟨c, 1, none⟩ = false := frozen_of_row w c 1 _ 47 hrow
  have HR : Hid (w.heap[c]? = some (.cells #[.slice a len cap, .int .i64 (p : Int)] 47)) := hrow
  cases r with
  | nil =>
    have hlt : ¬ p < len := by simp at hp; omega
    clear hrow hbytes hle
    go_enter Tryz.func23, Tryz.ntmps23
    go_wp2_with fail
    go_quiet (fail)
    go_wp2
    go_ret
    exact ⟨rfl, H.out, ⟨rfl, rfl, rfl, Nat.le_refl _, fun b _ _ => rfl⟩⟩
  | cons v r =>
    have hlt : p < len := by simp at hp; omega
    obtain ⟨b, off, rfl, hb, hby⟩ : ∃ b off, a = some ⟨b, off, none⟩ ∧ b < c ∧ ∀ i, i < (v :: r).length → w.cell? ⟨b, off + (p + i), none⟩ = some (.int .u8 (((v :: r).getD i 0 : Nat) : Int)) := by
      rcases hbytes with h0 | h0
      · cases h0
      · exact h0
    have hcv : w.cell? ⟨b, off + p, none⟩ = some (.int .u8 (v : Int)) := hby 0 (by simp)
    have hv : v ≤ 255 := hle v (by simp)
    have HB : Hid (∀ i, i < (v :: r).length → w.cell? ⟨b, off + (p + i), none⟩ = some (.int .u8 (((v :: r).getD i 0 : Nat) : Int))) := hby
    have HL : Hid (∀ x ∈ v :: r, x ≤ 255) := hle
    clear hby hrow hbytes hle
    go_enter Tryz.func23, Tryz.ntmps23
    go_wp2_with fail
    go_quiet (fail)
    go_wp2_with fail
    go_quiet (fail)
    go_wp2
    go_ret
    refine ⟨rfl, ⟨_, len, cap, p + 1, ?_, hl, by simp at hp ⊢; omega, fun x hx => HL.out x (List.mem_cons_of_mem _ hx), .inr ⟨b, off, rfl, hb, fun i hi => ?_⟩⟩, ?_⟩
    · exact (heap_setCell_same _ c 1 _ 47 _ HR.out).trans (by simp)
    · have := HB.out (i + 1) (by simp at hi ⊢; omega)
      rw [show off + (p + 1 + i) = off + (p + (i + 1)) by omega]
      refine Eq.trans ?_ this
      refine World.cell?_of_block (w := w) ?_
      exact heap_setCell_other _ ⟨c, 1, none⟩ b _ (Nat.ne_of_lt hb)
    · exact ⟨rfl, rfl, rfl, Nat.le_of_eq (World.size_setCell _ _ _).symm, fun b _ hb' => heap_setCell_other _ ⟨c, 1, none⟩ b _ hb'⟩
def BytesAre (w : World) (a : Option Addr) (len cap : Nat) (bs : List Nat) : Prop := len ≤ cap ∧ cap ≤ maxLen ∧ bs.length = len ∧ (∀ x ∈ bs, x ≤ 255) ∧ (len = 0 ∨ ∃ b off, a = some ⟨b, off, none⟩ ∧ b < w.heap.size ∧ ∀ i, i < len → w.cell? ⟨b, off + i, none⟩ = some (.int .u8 ((bs.getD i 0 : Nat) : Int)))
theorem IsBytes.are {w : World} {a : Option Addr} {len cap : Nat} (h : IsBytes w a len cap) : ∃ bs, BytesAre w a len cap bs := by
  obtain ⟨h1, h2, h3⟩ := h
  rcases h3 with h3 | ⟨b, off, ha, hb, hc⟩
  · exact ⟨[], h1, h2, h3.symm, (fun x hx => (by cases hx)), .inl h3⟩
  · obtain ⟨f, hf⟩ : ∃ f : Nat → Nat, ∀ i, i < len → f i ≤ 255 ∧ w.cell? ⟨b, off + i, none⟩ = some (.int .u8 (f i : Int)) := by
      refine ⟨fun i => if q : i < len then Classical.choose (hc i q) else 0, fun i hi => ?_⟩
      simp only [dif_pos hi]
      exact Classical.choose_spec (hc i hi)
    refine ⟨(List.range len).map f, h1, h2, by simp, fun x hx => ?_, .inr ⟨b, off, ha, hb, fun i hi => ?_⟩⟩
    · obtain ⟨i, hi, rfl⟩ := List.mem_map.1 hx
      exact (hf i (List.mem_range.1 hi)).1
    · rw [(hf i hi).2, List.getD_eq_getElem?_getD, List.getElem?_map, List.getElem?_range hi]
      rfl
theorem BytesAre.keep {w u : World} {a : Option Addr} {len cap : Nat} {bs : List Nat} (h : BytesAre w a len cap bs) (hb : Below w.heap.size w u) : BytesAre u a len cap bs := by
  obtain ⟨h1, h2, h3, h4, h5⟩ := h
  refine ⟨h1, h2, h3, h4, ?_⟩
  rcases h5 with h5 | ⟨b, off, ha, hl, hc⟩
  · exact .inl h5
  · exact .inr ⟨b, off, ha, Nat.lt_of_lt_of_le hl hb.size, fun i hi => (hb.cell (p := ⟨b, off + i, none⟩) hl).trans (hc i hi)⟩
theorem rd_newF {w : World} {a : Option Addr} {len cap n : Nat} {bs : List Nat} (h : BytesAre w a len cap bs) (hn : n ≤ len) (hn' : n ≤ 1500) : RdAt (w.alloc (.cells #[.slice a n cap, .int .i64 0] 47)) w.heap.size (bs.take n) := by
  obtain ⟨_, _, h3, h4, h5⟩ := h
  refine ⟨a, n, cap, 0, heap_alloc_new w _, hn', by rw [List.length_take]; omega, fun x hx => h4 x (List.mem_of_mem_take hx), ?_⟩
  rcases h5 with h5 | ⟨b, off, rfl, hb, hby⟩
  · left
    obtain rfl : n = 0 := by omega
    rfl
  · refine .inr ⟨b, off, rfl, hb, fun i hi => ?_⟩
    rw [List.length_take] at hi
    rw [Nat.zero_add, List.getD_eq_getElem?_getD, List.getElem?_take, if_pos (by omega), ← List.getD_eq_getElem?_getD, ← hby i (by omega)]
    exact World.cell?_of_block (w := w) (Below.heap_alloc w _ b hb)
set_option maxHeartbeats 400000 in
theorem open_f (w : World) (a : Option Addr) (len cap : Nat) (bs : List Nat) (h : BytesAre w a len cap bs) : Calls Tryz.prog 12 #[.slice a len cap] w fun e w' => e = .returned (.pointer (some ⟨w.heap.size, 0, none⟩)) ∧ RdAt w' w.heap.size (bs.take 1500) ∧ Below w.heap.size w w' := by
  have h1 := h.1
  have h2 := h.2.1
  unfold maxLen at h2
  have HH : Hid (BytesAre w a len cap bs) := h
  have HN : Hid (bs.length = len) := h.2.2.1
  clear h
  by_cases hl : 1500 < len
  · go_enter Tryz.func12, Tryz.ntmps12
    go_wp2
    go_ret
    exact ⟨rfl, rd_newF HH.out (by omega) (Nat.le_refl _), (Below.refl _ _).alloc (Nat.le_refl _) _⟩
  · go_enter Tryz.func12, Tryz.ntmps12
    go_wp2
    go_ret
    refine ⟨rfl, ?_, (Below.refl _ _).alloc (Nat.le_refl _) _⟩
    have := rd_newF HH.out (Nat.le_refl _) (by omega)
    rw [List.take_of_length_le (by have := HN.out; omega)] at this ⊢
    exact this
end Go.Proofs.YtnapeklkhkonhaaGreatDoor.W
namespace Go.Proofs.YtnapeklkhkonhaaGreatDoor.Pl
def takeB : Nat → List Nat → List Nat × List Nat
  | 0, r => ([], r)
  | n + 1, r => ((takeB n r).1 ++ [hd (takeB n r).2], (takeB n r).2.tail)
theorem takeB_len (n : Nat) (r : List Nat) : (takeB n r).1.length = n := by
  induction n with
  | zero => rfl
  | succ n ih => show ((takeB n r).1 ++ [_]).length = _; rw [List.length_append, ih]; rfl
def nums (l : List Nat) : List Int := l.map fun (x : Nat) => (x : Int)
def dInput (r : List Nat) : List Int × List Nat := (if 252 ≤ hd r then List.replicate (10000 + hd r % 2) 0 else nums (takeB (hd r % 5) r.tail).1, (takeB (hd r % 5) r.tail).2)
end Go.Proofs.YtnapeklkhkonhaaGreatDoor.Pl
namespace Go.Proofs.YtnapeklkhkonhaaGreatDoor.W
open Go.RowKit
theorem nums_snoc (l : List Nat) (x : Nat) : (Pl.nums (l ++ [x])).map (Value.int .u8) = (Pl.nums l).map (Value.int .u8) ++ [.int .u8 (x : Int)] := by
  unfold Pl.nums
  rw [List.map_append, List.map_append]
  rfl
theorem nums_len (l : List Nat) : (Pl.nums l).length = l.length := by unfold Pl.nums; rw [List.length_map]
set_option maxRecDepth 8000 in
set_option maxHeartbeats 4000000 in
theorem input_f (w : World) (c : Nat) (r0 : List Nat) (h : RdAt w c r0) : Calls Tryz.prog 26 #[.pointer (some ⟨c, 0, none⟩)] w fun e w' => ∃ (a : Option Addr) (cap : Nat), e = .returned (.slice a (Pl.dInput r0).1.length cap) ∧ Own .u8 5 w.heap.size w' a (Pl.dInput r0).1.length cap (Pl.dInput r0).1 ∧ (Pl.dInput r0).1.length ≤ 10001 ∧ RdAt w' c (Pl.dInput r0).2 ∧ OnlyB c w w' := by
  obtain ⟨i0, hi0, hz0, hz1, hz2⟩ := info_parts Tryz.infou8
  have H0 : Hid (RdAt w c r0) := h
  have hn := hd_le h
  clear h
  have hmk : ∀ (L : Nat), L ≤ 10001 → ∀ u : World, (Instr.makeSlice 22 (.int .i64 (L : Int)) (.int .i64 (L : Int))).run Tryz.prog u = .ok (.slice (some ⟨u.heap.size, 0, none⟩) L L) (u.alloc (.cells (madeCells (Value.int .u8 0).cells (L * 1)) 5)) := fun L hL u => by
    have := run_makeSlice u 22 5 i0 _ Tryz.underlying22 hi0 hz0 .i64 .i64 (L : Int) (L : Int) (by omega) (by omega) (by rw [hz1]; simp; omega) (by rw [hz2]; omega) (by omega)
    rw [hz1, Int.toNat_natCast] at this
    exact this
  have HMK : Hid (∀ (L : Nat), L ≤ 10001 → ∀ u : World, (Instr.makeSlice 22 (.int .i64 (L : Int)) (.int .i64 (L : Int))).run Tryz.prog u = .ok (.slice (some ⟨u.heap.size, 0, none⟩) L L) (u.alloc (.cells (madeCells (Value.int .u8 0).cells (L * 1)) 5))) := hmk
  clear hmk
  go_enter Tryz.func26, Tryz.ntmps26
  go_wp2_with fail
  refine (next_f w c r0 H0.out).mono ?_
  rintro e u1 ⟨rfl, r1, d1⟩
  have hlt : c < w.heap.size := H0.out.lt
  have hsz1 : w.heap.size ≤ u1.heap.size := d1.size
  have H1 : Hid (RdAt u1 c r0.tail ∧ OnlyB c w u1) := ⟨r1, d1⟩
  clear r1 d1
  obtain ⟨n, hnn'⟩ : ∃ n, n = Pl.hd r0 := ⟨_, rfl⟩
  rw [← hnn'] at hn ⊢
  obtain ⟨q, hq, hqn⟩ : ∃ q : Nat, ((n : Int).tmod 5) = (q : Int) ∧ q = n % 5 := ⟨n % 5, by rw [Int.tmod_eq_emod_of_nonneg (by omega)]; omega, rfl⟩
  obtain ⟨p, hp, hpn⟩ : ∃ p : Nat, ((n : Int).tmod 2) = (p : Int) ∧ p = n % 2 := ⟨n % 2, by rw [Int.tmod_eq_emod_of_nonneg (by omega)]; omega, rfl⟩
  have hq4 : q ≤ 4 := by omega
  have hp1 : p ≤ 1 := by omega
  have Qn : Hid (n = Pl.hd r0 ∧ q = Pl.hd r0 % 5 ∧ p = Pl.hd r0 % 2) := ⟨hnn', by rw [hqn, hnn'], by rw [hpn, hnn']⟩
  clear hnn' hqn hpn
  have hnn : (n : Int) ≤ 255 := by omega
  go_wp2_with fail
  go_loopw [4, 5] (fun v i wr => ∃ k : Nat, k ≤ q ∧ i = .int .i64 k ∧ (∃ g cp, v = .slice (some ⟨g, 0, none⟩) k cp) ∧ wr.ownsRow w.heap.size 5 1 v k ((Pl.nums (Pl.takeB k r0.tail).1).map (Value.int .u8)) ∧ (∀ x ∈ Pl.nums (Pl.takeB k r0.tail).1, (Lit.int .u8 x).wf = true) ∧ RdAt wr c (Pl.takeB k r0.tail).2 ∧ OnlyB c w wr) (fun _ i _ => q - (intOf i).toNat)
  case atStart =>
    refine ⟨0, Nat.zero_le _, rfl, ⟨_, _, rfl⟩, ?_, (fun x hx => (by cases hx)), H1.out.1.alloc _, H1.out.2.trans (OnlyB.of_below (below_alloc u1 _))⟩
    exact World.ownsRow_lit u1 #[] 0 (base := w.heap.size) (e := 5) (size := 1) hsz1 (Nat.zero_le _) rfl
  case round =>
    obtain ⟨k, hk, rfl, ⟨g, cp, rfl⟩, hown, hwf, hrd, hon⟩ := hrel
    obtain ⟨zs, hzs⟩ : ∃ zs, zs = (Pl.takeB k r0.tail).1 := ⟨_, rfl⟩
    obtain ⟨ra, hra⟩ : ∃ ra, ra = (Pl.takeB k r0.tail).2 := ⟨_, rfl⟩
    have HT : Hid (Pl.takeB (k + 1) r0.tail = (zs ++ [Pl.hd ra], ra.tail)) := by show (_, _) = _; rw [hzs, hra]
    have HT0 : Hid (Pl.takeB k r0.tail = (zs, ra)) := by show _ = _; rw [hzs, hra]
    have hzl : zs.length = k := by rw [hzs, Pl.takeB_len]
    rw [← hzs] at hown hwf
    rw [← hra] at hrd
    have HO : Hid (wr.ownsRow w.heap.size 5 1 (.slice (some ⟨g, 0, none⟩) k cp) k ((Pl.nums zs).map (Value.int .u8))) := hown
    have HW : Hid (∀ x ∈ Pl.nums zs, (Lit.int .u8 x).wf = true) := hwf
    have HR : Hid (RdAt wr c ra ∧ OnlyB c w wr) := ⟨hrd, hon⟩
    have hx := hd_le hrd
    clear hown hwf hrd hon hzs hra
    by_cases hl : k < q
    · have hi : (k : Int) < (q : Int) := by omega
      go_wp2_with fail
      refine (next_f wr c ra HR.out.1).mono ?_
      rintro e u2 ⟨rfl, r2, d2⟩
      obtain ⟨x, hxe⟩ : ∃ x, x = Pl.hd ra := ⟨_, rfl⟩
      rw [← hxe] at hx ⊢
      have Qx : Hid (x = Pl.hd ra) := hxe
      have hx' : (x : Int) ≤ 255 := by omega
      have hwx : IntKind.u8.wrap (x : Int) = (x : Int) := by rw [IntKind.wrap_u8]; omega
      have hlt2 : w.heap.size ≤ u2.heap.size := Nat.le_trans HR.out.2.size d2.size
      have HO2 : Hid (u2.ownsRow w.heap.size 5 1 (.slice (some ⟨g, 0, none⟩) k cp) k ((Pl.nums zs).map (Value.int .u8))) := own_only HO.out d2 (by omega)
      have HR2 : Hid (RdAt u2 c ra.tail ∧ OnlyB c w u2) := ⟨r2, HR.out.2.trans d2⟩
      clear r2 d2 hxe
      go_wp2_with (at_builtin; refine wpList_append_own _ rfl (.tmp 15) (.tmp 19) 22 rfl w.heap.size 5 i0 (.int .u8 0) 1 1 Tryz.underlying22 hi0 hz0 hz1 hz2 rfl (by decide) _ _ _ rfl (HO2.out.alloc _) ⟨u2.heap.size, 0, none⟩ 1 _ [.int .u8 (x : Int)] rfl rfl (byte_news u2 _) (by intro u hu; simp at hu; subst hu; rfl) (by unfold maxLen; omega) (by omega) (by simp; omega) ?_; intro v' u3 hown' hgr _)
      obtain ⟨g', c', hv', _, _⟩ := hown'.form (by omega)
      have hb3 : Below w.heap.size u2 u3 := ((Below.refl _ _).alloc (by omega) _).grown hgr (by simp; omega) (fun j hj => (HO2.out.lt j hj).1)
      refine ⟨⟨k + 1, by omega, by go_num, ⟨g', c', hv'⟩, ?_, ?_, ?_, ?_⟩, by simp [intOf]; omega⟩
      · rw [HT.out, ← Qx.out]
        show u3.ownsRow _ _ _ _ _ ((Pl.nums (zs ++ [x])).map _)
        rw [nums_snoc]; exact hown'
      · rw [HT.out, ← Qx.out]
        intro y hy
        have hy' : y ∈ Pl.nums (zs ++ [x]) := hy
        unfold Pl.nums at hy'
        rw [List.map_append] at hy'
        rcases List.mem_append.1 hy' with hy | hy
        · exact HW.out y hy
        · simp at hy
          subst hy
          simp [Lit.wf, IntKind.min, IntKind.max, IntKind.signed, IntKind.bits]
          omega
      · rw [HT.out]
        exact HR2.out.1.keep hb3 hlt
      · exact ⟨hb3.os.trans HR2.out.2.os, hb3.tape.trans HR2.out.2.tape, hb3.output.trans HR2.out.2.output, Nat.le_trans HR2.out.2.size hb3.size, fun b hb hbc => (hb3.block b hb).trans (HR2.out.2.block b hb hbc)⟩
    · have hi : ¬ (k : Int) < (q : Int) := by omega
      obtain rfl : k = q := by omega
      have HT1 : Hid (Pl.takeB (Pl.hd r0 % 5) r0.tail = (zs, ra)) := by show _ = _; rw [← Qn.out.2.1]; exact HT0.out
      by_cases h2 : 252 ≤ n
      · have e2 : (252 : Int) ≤ (n : Int) := by omega
        have HDI : Hid (Pl.dInput r0 = (List.replicate (10000 + p) 0, ra)) := by
          show Pl.dInput r0 = _
          unfold Pl.dInput
          rw [HT1.out, ← Qn.out.1, if_pos h2, show n % 2 = p by have := Qn.out; omega]
        obtain ⟨L, hL, hLe, hLp⟩ : ∃ L : Nat, L ≤ 10001 ∧ (10000 : Int) + (p : Int) = (L : Int) ∧ 10000 + p = L := ⟨10000 + p, by omega, by omega, rfl⟩
        rw [hLp] at HDI
        have hm := HMK.out L hL
        have HZ : Hid (∀ u : World, w.heap.size ≤ u.heap.size → Own .u8 5 w.heap.size (u.alloc (.cells (madeCells (Value.int .u8 0).cells (L * 1)) 5)) (some ⟨u.heap.size, 0, none⟩) L L (List.replicate L 0)) := fun u hu => by
          have hz : (madeCells (Value.int .u8 0).cells (L * 1)).toList = (List.replicate L (0 : Int)).map (Value.int .u8) := by
            rw [show (Value.int .u8 0).cells = #[Value.int .u8 0] from rfl, Nat.mul_one, toList_madeCells_one, List.map_replicate]
          refine ⟨?_, fun x hx => by rw [List.eq_of_mem_replicate hx]; rfl⟩
          rw [← hz]
          exact World.ownsRow_lit u _ L hu (by unfold maxLen; omega) (by rw [← Array.length_toList, hz]; simp)
        generalize madeCells (Value.int .u8 0).cells (L * 1) = Z at *
        go_wp2
        go_ret
        rw [HDI.out]
        dsimp only
        have hlen : (List.replicate L (0 : Int)).length = L := List.length_replicate
        exact ⟨some ⟨wr.heap.size, 0, none⟩, L, by rw [hlen]; rfl, by rw [hlen]; exact HZ.out wr HR.out.2.size, by rw [hlen]; exact hL, HR.out.1.alloc _, HR.out.2.trans (OnlyB.of_below (below_alloc wr _))⟩
      · have e2 : ¬ (252 : Int) ≤ (n : Int) := by omega
        have HDI : Hid (Pl.dInput r0 = (Pl.nums zs, ra)) := by
          show Pl.dInput r0 = _
          unfold Pl.dInput
          rw [HT1.out, ← Qn.out.1, if_neg h2]
        go_wp2
        go_ret
        rw [HDI.out]
        dsimp only
        have hlen : (Pl.nums zs).length = k := by rw [nums_len, hzl]
        refine ⟨some ⟨g, 0, none⟩, cp, ?_, ?_, ?_, HR.out⟩
        · rw [hlen]
          rfl
        · rw [hlen]
          exact ⟨HO.out, HW.out⟩
        · rw [hlen]
          omega
end Go.Proofs.YtnapeklkhkonhaaGreatDoor.W
namespace Go.Proofs.YtnapeklkhkonhaaGreatDoor.Pl
structure IS where
  a : Int
  b : Int
  d : Int
  e : Int
  f : Int
  r : List Nat
def F1 (p : Int) (v : Nat) (s : IS) : IS := if p % 2 = 1 then { s with b := (v : Int) % 32 } else s
def F2 (p : Int) (s : IS) : IS := if p / 2 % 2 = 1 then { s with d := (hd s.r : Int) % 32, r := s.r.tail } else s
def F3 (p : Int) (s : IS) : IS := if p / 4 % 2 = 1 then { s with e := (hd s.r : Int) % 32, r := s.r.tail } else s
def t6 (L U D : Int) (j : Nat) : Int := if j = 0 then L else if j = 1 then U else if j = 2 then U + D else if j = 3 then L - D else if j = 4 then 0 else -D
def tA (j : Nat) : Int := if j = 0 then 0 else if j = 1 then 48 else -1
def tB (j : Nat) : Int := if j = 0 then 32 else if j = 1 then -1 else 1
def imN (L U D : Int) (n1 n2 n3 : Nat) : Int := RowKit.wrap64 (L + RowKit.wrap64 (RowKit.wrap64 ((((n1 : Int) * 65536 + (n2 : Int) * 256 + (n3 : Int)) % (U - L + 1)).tdiv D) * D))
def F4 (p L U D : Int) (v n1 n2 n3 : Nat) (s : IS) : IS := if p / 8 = 1 then (if 224 ≤ v then { s with f := t6 L U D (v % 6) } else { s with f := imN L U D n1 n2 n3 }) else s
def F5 (k v : Nat) (s : IS) : IS := if 245 ≤ k then (if v % 5 = 0 then { s with a := tA (v / 5 % 3) } else if v % 5 = 1 then { s with b := tB (v / 5 % 3) } else if v % 5 = 2 then { s with d := tB (v / 5 % 3) } else if v % 5 = 3 then { s with e := tB (v / 5 % 3) } else { s with f := RowKit.wrap64 (s.f + 1) }) else s
def eat3 (s : IS) : IS := { s with r := s.r.tail.tail.tail }
def dP (k : Nat) : Int := pts (fmN (1 + k % 47))
def dS3 (r : List Nat) : IS := F3 (dP (hd r)) (F2 (dP (hd r)) (F1 (dP (hd r)) (hd r.tail) ⟨((1 + hd r % 47 : Nat) : Int), 0, 0, 0, 0, r.tail.tail⟩))
def dIns (r : List Nat) : IS := F5 (hd r) (hd r.tail) (F4 (dP (hd r)) (lo (fmN (1 + hd r % 47))) (hi (fmN (1 + hd r % 47))) (st (fmN (1 + hd r % 47))) (hd r.tail) (hd (dS3 r).r) (hd (dS3 r).r.tail) (hd (dS3 r).r.tail.tail) (eat3 (dS3 r)))
end Go.Proofs.YtnapeklkhkonhaaGreatDoor.Pl
namespace Go.Proofs.YtnapeklkhkonhaaGreatDoor.W
open Go.RowKit
theorem t6_at (L U D : Int) (j : Nat) (h : j < 6) : (tab6 L U D)[j]? = some (.int .i64 (Pl.t6 L U D j)) := by
  rcases (show j = 0 ∨ j = 1 ∨ j = 2 ∨ j = 3 ∨ j = 4 ∨ j = 5 by omega) with rfl | rfl | rfl | rfl | rfl | rfl <;> rfl
theorem tA_at (j : Nat) (h : j < 3) : tabA[j]? = some (.int .i64 (Pl.tA j)) := by
  rcases (show j = 0 ∨ j = 1 ∨ j = 2 by omega) with rfl | rfl | rfl <;> rfl
theorem tB_at (j : Nat) (h : j < 3) : tabB[j]? = some (.int .i64 (Pl.tB j)) := by
  rcases (show j = 0 ∨ j = 1 ∨ j = 2 by omega) with rfl | rfl | rfl <;> rfl
structure InSF (w : World) (c r g : Nat) (s : Pl.IS) (u : World) : Prop where
  rd : RdAt u c s.r
  row : u.heap[g]? = some (.cells #[.int .i64 s.a, .int .i64 s.b, .int .i64 s.d, .int .i64 s.e, .int .i64 s.f] 67)
  res : u.heap[r]? = some (.cells #[.int .i64 0, .int .i64 0, .int .i64 0, .int .i64 0, .int .i64 0] 67)
  bel : OnlyB c w u
  cr : c < r
  rg : r < g
  wr : w.heap.size ≤ r
theorem InSF.lt {w u : World} {c r g : Nat} {s : Pl.IS} (h : InSF w c r g s u) : g < u.heap.size := (Array.getElem?_eq_some_iff.1 h.row).1
theorem InSF.alloc {w u : World} {c r g : Nat} {s : Pl.IS} (h : InSF w c r g s u) (o : Obj) : InSF w c r g s (u.alloc o) := by
  have hl := h.lt
  have h1 := h.cr
  have h2 := h.rg
  exact ⟨h.rd.alloc o, by rw [Below.heap_alloc u o g hl]; exact h.row, by rw [Below.heap_alloc u o r (by omega)]; exact h.res, h.bel.low ((Below.refl _ _).alloc (by have := h.wr; omega) _), h1, h2, h.wr⟩
theorem InSF.only {w u u' : World} {c r g : Nat} {s : Pl.IS} {q : List Nat} (h : InSF w c r g s u) (hr : RdAt u' c q) (ho : OnlyB c u u') : InSF w c r g { s with r := q } u' := by
  have hl := h.lt
  have h1 := h.cr
  have h2 := h.rg
  exact ⟨hr, (ho.block g hl (by omega)).trans h.row, (ho.block r (by omega) (by omega)).trans h.res, h.bel.trans ho, h1, h2, h.wr⟩
theorem InSF.set {w u : World} {c r g : Nat} {s : Pl.IS} (h : InSF w c r g s u) (i : Nat) (x : Int) (s' : Pl.IS) (hr : s'.r = s.r) (he : (#[.int .i64 s.a, .int .i64 s.b, .int .i64 s.d, .int .i64 s.e, .int .i64 s.f] : Array Value).setIfInBounds i (.int .i64 x) = #[.int .i64 s'.a, .int .i64 s'.b, .int .i64 s'.d, .int .i64 s'.e, .int .i64 s'.f]) : InSF w c r g s' (u.setCell ⟨g, i, none⟩ (.int .i64 x)) := by
  have hl := h.lt
  have h1 := h.cr
  have h2 := h.rg
  have h3 := h.wr
  refine ⟨?_, by rw [heap_setCell_same u g i _ 67 _ h.row, he], (heap_setCell_other u ⟨g, i, none⟩ r _ (by show r ≠ g; omega)).trans h.res, h.bel.low ((Below.refl _ _).setCell (p := ⟨g, i, none⟩) (by show w.heap.size ≤ g; omega) _), h1, h2, h3⟩
  rw [hr]
  exact h.rd.keep ((Below.refl _ _).setCell (p := ⟨g, i, none⟩) (B := g) (Nat.le_refl _) _) (by omega)
set_option maxRecDepth 8000 in
set_option maxHeartbeats 4000000 in
theorem inst_f (w : World) (c : Nat) (r0 : List Nat) (h : RdAt w c r0) : Calls Tryz.prog 49 #[.pointer (some ⟨c, 0, none⟩)] w fun e w' => e = .returned (.agg #[.int .i64 (Pl.dIns r0).a, .int .i64 (Pl.dIns r0).b, .int .i64 (Pl.dIns r0).d, .int .i64 (Pl.dIns r0).e, .int .i64 (Pl.dIns r0).f]) ∧ RdAt w' c (Pl.dIns r0).r ∧ OnlyB c w w' := by
  have H0 : Hid (RdAt w c r0) := h
  have hcw := h.lt
  have hk := hd_le h
  clear h
  go_enter Tryz.func49, Tryz.ntmps49
  go_wp2_with fail
  refine (next_f _ c r0 (H0.out.alloc _)).mono ?_
  rintro e w1 ⟨rfl, R1, O1⟩
  have hres : w1.heap[w.heap.size]? = some (.cells #[.int .i64 0, .int .i64 0, .int .i64 0, .int .i64 0, .int .i64 0] 67) := by rw [O1.block _ (by simp) (by omega)]; exact heap_alloc_new w _
  have B1 : OnlyB c w w1 := (OnlyB.of_below ((Below.refl _ _).alloc (Nat.le_refl _) _)).trans O1
  have hsz : w.heap.size < w1.heap.size := by have := O1.size; simp at this; omega
  obtain ⟨r, hr⟩ : ∃ r, r = w.heap.size := ⟨_, rfl⟩
  rw [← hr] at hres hsz hcw ⊢
  have hwr : Hid (w.heap.size ≤ r) := by show w.heap.size ≤ r; omega
  clear O1 hr
  obtain ⟨k, hkk⟩ : ∃ k, k = Pl.hd r0 := ⟨_, rfl⟩
  rw [← hkk] at hk ⊢
  have Qk : Hid (k = Pl.hd r0) := hkk
  clear hkk
  go_upto_region 3 with fail
  have hq : (1 + (k : Int) % 47) = ((1 + k % 47 : Nat) : Int) := by omega
  rw [hq]
  obtain ⟨q, hqq⟩ : ∃ q, q = 1 + k % 47 := ⟨_, rfl⟩
  rw [← hqq]
  have q1 : 1 ≤ q := by omega
  have q2 : q ≤ 47 := by omega
  have Qq : Hid (q = 1 + k % 47) := hqq
  clear hq hqq
  obtain ⟨u2, hu2⟩ : ∃ u, w1.alloc (.cells #[.int .i64 (q : Int), .int .i64 0, .int .i64 0, .int .i64 0, .int .i64 0] 67) = u := ⟨_, rfl⟩
  rw [hu2]
  obtain ⟨g, hg⟩ : ∃ g, g = w1.heap.size := ⟨_, rfl⟩
  rw [← hg]
  have hrow2 : u2.heap[g]? = some (.cells #[.int .i64 (q : Int), .int .i64 0, .int .i64 0, .int .i64 0, .int .i64 0] 67) := by rw [← hu2, hg]; exact heap_alloc_new w1 _
  have S2 : Hid (InSF w c r g ⟨(q : Int), 0, 0, 0, 0, r0.tail⟩ u2) := ⟨by rw [← hu2]; exact R1.alloc _, hrow2, by rw [← hu2, Below.heap_alloc w1 _ r hsz]; exact hres, by rw [← hu2]; exact B1.trans (OnlyB.of_below ((Below.refl _ _).alloc (Nat.le_refl _) _)), hcw, by rw [hg]; exact hsz, hwr.out⟩
  have kc2 : ∀ j, u2.cell? ⟨g, j, none⟩ = (#[.int .i64 (q : Int), .int .i64 0, .int .i64 0, .int .i64 0, .int .i64 0] : Array Value)[j]? := fun j => cell_of_row u2 g j _ 67 (0, 0) hrow2
  clear hrow2 hu2 hg R1 B1 hres hsz H0
  go_wp2_with fail
  refine (form_any q q1 q2 _).mono ?_
  rintro e u3 ⟨rfl, h3⟩
  rw [h3]
  clear h3 u3 kc2
  obtain ⟨f1, f2, _⟩ := Pl.fm_cases q (by omega) q1
  obtain ⟨f, hf⟩ : ∃ f, f = Pl.fmN q := ⟨_, rfl⟩
  rw [← hf] at f1 f2 ⊢
  have Qf : Hid (f = Pl.fmN q) := hf
  clear hf
  go_wp2_with fail
  refine (parts_any f f1 f2 _).mono ?_
  rintro e u3 ⟨rfl, h3⟩
  have S3 : Hid (InSF w c r g ⟨(q : Int), 0, 0, 0, 0, r0.tail⟩ u3) := by show InSF w c r g _ u3; rw [h3]; exact S2.out.alloc _
  clear h3 S2
  obtain ⟨p, hp⟩ : ∃ p, p = Pl.pts f := ⟨_, rfl⟩
  have pb : 0 ≤ p ∧ p ≤ 14 := by rw [hp]; exact Pl.pts_bd f (by omega)
  have Qp : Hid (p = Pl.pts f) := hp
  rw [← hp]
  clear hp
  go_wp2_with fail
  refine (next_f _ c _ S3.out.rd).mono ?_
  rintro e u4 ⟨rfl, R4, O4⟩
  have hv := hd_le S3.out.rd
  dsimp only at hv R4 ⊢
  obtain ⟨v, hvv⟩ : ∃ v, v = Pl.hd r0.tail := ⟨_, rfl⟩
  rw [← hvv] at hv ⊢
  have Qv : Hid (v = Pl.hd r0.tail) := hvv
  obtain ⟨s0, hs0⟩ : ∃ s0 : Pl.IS, s0 = ⟨(q : Int), 0, 0, 0, 0, r0.tail.tail⟩ := ⟨_, rfl⟩
  have S4 : Hid (InSF w c r g s0 u4) := by show InSF w c r g s0 u4; rw [hs0]; exact S3.out.only R4 O4
  have Qs0 : Hid (s0 = ⟨(q : Int), 0, 0, 0, 0, r0.tail.tail⟩) := hs0
  clear R4 O4 S3 hvv hs0
  go_upto_if 28 with fail
  go_cut [4] from 13 to 142 (fun sv wx => sv = .pointer (some ⟨g, 0, none⟩) ∧ InSF w c r g (Pl.F1 p v s0) wx)
  case first =>
    by_cases h1 : p % 2 = 1
    · have e1 : (p % 2 == 1) = true := by simp; omega
      have kc99 : ∀ j, u4.cell? ⟨g, j, none⟩ = (#[.int .i64 s0.a, .int .i64 s0.b, .int .i64 s0.d, .int .i64 s0.e, .int .i64 s0.f] : Array Value)[j]? := (fun j => cell_of_row u4 g j _ 67 (0, 0) S4.out.row)
      have kf99 : ∀ j, u4.frozen? ⟨g, j, none⟩ = false := (fun j => frozen_of_row u4 g j _ 67 S4.out.row)
      go_wp2_with fail
      go_meet
      refine ⟨rfl, ?_⟩
      unfold Pl.F1
      rw [if_pos h1]
      exact S4.out.set 1 _ _ rfl rfl
    · have e1 : (p % 2 == 1) = false := by simp; omega
      go_wp2_with fail
      go_meet
      refine ⟨rfl, ?_⟩
      unfold Pl.F1
      rw [if_neg h1]
      exact S4.out
  case rest =>
  obtain ⟨rfl, hst⟩ := hcut
  obtain ⟨y5, hu5⟩ : ∃ u : World, u = wc := ⟨wc, rfl⟩
  rw [← hu5] at hst ⊢
  obtain ⟨s1, hs1⟩ : ∃ s, s = Pl.F1 p v s0 := ⟨_, rfl⟩
  rw [← hs1] at hst
  have S5 : Hid (InSF w c r g s1 y5) := hst
  have Qs1 : Hid (s1 = Pl.F1 p v s0) := hs1
  clear hst hu5 S4 hs1
  go_upto_if 35 with fail
  go_cut [4] from 13 to 142 (fun sv wx => sv = .pointer (some ⟨g, 0, none⟩) ∧ InSF w c r g (Pl.F2 p s1) wx)
  case first =>
    by_cases h1 : p / 2 % 2 = 1
    · have e1 : (p / 2 % 2 == 1) = true := by simp; omega
      go_wp2_with fail
      refine (next_f _ c _ S5.out.rd).mono ?_
      rintro e y61 ⟨rfl, R61, O61⟩
      have hm1 := hd_le S5.out.rd
      have S61 : Hid (InSF w c r g { s1 with r := s1.r.tail } y61) := S5.out.only R61 O61
      clear R61 O61
      obtain ⟨m1, hm⟩ : ∃ m1, m1 = Pl.hd s1.r := ⟨_, rfl⟩
      rw [← hm] at hm1 ⊢
      have kc61 : ∀ j, y61.cell? ⟨g, j, none⟩ = (#[.int .i64 s1.a, .int .i64 s1.b, .int .i64 s1.d, .int .i64 s1.e, .int .i64 s1.f] : Array Value)[j]? := (fun j => cell_of_row y61 g j _ 67 (0, 0) S61.out.row)
      have kf61 : ∀ j, y61.frozen? ⟨g, j, none⟩ = false := (fun j => frozen_of_row y61 g j _ 67 S61.out.row)
      go_wp2_with fail
      go_meet
      refine ⟨rfl, ?_⟩
      unfold Pl.F2
      rw [if_pos h1, ← hm]
      exact S61.out.set 2 _ _ rfl rfl
    · have e1 : (p / 2 % 2 == 1) = false := by simp; omega
      go_wp2_with fail
      go_meet
      refine ⟨rfl, ?_⟩
      unfold Pl.F2
      rw [if_neg h1]
      exact S5.out
  case rest =>
  obtain ⟨rfl, hst⟩ := hcut
  obtain ⟨y6, hu6⟩ : ∃ u : World, u = wc := ⟨wc, rfl⟩
  rw [← hu6] at hst ⊢
  obtain ⟨s2, hs2⟩ : ∃ s, s = Pl.F2 p s1 := ⟨_, rfl⟩
  rw [← hs2] at hst
  have S6 : Hid (InSF w c r g s2 y6) := hst
  have Qs2 : Hid (s2 = Pl.F2 p s1) := hs2
  clear hst hu6 S5 hs2
  go_upto_if 43 with fail
  go_cut [4] from 13 to 142 (fun sv wx => sv = .pointer (some ⟨g, 0, none⟩) ∧ InSF w c r g (Pl.F3 p s2) wx)
  case first =>
    by_cases h1 : p / 4 % 2 = 1
    · have e1 : (p / 4 % 2 == 1) = true := by simp; omega
      go_wp2_with fail
      refine (next_f _ c _ S6.out.rd).mono ?_
      rintro e y61 ⟨rfl, R61, O61⟩
      have hm1 := hd_le S6.out.rd
      have S61 : Hid (InSF w c r g { s2 with r := s2.r.tail } y61) := S6.out.only R61 O61
      clear R61 O61
      obtain ⟨m1, hm⟩ : ∃ m1, m1 = Pl.hd s2.r := ⟨_, rfl⟩
      rw [← hm] at hm1 ⊢
      have kc61 : ∀ j, y61.cell? ⟨g, j, none⟩ = (#[.int .i64 s2.a, .int .i64 s2.b, .int .i64 s2.d, .int .i64 s2.e, .int .i64 s2.f] : Array Value)[j]? := (fun j => cell_of_row y61 g j _ 67 (0, 0) S61.out.row)
      have kf61 : ∀ j, y61.frozen? ⟨g, j, none⟩ = false := (fun j => frozen_of_row y61 g j _ 67 S61.out.row)
      go_wp2_with fail
      go_meet
      refine ⟨rfl, ?_⟩
      unfold Pl.F3
      rw [if_pos h1, ← hm]
      exact S61.out.set 3 _ _ rfl rfl
    · have e1 : (p / 4 % 2 == 1) = false := by simp; omega
      go_wp2_with fail
      go_meet
      refine ⟨rfl, ?_⟩
      unfold Pl.F3
      rw [if_neg h1]
      exact S6.out
  case rest =>
  obtain ⟨rfl, hst⟩ := hcut
  obtain ⟨y7, hu7⟩ : ∃ u : World, u = wc := ⟨wc, rfl⟩
  rw [← hu7] at hst ⊢
  obtain ⟨s3, hs3⟩ : ∃ s, s = Pl.F3 p s2 := ⟨_, rfl⟩
  rw [← hs3] at hst
  have S7 : Hid (InSF w c r g s3 y7) := hst
  have Qs3 : Hid (s3 = Pl.F3 p s2) := hs3
  clear hst hu7 S6 hs3
  go_wp2_with fail
  refine (range_any f f1 f2 _).mono ?_
  rintro e y8 ⟨rfl, h8⟩
  rw [h8]
  clear h8 y8
  obtain ⟨L, hL⟩ : ∃ L, L = Pl.lo f := ⟨_, rfl⟩
  obtain ⟨U, hU⟩ : ∃ U, U = Pl.hi f := ⟨_, rfl⟩
  obtain ⟨D, hD⟩ : ∃ D, D = Pl.st f := ⟨_, rfl⟩
  have rb := rng f (by omega)
  rw [← hL, ← hU, ← hD] at rb
  rw [← hL, ← hU, ← hD]
  have QL : Hid (L = Pl.lo f ∧ U = Pl.hi f ∧ D = Pl.st f) := ⟨hL, hU, hD⟩
  clear hL hU hD
  obtain ⟨L1, L2, U1, U2, D1, D2⟩ := rb
  go_wp2_with fail
  refine (next_f _ c _ S7.out.rd).mono ?_
  rintro e y8 ⟨rfl, R8, O8⟩
  have hn1 := hd_le S7.out.rd
  have S8 : Hid (InSF w c r g { s3 with r := s3.r.tail } y8) := S7.out.only R8 O8
  dsimp only at hn1 ⊢
  obtain ⟨n1, hn1'⟩ : ∃ x, x = Pl.hd s3.r := ⟨_, rfl⟩
  rw [← hn1'] at hn1 ⊢
  have Qn1 : Hid (n1 = Pl.hd s3.r) := hn1'
  clear R8 O8 S7 hn1'
  go_wp2_with fail
  refine (next_f _ c _ S8.out.rd).mono ?_
  rintro e y9 ⟨rfl, R8, O8⟩
  have hn2 := hd_le S8.out.rd
  have S9 : Hid (InSF w c r g { s3 with r := s3.r.tail.tail } y9) := S8.out.only R8 O8
  dsimp only at hn2 ⊢
  obtain ⟨n2, hn2'⟩ : ∃ x, x = Pl.hd s3.r.tail := ⟨_, rfl⟩
  rw [← hn2'] at hn2 ⊢
  have Qn2 : Hid (n2 = Pl.hd s3.r.tail) := hn2'
  clear R8 O8 S8 hn2'
  go_wp2_with fail
  refine (next_f _ c _ S9.out.rd).mono ?_
  rintro e y10 ⟨rfl, R8, O8⟩
  have hn3 := hd_le S9.out.rd
  have S10 : Hid (InSF w c r g { s3 with r := s3.r.tail.tail.tail } y10) := S9.out.only R8 O8
  dsimp only at hn3 ⊢
  obtain ⟨n3, hn3'⟩ : ∃ x, x = Pl.hd s3.r.tail.tail := ⟨_, rfl⟩
  rw [← hn3'] at hn3 ⊢
  have Qn3 : Hid (n3 = Pl.hd s3.r.tail.tail) := hn3'
  clear R8 O8 S9 hn3'
  obtain ⟨s4, hs4⟩ : ∃ s, s = Pl.eat3 s3 := ⟨_, rfl⟩
  have S10' : Hid (InSF w c r g s4 y10) := by show InSF w c r g s4 y10; rw [hs4]; exact S10.out
  have Qs4 : Hid (s4 = Pl.eat3 s3) := hs4
  clear hs4 S10
  have hne1 : ¬ (U - L + 1 = 0) := by omega
  have hne2 : ¬ (D = 0) := by omega
  go_upto_if 66 with fail
  go_cut [4] from 13 to 142 (fun sv wx => sv = .pointer (some ⟨g, 0, none⟩) ∧ InSF w c r g (Pl.F4 p L U D v n1 n2 n3 s4) wx)
  case first =>
    by_cases h8 : p / 8 = 1
    · have e8 : (p / 8 == 1) = true := by simp; omega
      have kc99 : ∀ j, y10.cell? ⟨g, j, none⟩ = (#[.int .i64 s4.a, .int .i64 s4.b, .int .i64 s4.d, .int .i64 s4.e, .int .i64 s4.f] : Array Value)[j]? := (fun j => cell_of_row y10 g j _ 67 (0, 0) S10'.out.row)
      have kf99 : ∀ j, y10.frozen? ⟨g, j, none⟩ = false := (fun j => frozen_of_row y10 g j _ 67 S10'.out.row)
      go_upto_if 81 with fail
      refine wp_at fun y12 hy12 => ?_
      have S12 : Hid (InSF w c r g { s4 with f := Pl.imN L U D n1 n2 n3 } y12) := by show InSF w c r g _ y12; rw [hy12]; exact S10'.out.set 4 _ _ rfl rfl
      clear hy12 kc99 kf99 S10'
      have hl12 := S12.out.lt
      have ac12 : ∀ o j, (y12.alloc o).cell? ⟨g, j, none⟩ = (#[.int .i64 s4.a, .int .i64 s4.b, .int .i64 s4.d, .int .i64 s4.e, .int .i64 (Pl.imN L U D n1 n2 n3)] : Array Value)[j]? := (fun o j => cell_of_row (y12.alloc o) g j _ 67 (0, 0) ((Below.heap_alloc y12 o g hl12).trans S12.out.row))
      have af12 : ∀ o j, (y12.alloc o).frozen? ⟨g, j, none⟩ = false := (fun o j => frozen_of_row (y12.alloc o) g j _ 67 ((Below.heap_alloc y12 o g hl12).trans S12.out.row))
      by_cases h224 : 224 ≤ v
      · have e224 : (224 : Int) ≤ (v : Int) := by omega
        have hc : (y12.alloc (.cells (tab6 L U D) 3)).cell? ⟨y12.heap.size, v % 6, none⟩ = some (.int .i64 (Pl.t6 L U D (v % 6))) := by rw [cell_of_row _ _ _ (tab6 L U D) 3 (0, 0) (heap_alloc_new y12 _)]; exact t6_at L U D _ (by omega)
        obtain ⟨t, ht⟩ : ∃ t, t = Pl.t6 L U D (v % 6) := ⟨_, rfl⟩
        rw [← ht] at hc
        go_wp2_with (refine Great.wpList_buildSliceTo rfl 23 3 6 _ rfl y12.heap.size rfl _ rfl Tryz.underlying23 (tab6 L U D) (by kernel_rfl) ?_)
        go_meet
        refine ⟨rfl, ?_⟩
        unfold Pl.F4
        rw [if_pos h8, if_pos h224, ← ht]
        exact InSF.alloc (InSF.set S12.out 4 t { s4 with f := t } rfl rfl) _
      · have e224 : ¬ (224 : Int) ≤ (v : Int) := by omega
        go_wp2_with fail
        go_meet
        refine ⟨rfl, ?_⟩
        unfold Pl.F4
        rw [if_pos h8, if_neg h224]
        exact S12.out
    · have e8 : (p / 8 == 1) = false := by simp; omega
      go_wp2_with fail
      go_meet
      refine ⟨rfl, ?_⟩
      unfold Pl.F4
      rw [if_neg h8]
      exact S10'.out
  case rest =>
  obtain ⟨rfl, hst⟩ := hcut
  obtain ⟨y11, hu11⟩ : ∃ u : World, u = wc := ⟨wc, rfl⟩
  rw [← hu11] at hst ⊢
  obtain ⟨s5, hs5⟩ : ∃ s, s = Pl.F4 p L U D v n1 n2 n3 s4 := ⟨_, rfl⟩
  rw [← hs5] at hst
  have S11 : Hid (InSF w c r g s5 y11) := hst
  have Qs5 : Hid (s5 = Pl.F4 p L U D v n1 n2 n3 s4) := hs5
  clear hst hu11 S10' hs5
  go_upto_if 99 with fail
  go_cut [4] from 13 to 142 (fun sv wx => sv = .pointer (some ⟨g, 0, none⟩) ∧ InSF w c r g (Pl.F5 k v s5) wx)
  case first =>
    by_cases h245 : 245 ≤ k
    rotate_left
    · have e245 : ¬ (245 : Int) ≤ (k : Int) := by omega
      go_wp2_with fail
      go_meet
      refine ⟨rfl, ?_⟩
      unfold Pl.F5
      rw [if_neg h245]
      exact S11.out
    have e245 : (245 : Int) ≤ (k : Int) := by omega
    have kc99 : ∀ j, y11.cell? ⟨g, j, none⟩ = (#[.int .i64 s5.a, .int .i64 s5.b, .int .i64 s5.d, .int .i64 s5.e, .int .i64 s5.f] : Array Value)[j]? := (fun j => cell_of_row y11 g j _ 67 (0, 0) S11.out.row)
    have kf99 : ∀ j, y11.frozen? ⟨g, j, none⟩ = false := (fun j => frozen_of_row y11 g j _ 67 S11.out.row)
    have hl11 := S11.out.lt
    have ac11 : ∀ o j, (y11.alloc o).cell? ⟨g, j, none⟩ = (#[.int .i64 s5.a, .int .i64 s5.b, .int .i64 s5.d, .int .i64 s5.e, .int .i64 s5.f] : Array Value)[j]? := (fun o j => cell_of_row (y11.alloc o) g j _ 67 (0, 0) ((Below.heap_alloc y11 o g hl11).trans S11.out.row))
    have af11 : ∀ o j, (y11.alloc o).frozen? ⟨g, j, none⟩ = false := (fun o j => frozen_of_row (y11.alloc o) g j _ 67 ((Below.heap_alloc y11 o g hl11).trans S11.out.row))
    by_cases h50 : v % 5 = 0
    · have e50 : ((v : Int) % 5 == 0) = true := by simp; omega
      have hc : (y11.alloc (.cells tabA 3)).cell? ⟨y11.heap.size, v / 5 % 3, none⟩ = some (.int .i64 (Pl.tA (v / 5 % 3))) := by rw [cell_of_row _ _ _ tabA 3 (0, 0) (heap_alloc_new y11 _)]; exact tA_at _ (by omega)
      obtain ⟨t, ht⟩ : ∃ t, t = Pl.tA (v / 5 % 3) := ⟨_, rfl⟩
      rw [← ht] at hc
      go_wp2_with (refine Great.wpList_buildSliceTo rfl 23 3 3 _ rfl y11.heap.size rfl _ rfl Tryz.underlying23 tabA (by kernel_rfl) ?_)
      go_meet
      refine ⟨rfl, ?_⟩
      unfold Pl.F5
      rw [if_pos h245, if_pos h50, ← ht]
      exact InSF.alloc (InSF.set S11.out 0 t { s5 with a := t } rfl rfl) _
    have e50 : ((v : Int) % 5 == 0) = false := by simp; omega
    by_cases h51 : v % 5 = 1
    · have e51 : ((v : Int) % 5 == 1) = true := by simp; omega
      have hc : (y11.alloc (.cells tabB 3)).cell? ⟨y11.heap.size, v / 5 % 3, none⟩ = some (.int .i64 (Pl.tB (v / 5 % 3))) := by rw [cell_of_row _ _ _ tabB 3 (0, 0) (heap_alloc_new y11 _)]; exact tB_at _ (by omega)
      obtain ⟨t, ht⟩ : ∃ t, t = Pl.tB (v / 5 % 3) := ⟨_, rfl⟩
      rw [← ht] at hc
      go_wp2_with (refine Great.wpList_buildSliceTo rfl 23 3 3 _ rfl y11.heap.size rfl _ rfl Tryz.underlying23 tabB (by kernel_rfl) ?_)
      go_meet
      refine ⟨rfl, ?_⟩
      unfold Pl.F5
      rw [if_pos h245, if_neg h50, if_pos h51, ← ht]
      exact InSF.alloc (InSF.set S11.out 1 t { s5 with b := t } rfl rfl) _
    have e51 : ((v : Int) % 5 == 1) = false := by simp; omega
    by_cases h52 : v % 5 = 2
    · have e52 : ((v : Int) % 5 == 2) = true := by simp; omega
      have hc : (y11.alloc (.cells tabB 3)).cell? ⟨y11.heap.size, v / 5 % 3, none⟩ = some (.int .i64 (Pl.tB (v / 5 % 3))) := by rw [cell_of_row _ _ _ tabB 3 (0, 0) (heap_alloc_new y11 _)]; exact tB_at _ (by omega)
      obtain ⟨t, ht⟩ : ∃ t, t = Pl.tB (v / 5 % 3) := ⟨_, rfl⟩
      rw [← ht] at hc
      go_wp2_with (refine Great.wpList_buildSliceTo rfl 23 3 3 _ rfl y11.heap.size rfl _ rfl Tryz.underlying23 tabB (by kernel_rfl) ?_)
      go_meet
      refine ⟨rfl, ?_⟩
      unfold Pl.F5
      rw [if_pos h245, if_neg h50, if_neg h51, if_pos h52, ← ht]
      exact InSF.alloc (InSF.set S11.out 2 t { s5 with d := t } rfl rfl) _
    have e52 : ((v : Int) % 5 == 2) = false := by simp; omega
    by_cases h53 : v % 5 = 3
    · have e53 : ((v : Int) % 5 == 3) = true := by simp; omega
      have hc : (y11.alloc (.cells tabB 3)).cell? ⟨y11.heap.size, v / 5 % 3, none⟩ = some (.int .i64 (Pl.tB (v / 5 % 3))) := by rw [cell_of_row _ _ _ tabB 3 (0, 0) (heap_alloc_new y11 _)]; exact tB_at _ (by omega)
      obtain ⟨t, ht⟩ : ∃ t, t = Pl.tB (v / 5 % 3) := ⟨_, rfl⟩
      rw [← ht] at hc
      go_wp2_with (refine Great.wpList_buildSliceTo rfl 23 3 3 _ rfl y11.heap.size rfl _ rfl Tryz.underlying23 tabB (by kernel_rfl) ?_)
      go_meet
      refine ⟨rfl, ?_⟩
      unfold Pl.F5
      rw [if_pos h245, if_neg h50, if_neg h51, if_neg h52, if_pos h53, ← ht]
      exact InSF.alloc (InSF.set S11.out 3 t { s5 with e := t } rfl rfl) _
    have e53 : ((v : Int) % 5 == 3) = false := by simp; omega
    go_wp2_with fail
    go_meet
    refine ⟨rfl, ?_⟩
    unfold Pl.F5
    rw [if_pos h245, if_neg h50, if_neg h51, if_neg h52, if_neg h53]
    exact S11.out.set 4 _ _ rfl rfl
  case rest =>
  obtain ⟨rfl, hst⟩ := hcut
  obtain ⟨y13, hu13⟩ : ∃ u : World, u = wc := ⟨wc, rfl⟩
  rw [← hu13] at hst ⊢
  obtain ⟨s6, hs6⟩ : ∃ s, s = Pl.F5 k v s5 := ⟨_, rfl⟩
  rw [← hs6] at hst
  have S13 : Hid (InSF w c r g s6 y13) := hst
  have Qs6 : Hid (s6 = Pl.F5 k v s5) := hs6
  clear hst hu13 S11 hs6
  have hrow := S13.out.row
  have hres := S13.out.res
  have hrg := S13.out.rg
  have HD : Hid (Pl.dIns r0 = s6) := by
    show Pl.dIns r0 = s6
    unfold Pl.dIns Pl.dS3 Pl.dP
    rw [Qs6.out, Qs5.out, Qs4.out, Qn1.out, Qn2.out, Qn3.out, QL.out.1, QL.out.2.1, QL.out.2.2, Qs3.out, Qs2.out, Qs1.out, Qs0.out, Qp.out, Qf.out, Qv.out, Qq.out, Qk.out]
  have HB : Hid (OnlyB c w y13 ∧ RdAt y13 c s6.r ∧ c < r ∧ r < g) := ⟨S13.out.bel, S13.out.rd, S13.out.cr, hrg⟩
  go_wp2_with (first | (refine wpList_load_row rfl 67 _ rfl g ?hx 67 #[.int .i64 s6.a, .int .i64 s6.b, .int .i64 s6.d, .int .i64 s6.e, .int .i64 s6.f] (0, 0) _ ?hg Tryz.underlying67 ?hd ?hi ?_; (case hx => rfl); (case hg => exact hrow); (case hd => rfl); (case hi => kernel_rfl)) | (refine wpList_store_row rfl 67 _ _ rfl r #[.int .i64 s6.a, .int .i64 s6.b, .int .i64 s6.d, .int .i64 s6.e, .int .i64 s6.f] ?hx ?hy 67 #[.int .i64 0, .int .i64 0, .int .i64 0, .int .i64 0, .int .i64 0] ?hg ?hi ?ho ?h1 ?_; (case hx => rfl); (case hy => rfl); (case hg => exact hres); (case hi => kernel_rfl); (case ho => kernel_rfl); (case h1 => kernel_rfl); refine Hid.out ?_))
  unfold Hid
  go_wp2
  obtain ⟨hb1, hb2, hb3, hb4⟩ := HB.out
  exact bodyPost_ret (v := .agg #[.int .i64 s6.a, .int .i64 s6.b, .int .i64 s6.d, .int .i64 s6.e, .int .i64 s6.f]) (results_cell_row Tryz.results49 _ _ r 67 #[.int .i64 s6.a, .int .i64 s6.b, .int .i64 s6.d, .int .i64 s6.e, .int .i64 s6.f] (0, 0) _ rfl (setRow_heap _ _ _ _ _ _ hres) Tryz.underlying67 rfl (by kernel_rfl)) rfl ⟨by rw [HD.out], by rw [HD.out]; exact hb2.keep (below_setRow' (B := r) (Below.refl _ _) (Nat.le_refl _) _) hb3, hb1.low (below_setRow' (Below.refl _ _) hwr.out _)⟩
end Go.Proofs.YtnapeklkhkonhaaGreatDoor.W
