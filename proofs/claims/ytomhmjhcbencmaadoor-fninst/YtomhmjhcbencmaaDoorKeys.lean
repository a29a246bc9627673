import Derived.Test.YtomhmjhcbencmaaDoorRegN
import Derived.Deep.WholeRow
import Derived.Laws.ResultCell
import Derived.Maps.Own
import Derived.Maps.OwnOps
import Derived.Maps.Views
import Derived.ProofKit
import Derived.Lib.BufferWrite
import Derived.Lib.SlBuf
namespace Go.Proofs.YtomhmjhcbencmaaDoor.W
open Go.RowKit Go.Maps
theorem u60 : Tryd.prog.underlying 72 = some (.array 7 5) := by kernel_rfl
theorem kt60 : Tryd.prog.keyType 72 = true := by kernel_rfl
theorem c60 : Tryd.prog.cellsOf 72 = 7 := by kernel_rfl
theorem c5 : Tryd.prog.cellsOf 5 = 1 := by kernel_rfl
theorem law60 : Keyed Tryd.prog 72 := Keyed.of_law (deep_law_laid (by kernel_rfl) (m := 20) (by decide) (of_decide_eq_true (by kernel_rfl)) (by kernel_rfl) (by kernel_rfl))
theorem keyLits1 (d : Nat) (n : Int) (h : 0 ≤ n ∧ n ≤ 255) : Tryd.prog.keyLits (d + 1) 5 [.int .u8 n] = some [.int .u8 n] := by
  simp [Program.keyLits, Tryd.underlying5, WalkArith.wf_u8 h]
theorem keyLits60 (d : Nat) (cs : List Value) (h : cs.length = 7) : Tryd.prog.keyLits (d + 1) 72 cs = ((List.range 7).mapM fun i => Tryd.prog.keyLits d 5 ((cs.drop (i * 1)).take 1)).map List.flatten := by
  simp [Program.keyLits, c60, c5, h]
theorem key7 (n0 n1 n2 n3 n4 n5 n6 : Int) (h0 : 0 ≤ n0 ∧ n0 ≤ 255) (h1 : 0 ≤ n1 ∧ n1 ≤ 255) (h2 : 0 ≤ n2 ∧ n2 ≤ 255) (h3 : 0 ≤ n3 ∧ n3 ≤ 255) (h4 : 0 ≤ n4 ∧ n4 ≤ 255) (h5 : 0 ≤ n5 ∧ n5 ≤ 255) (h6 : 0 ≤ n6 ∧ n6 ≤ 255) :
    ∃ kl, keyOf Tryd.prog 72 (.agg #[.int .u8 n0, .int .u8 n1, .int .u8 n2, .int .u8 n3, .int .u8 n4, .int .u8 n5, .int .u8 n6]) = some kl := by
  have ht : ∃ m, Tryd.prog.types.size + 1 = m + 1 + 1 := ⟨Tryd.prog.types.size - 1, by have : 0 < Tryd.prog.types.size := of_decide_eq_true (by kernel_rfl); omega⟩
  obtain ⟨m, hm⟩ := ht
  unfold keyOf
  rw [u60]
  have hf : Value.formed Tryd.prog 72 (.agg #[.int .u8 n0, .int .u8 n1, .int .u8 n2, .int .u8 n3, .int .u8 n4, .int .u8 n5, .int .u8 n6]) = true := by simp [Value.formed, c60]
  simp only [kt60, hf, hm, Bool.and_self, if_true]
  rw [keyLits60 _ _ (by simp [Value.cells])]
  simp [Value.cells, List.range_succ, keyLits1, h0, h1, h2, h3, h4, h5, h6]
/-- the key of a text: its length and its bytes -/
def kcells (s : ByteArray) : List Value := if s.size < 7 then .int .u8 (s.size : Int) :: (s.data.toList.map fun b : UInt8 => Value.int .u8 (b.toNat : Int)) ++ List.replicate (6 - s.size) (.int .u8 0) else List.replicate 7 (.int .u8 0)
theorem kcells_len (s : ByteArray) : (kcells s).length = 7 := by
  have hsz : s.data.toList.length = s.size := by rw [Array.length_toList]; rfl
  unfold kcells
  split
  · simp only [List.length_append, List.length_cons, List.length_map, List.length_replicate, hsz]; omega
  · simp
theorem kcells_byte (s : ByteArray) (v : Value) (h : v ∈ kcells s) : ∃ n : Int, v = .int .u8 n ∧ 0 ≤ n ∧ n ≤ 255 := by
  unfold kcells at h
  split at h
  · simp only [List.mem_append, List.mem_cons, List.mem_map, List.mem_replicate] at h
    rcases h with (rfl | ⟨b, _, rfl⟩) | ⟨_, rfl⟩
    · exact ⟨_, rfl, by omega, by omega⟩
    · have := b.toNat_lt; exact ⟨_, rfl, by omega, by omega⟩
    · exact ⟨0, rfl, by decide, by decide⟩
  · simp only [List.mem_replicate] at h
    exact ⟨0, h.2, by decide, by decide⟩
theorem key_of (s : ByteArray) : ∃ kl, keyOf Tryd.prog 72 (.agg (kcells s).toArray) = some kl := by
  have hl := kcells_len s
  have hb := kcells_byte s
  match hc : kcells s, hl with
  | [c0, c1, c2, c3, c4, c5, c6], _ =>
    rw [hc] at hb
    obtain ⟨n0, rfl, h0⟩ := hb c0 (by simp)
    obtain ⟨n1, rfl, h1⟩ := hb c1 (by simp)
    obtain ⟨n2, rfl, h2⟩ := hb c2 (by simp)
    obtain ⟨n3, rfl, h3⟩ := hb c3 (by simp)
    obtain ⟨n4, rfl, h4⟩ := hb c4 (by simp)
    obtain ⟨n5, rfl, h5⟩ := hb c5 (by simp)
    obtain ⟨n6, rfl, h6⟩ := hb c6 (by simp)
    exact key7 n0 n1 n2 n3 n4 n5 n6 h0 h1 h2 h3 h4 h5 h6
/-- short texts with one key are one -/
theorem kcells_inj (s t : ByteArray) (hs : s.size < 7) (ht : t.size < 7) (h : kcells s = kcells t) : s = t := by
  unfold kcells at h
  rw [if_pos hs, if_pos ht] at h
  simp only [List.cons_append, List.cons.injEq, Value.int.injEq, true_and] at h
  have hz : s.size = t.size := by omega
  have h2 := h.2
  have hl : (s.data.toList.map fun b : UInt8 => Value.int .u8 (b.toNat : Int)).length = (t.data.toList.map fun b : UInt8 => Value.int .u8 (b.toNat : Int)).length := by
    simp only [List.length_map, Array.length_toList]; exact hz
  have h3 := (List.append_inj h2 hl).1
  have h4 : s.data.toList = t.data.toList := by
    refine List.map_inj_right (f := fun b : UInt8 => Value.int .u8 (b.toNat : Int)) ?_ |>.1 h3
    intro a b e
    simp only [Value.int.injEq, true_and] at e
    exact UInt8.toNat_inj.1 (by omega)
  cases s; cases t
  simp only [ByteArray.mk.injEq]
  exact Array.toList_inj.1 h4
theorem heap_alloc_at' (w : World) (o : Obj) (g : Nat) (h : w.heap.size = g) : (w.alloc o).heap[g]? = some o := by subst h; exact heap_alloc_new w o
theorem heap_alloc_old' (w : World) (o : Obj) (g : Nat) (h : g < w.heap.size) : (w.alloc o).heap[g]? = w.heap[g]? := Below.heap_alloc w o g h
theorem setRow_alloc_at' (w : World) (c c' : Array Value) (t : TypeId) (g : Nat) (h : w.heap.size = g) : (w.alloc (.cells c t)).setRow g c' = w.alloc (.cells c' t) := by subst h; exact World.setRow_alloc_new w c c' t
theorem below_setRow {B : Nat} {a w : World} (h : Below B a w) {g : Nat} (hg : B ≤ g) (cs : Array Value) : Below B a (w.setRow g cs) :=
  ⟨h.os, h.tape, h.output, by rw [size_setRow]; exact h.size, fun k hk => (setRow_other w g k cs (by omega)).trans (h.block k hk)⟩
theorem kcells_short (s : ByteArray) (h : s.size < 7) : (#[.int .u8 (s.size : Int), .int .u8 0, .int .u8 0, .int .u8 0, .int .u8 0, .int .u8 0, .int .u8 0] : Array Value).toList.take 1 ++ Lib.byteCells s.data.toList ++ (#[.int .u8 (s.size : Int), .int .u8 0, .int .u8 0, .int .u8 0, .int .u8 0, .int .u8 0, .int .u8 0] : Array Value).toList.drop (1 + s.size) = kcells s := by
  unfold kcells Lib.byteCells
  rw [if_pos h]
  have hd : (#[.int .u8 (s.size : Int), .int .u8 0, .int .u8 0, .int .u8 0, .int .u8 0, .int .u8 0, .int .u8 0] : Array Value).toList.drop (1 + s.size) = List.replicate (6 - s.size) (.int .u8 0) := by
    generalize s.size = n at *
    match n, h with
    | 0, _ => rfl
    | 1, _ => rfl
    | 2, _ => rfl
    | 3, _ => rfl
    | 4, _ => rfl
    | 5, _ => rfl
    | 6, _ => rfl
    | n + 7, h => omega
  rw [hd]; rfl
theorem kcells_long (s : ByteArray) (h : ¬ s.size < 7) : (kcells s).toArray = #[.int .u8 0, .int .u8 0, .int .u8 0, .int .u8 0, .int .u8 0, .int .u8 0, .int .u8 0] := by unfold kcells; rw [if_neg h]; rfl
theorem kcells_one (s : ByteArray) : (kcells s).toArray.all (·.oneCell') = true := by
  rw [Array.all_eq_true_iff_forall_mem]
  intro v hv
  obtain ⟨n, rfl, _⟩ := kcells_byte s v (by simpa using hv)
  rfl
set_option maxHeartbeats 1000000 in
set_option maxRecDepth 100000 in
theorem keyFn_any (s : ByteArray) (hs : s.size ≤ maxLen) (w : World) : Calls Tryd.prog 42 #[.string s] w fun e w' => e = .returned (.agg (kcells s).toArray) ∧ Below w.heap.size w w' := by
  unfold maxLen at hs
  by_cases h : s.size < 7
  · have hcopy : (Builtin.copy_ #[22, 9] 3 #[.slice (some ⟨w.heap.size + 1, 1, none⟩) 6 6, .string s]).run Tryd.prog ((w.alloc (.cells #[.int .u8 0, .int .u8 0, .int .u8 0, .int .u8 0, .int .u8 0, .int .u8 0, .int .u8 0] 72)).alloc (.cells #[.int .u8 (s.size : Int), .int .u8 0, .int .u8 0, .int .u8 0, .int .u8 0, .int .u8 0, .int .u8 0] 72)) = .ok (goInt s.size) ((w.alloc (.cells #[.int .u8 0, .int .u8 0, .int .u8 0, .int .u8 0, .int .u8 0, .int .u8 0, .int .u8 0] 72)).alloc (.cells (kcells s).toArray 72)) := by
      rw [Lib.run_copy_row_string _ 22 9 3 5 (w.heap.size + 1) 1 6 6 s #[.int .u8 (s.size : Int), .int .u8 0, .int .u8 0, .int .u8 0, .int .u8 0, .int .u8 0, .int .u8 0] 72 Tryd.underlying22 (by kernel_rfl) (heap_alloc_at' _ _ _ (by simp)) (by omega) (by simp; omega)]
      rw [setRow_alloc_at' _ _ _ _ _ (by simp), kcells_short s h]
    have hK : (kcells s).toArray.size = 7 := by simpa using kcells_len s
    have h1 := kcells_one s
    generalize (kcells s).toArray = K at hcopy hK h1 ⊢
    have HK : Hid (K.size = 7) := hK
    have H1 : Hid (K.all (·.oneCell') = true) := h1
    have hi : (Tryd.prog.info? 72).map (·.size) = some 7 := by kernel_rfl
    have HI : Hid ((Tryd.prog.info? 72).map (·.size) = some 7) := hi
    clear hK h1 hi
    go_enter Tryd.func42, Tryd.ntmps42
    go_wp2_with (first | (refine wpList_load_row rfl 72 _ rfl _ rfl 72 K (0, 0) _ (heap_alloc_at' _ _ _ (by simp)) u60 rfl (by rw [HK.out]; exact HI.out) ?_) | (refine wpList_store_row rfl 72 _ _ rfl w.heap.size K rfl rfl 72 #[.int .u8 0, .int .u8 0, .int .u8 0, .int .u8 0, .int .u8 0, .int .u8 0, .int .u8 0] (by rw [heap_alloc_old' _ _ _ (by simp)]; exact heap_alloc_new w _) (by rw [HK.out]; exact HI.out) (by rw [HK.out]; rfl) H1.out ?_))
    have hg : ((w.alloc (.cells #[.int .u8 0, .int .u8 0, .int .u8 0, .int .u8 0, .int .u8 0, .int .u8 0, .int .u8 0] 72)).alloc (.cells K 72)).heap[w.heap.size]? = some (.cells #[.int .u8 0, .int .u8 0, .int .u8 0, .int .u8 0, .int .u8 0, .int .u8 0, .int .u8 0] 72 (0, 0)) := by rw [heap_alloc_old' _ _ _ (by simp)]; exact heap_alloc_new w _
    exact bodyPost_ret (v := .agg K) (results_cell_row Tryd.results42 _ _ w.heap.size 72 K (0, 0) _ rfl (setRow_heap _ _ _ K 72 _ hg) u60 rfl (by rw [HK.out]; exact HI.out)) rfl ⟨rfl, below_setRow (by repeat (first | exact Below.refl _ _ | refine Below.alloc ?_ (by simp <;> omega) _)) (Nat.le_refl _) _⟩
  · rw [kcells_long s h]
    go_enter Tryd.func42, Tryd.ntmps42
    go_wp2
    exact bodyPost_ret (v := .agg #[.int .u8 0, .int .u8 0, .int .u8 0, .int .u8 0, .int .u8 0, .int .u8 0, .int .u8 0]) (by simp [results, Tryd.results42, go_sem]) rfl ⟨rfl, (by repeat (first | exact Below.refl _ _ | refine Below.alloc ?_ (by simp <;> omega) _))⟩
end Go.Proofs.YtomhmjhcbencmaaDoor.W
