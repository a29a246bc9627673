import Derived.Test.YtgpmplcamdophaaDoorIpE
import Derived.Lib.ConvBytes
import Derived.Lib.SmallJoins
import Derived.Lib.AppendStr
set_option linter.unusedVariables false
set_option linter.unusedSimpArgs false
namespace Go.Proofs.YtgpmplcamdophaaDoor.Pl
/-- the cells of bytes -/
def bcl (l : List UInt8) : List Value := l.map fun b => Value.int .u8 (b.toNat : Int)
theorem bcl_len (l : List UInt8) : (bcl l).length = l.length := by simp [bcl]
theorem bcl_app (a b : List UInt8) : bcl (a ++ b) = bcl a ++ bcl b := by simp [bcl]
theorem bcl_one (l : List UInt8) (u : Value) (h : u ∈ bcl l) : u.oneCell' = true := by obtain ⟨n, _, rfl⟩ := List.mem_map.1 h; rfl
end Go.Proofs.YtgpmplcamdophaaDoor.Pl
namespace Go.Proofs.YtgpmplcamdophaaDoor.W
open Go.RowKit
/-- what LineOk says of a line -/
noncomputable def lok (x : Pl.Ln) : Bool := Classical.choose (line_same x.k x.op x.rd x.r1 x.r2 x.im x.n x.s)
theorem lok_spec (x : Pl.Ln) (w : World) : Calls Tryd.prog 19 #[.agg #[.int .i64 x.k, .int .i64 x.op, .int .i64 x.rd, .int .i64 x.r1, .int .i64 x.r2, .int .i64 x.im, .string x.s, .int .i64 x.n]] w fun e w' => e = .returned (.bool (lok x)) ∧ Below w.heap.size w w' := (Classical.choose_spec (line_same x.k x.op x.rd x.r1 x.r2 x.im x.n x.s)).1 w
theorem lok_impl (x : Pl.Ln) (w : World) : Calls Tryd.prog 22 #[.agg #[.int .i64 x.k, .int .i64 x.op, .int .i64 x.rd, .int .i64 x.r1, .int .i64 x.r2, .int .i64 x.im, .string x.s, .int .i64 x.n]] w fun e w' => e = .returned (.bool (lok x)) ∧ Below w.heap.size w w' := (Classical.choose_spec (line_same x.k x.op x.rd x.r1 x.r2 x.im x.n x.s)).2.1 w
theorem lok_both (x : Pl.Ln) (h : lok x = true) : ∃ T, Both x T := (Classical.choose_spec (line_same x.k x.op x.rd x.r1 x.r2 x.im x.n x.s)).2.2 h
open Classical in
/-- a well-formed line's text -/
noncomputable def ltx (x : Pl.Ln) : ByteArray := if h : lok x = true then Classical.choose (lok_both x h) else ⟨#[]⟩
theorem ltx_both (x : Pl.Ln) (h : lok x = true) : Both x (ltx x) := by
  unfold ltx
  rw [dif_pos h]
  exact Classical.choose_spec (lok_both x h)
/-- a line's row -/
noncomputable def rw' (x : Pl.Ln) : List UInt8 := (Pl.rowT x.k (ltx x)).data.toList
/-- the rows of lines -/
noncomputable def bd (xs : List Pl.Ln) : List UInt8 := xs.flatMap rw'
theorem bd_succ (xs : List Pl.Ln) (k : Nat) (h : k < xs.length) : bd (xs.take (k + 1)) = bd (xs.take k) ++ rw' (xs.getD k Pl.Ln.zero) := by
  unfold bd
  rw [List.take_add_one, List.getElem?_eq_getElem h, List.flatMap_append]
  simp [List.getD, List.getElem?_eq_getElem h]
theorem rw_len (x : Pl.Ln) (h : lok x = true) : (rw' x).length ≤ 403 := by
  have := (ltx_both x h).1
  have e1 : (⟨#[10]⟩ : ByteArray).size = 1 := rfl
  have e2 : (⟨#[32, 32]⟩ : ByteArray).size = 2 := rfl
  show (Pl.rowT x.k (ltx x)).data.toList.length ≤ 403
  rw [Array.length_toList]
  show (Pl.rowT x.k (ltx x)).size ≤ 403
  unfold Pl.rowT
  split
  · rw [ByteArray.size_append, e1]; omega
  · rw [ByteArray.size_append, ByteArray.size_append, e1, e2]; omega
theorem bd_len (xs : List Pl.Ln) : ∀ k, k ≤ xs.length → (∀ j, j < k → lok (xs.getD j Pl.Ln.zero) = true) → (bd (xs.take k)).length ≤ 403 * k
  | 0, _, _ => by simp [bd]
  | k + 1, h, hl => by
    rw [bd_succ xs k (by omega)]
    have := bd_len xs k (by omega) (fun j hj => hl j (by omega))
    have := rw_len _ (hl k (by omega))
    simp only [List.length_append]
    omega
theorem bd_mono (xs : List Pl.Ln) (k : Nat) (h : k ≤ xs.length) : (bd (xs.take k)).length ≤ (bd xs).length := by
  have : bd xs = bd (xs.take k) ++ bd (xs.drop k) := by
    unfold bd
    rw [← List.flatMap_append, List.take_append_drop]
  rw [this]
  simp
open Classical in
/-- the whole answer -/
noncomputable def ans (xs : List Pl.Ln) : List UInt8 × Bool := if xs.length ≤ 20000 ∧ (∀ j, j < xs.length → lok (xs.getD j Pl.Ln.zero) = true) ∧ (bd xs).length ≤ 400000 then (bd xs, true) else ([], false)
theorem ans_yes {xs : List Pl.Ln} (h1 : xs.length ≤ 20000) (h2 : ∀ j, j < xs.length → lok (xs.getD j Pl.Ln.zero) = true) (h3 : (bd xs).length ≤ 400000) : ans xs = (bd xs, true) := by unfold ans; rw [if_pos ⟨h1, h2, h3⟩]
theorem ans_long {xs : List Pl.Ln} (h1 : 20000 < xs.length) : ans xs = ([], false) := by unfold ans; rw [if_neg (fun h => by omega)]
theorem ans_bad {xs : List Pl.Ln} {k : Nat} (hk : k < xs.length) (h1 : lok (xs.getD k Pl.Ln.zero) = false) : ans xs = ([], false) := by unfold ans; rw [if_neg (fun h => by have := h.2.1 k hk; rw [h1] at this; cases this)]
theorem ans_big {xs : List Pl.Ln} (h1 : 400000 < (bd xs).length) : ans xs = ([], false) := by unfold ans; rw [if_neg (fun h => by omega)]
theorem binfou8 : (Tryd.prog.info? 5).map (fun i => (i.zero, i.size, i.bytes)) = some (some (.int .u8 0), 1, 1) := by kernel_rfl
theorem bbw_cells (w : World) (s : ByteArray) (j : Nat) (u : Value) (hj : (Pl.bcl s.data.toList)[j]? = some u) : (Lib.bytesWorld w 5 s).cell? ((⟨w.heap.size, 0, none⟩ : Addr).add j) = some u := by
  have hl : j < s.data.toList.length := by have := (List.getElem?_eq_some_iff.1 hj).1; rwa [Pl.bcl_len] at this
  have hl2 : j < s.size := by
    have := hl
    rw [Array.length_toList] at this
    exact this
  have := Lib.bytesWorld_cell w 5 s j hl2
  simp only [Pl.bcl, List.getElem?_map, List.getElem?_eq_getElem hl, Option.map_some, Option.some.injEq] at hj
  rw [show (⟨w.heap.size, 0, none⟩ : Addr).add j = ⟨w.heap.size, j, none⟩ by simp [Addr.add]; omega, this, ← hj]
  simp only [List.getD, List.getElem?_eq_getElem hl, Option.getD_some]
theorem lit_cells (w : World) (l : List UInt8) (cs : Array Value) (hcs : cs.toList = Pl.bcl l) (j : Nat) (u : Value) (hj : (Pl.bcl l)[j]? = some u) : (w.alloc (.cells cs 5)).cell? ((⟨w.heap.size, 0, none⟩ : Addr).add j) = some u := by
  rw [show (⟨w.heap.size, 0, none⟩ : Addr).add j = ⟨w.heap.size, j, none⟩ by simp [Addr.add]; omega, cell_of_row _ w.heap.size j _ 5 (0, 0) (heap_alloc_new w _), ← hj, ← hcs, Array.getElem?_toList]
end Go.Proofs.YtgpmplcamdophaaDoor.W
namespace Go.Proofs.YtgpmplcamdophaaDoor.W
open Go.RowKit
def AnsIs (w w' : World) (e : Ending) (xs : List Pl.Ln) : Prop := ∃ a len cap, e = .returned (.tuple #[.slice a len cap, .bool (ans xs).2]) ∧ len = (ans xs).1.length ∧ w'.ownsRow w.heap.size 5 1 (.slice a len cap) len (Pl.bcl (ans xs).1) ∧ Below w.heap.size w w'
theorem AnsIs.no {w w' : World} {e : Ending} {xs : List Pl.Ln} (h : ans xs = ([], false)) {a : Option Addr} {cap : Nat} (he : e = .returned (.tuple #[.slice a 0 cap, .bool false])) (ho : w'.ownsRow w.heap.size 5 1 (.slice a 0 cap) 0 []) (hb : Below w.heap.size w w') : AnsIs w w' e xs := by
  refine ⟨a, 0, cap, ?_, ?_, ?_, hb⟩
  · rw [h]; exact he
  · rw [h]; rfl
  · rw [h]; exact ho
theorem AnsIs.yes {w w' : World} {e : Ending} {xs : List Pl.Ln} {l : List UInt8} (h : ans xs = (l, true)) {a : Option Addr} {len cap : Nat} (hl : len = l.length) (he : e = .returned (.tuple #[.slice a len cap, .bool true])) (ho : w'.ownsRow w.heap.size 5 1 (.slice a len cap) len (Pl.bcl l)) (hb : Below w.heap.size w w') : AnsIs w w' e xs := by
  refine ⟨a, len, cap, ?_, ?_, ?_, hb⟩
  · rw [h]; exact he
  · rw [h]; exact hl
  · rw [h]; exact ho
theorem ln_cells {w u : World} {b o : Nat} {x : Pl.Ln} (D : Below w.heap.size w u) (hb : b < w.heap.size) (hc : ∀ j, j < 8 → w.cell? ⟨b, o + j, none⟩ = x.cells[j]?) :
    u.cell? ⟨b, o, none⟩ = some (.int .i64 x.k) ∧ u.cell? ⟨b, o + 1, none⟩ = some (.int .i64 x.op) ∧ u.cell? ⟨b, o + 2, none⟩ = some (.int .i64 x.rd) ∧ u.cell? ⟨b, o + 3, none⟩ = some (.int .i64 x.r1) ∧ u.cell? ⟨b, o + 4, none⟩ = some (.int .i64 x.r2) ∧ u.cell? ⟨b, o + 5, none⟩ = some (.int .i64 x.im) ∧ u.cell? ⟨b, o + 6, none⟩ = some (.string x.s) ∧ u.cell? ⟨b, o + 7, none⟩ = some (.int .i64 x.n) := by
  have key : ∀ j, j < 8 → u.cell? ⟨b, o + j, none⟩ = x.cells[j]? := fun j hj => (D.cell (p := ⟨b, o + j, none⟩) hb).trans (hc j hj)
  exact ⟨key 0 (by decide), key 1 (by decide), key 2 (by decide), key 3 (by decide), key 4 (by decide), key 5 (by decide), key 6 (by decide), key 7 (by decide)⟩
theorem rw_is {x : Pl.Ln} (h : x.k = 1) : rw' x = (ltx x).data.toList ++ [10] := by
  unfold rw' Pl.rowT
  rw [if_pos h]
  simp [ByteArray.data_append]
theorem rw_no {x : Pl.Ln} (h : ¬ x.k = 1) : rw' x = [32, 32] ++ (ltx x).data.toList ++ [10] := by
  unfold rw' Pl.rowT
  rw [if_neg h]
  simp [ByteArray.data_append]
theorem tl_len (T : ByteArray) : T.data.toList.length = T.size := by rw [Array.length_toList]; rfl
theorem lit0 (w : World) : (w.alloc (.cells #[] 5)).ownsRow w.heap.size 5 1 (.slice (some ⟨w.heap.size, 0, none⟩) 0 0) 0 [] := World.ownsRow_lit w #[] 0 (Nat.le_refl _) (Nat.zero_le _) rfl
theorem lit0_at {B : Nat} (w : World) (h : B ≤ w.heap.size) : (w.alloc (.cells #[] 5)).ownsRow B 5 1 (.slice (some ⟨w.heap.size, 0, none⟩) 0 0) 0 [] := World.ownsRow_lit w #[] 0 h (Nat.zero_le _) rfl
set_option maxRecDepth 8000 in
set_option maxHeartbeats 4000000 in
theorem specPrint_any {lo : Nat} (a : Option Addr) (len cap : Nat) (xs : List Pl.Ln) (w : World) (h : LRow lo w a len cap xs) : Calls Tryd.prog 8 #[.slice a len cap] w fun e w' => AnsIs w w' e xs := by
  obtain ⟨i0, hi, hz0, hz1, hz2⟩ := info_parts binfou8
  have hcv : ∀ (u : World) (t : ByteArray), (convert 9 26 (.string t)).run Tryd.prog u = .ok (.slice (some ⟨u.heap.size, 0, none⟩) t.size (grownCap u t.size 0 5)) (Lib.bytesWorld u 5 t) := fun u t => Lib.run_convert_string_bytes u 9 26 5 t Tryd.underlying9 Tryd.underlying26 Tryd.underlying5
  obtain ⟨h1, h2, h3, h4⟩ := h
  have hm : (len : Int) ≤ 9223372036854775807 := by unfold maxLen at h3; omega
  have HL : Hid (xs.length = len) := h1.1
  have H4 : Hid (len = 0 ∨ ∃ b off, a = some ⟨b, off, none⟩ ∧ lo ≤ b ∧ b < w.heap.size ∧ ∀ i, i < len → ∀ j, j < 8 → w.cell? ⟨b, off + i * 8 + j, none⟩ = (xs.getD i Pl.Ln.zero).cells[j]?) := h4
  clear h4 h1
  by_cases hbig : 20000 < len
  · have hb' : (20000 : Int) < (len : Int) := by omega
    go_enter Tryd.func8, Tryd.ntmps8
    go_wp2
    go_ret2
    exact AnsIs.no (ans_long (by rw [HL.out]; exact hbig)) rfl (lit0 w) (below_alloc2 w _)
  have hb' : ¬ (20000 : Int) < (len : Int) := by omega
  go_enter Tryd.func8, Tryd.ntmps8
  go_wp2_with fail
  go_loopw [4, 5] (fun v i wr => ∃ k : Nat, k ≤ len ∧ i = .int .i64 k ∧ (∀ j, j < k → lok (xs.getD j Pl.Ln.zero) = true) ∧ wr.ownsRow w.heap.size 5 1 v (bd (xs.take k)).length (Pl.bcl (bd (xs.take k))) ∧ Below w.heap.size w wr) (fun _ i _ => len - (intOf i).toNat)
  case atStart => exact ⟨0, Nat.zero_le _, rfl, fun j hj => absurd hj (Nat.not_lt_zero j), lit0 w, below_alloc2 w _⟩
  case round =>
    obtain ⟨k, hk, rfl, hall, hown, hbel⟩ := hrel
    have HA : Hid (∀ j, j < k → lok (xs.getD j Pl.Ln.zero) = true) := hall
    have HO : Hid (wr.ownsRow w.heap.size 5 1 _ (bd (xs.take k)).length (Pl.bcl (bd (xs.take k)))) := hown
    have HB : Hid (Below w.heap.size w wr) := hbel
    have hlen : (bd (xs.take k)).length ≤ 403 * k := bd_len xs k (by rw [HL.out]; exact hk) hall
    clear hall hown hbel
    by_cases hlt : k < len
    · have hi' : (k : Int) < (len : Int) := by omega
      obtain ⟨b, off, rfl, hlo, hb1, hcell⟩ : ∃ b off, a = some ⟨b, off, none⟩ ∧ lo ≤ b ∧ b < w.heap.size ∧ ∀ i, i < len → ∀ j, j < 8 → w.cell? ⟨b, off + i * 8 + j, none⟩ = (xs.getD i Pl.Ln.zero).cells[j]? := by
        rcases H4.out with h | h
        · omega
        · exact h
      obtain ⟨x, hx⟩ : ∃ x, x = xs.getD k Pl.Ln.zero := ⟨_, rfl⟩
      have ch : ∀ j, j < 8 → wr.cell? ⟨b, off + k * 8 + j, none⟩ = x.cells[j]? := fun j hj => by rw [hx]; exact (HB.out.cell (p := ⟨b, off + k * 8 + j, none⟩) hb1).trans (hcell k hlt j hj)
      have c0 : wr.cell? ⟨b, off + k * 8, none⟩ = some (.int .i64 x.k) := ch 0 (by decide)
      have c1 : wr.cell? ⟨b, off + k * 8 + 1, none⟩ = some (.int .i64 x.op) := ch 1 (by decide)
      have c2 : wr.cell? ⟨b, off + k * 8 + 2, none⟩ = some (.int .i64 x.rd) := ch 2 (by decide)
      have c3 : wr.cell? ⟨b, off + k * 8 + 3, none⟩ = some (.int .i64 x.r1) := ch 3 (by decide)
      have c4 : wr.cell? ⟨b, off + k * 8 + 4, none⟩ = some (.int .i64 x.r2) := ch 4 (by decide)
      have c5 : wr.cell? ⟨b, off + k * 8 + 5, none⟩ = some (.int .i64 x.im) := ch 5 (by decide)
      have c6 : wr.cell? ⟨b, off + k * 8 + 6, none⟩ = some (.string x.s) := ch 6 (by decide)
      have c7 : wr.cell? ⟨b, off + k * 8 + 7, none⟩ = some (.int .i64 x.n) := ch 7 (by decide)
      have HX : Hid (x = xs.getD k Pl.Ln.zero) := hx
      have HC : Hid (∀ j, j < 8 → w.cell? ⟨b, off + k * 8 + j, none⟩ = x.cells[j]?) := fun j hj => by rw [hx]; exact hcell k hlt j hj
      clear ch hcell hx
      have hU := Tryd.underlying46
      cases hok : lok x
      · go_wp2_with (go_at_call 19; refine (lok_spec x _).mono ?_; rintro e u1 ⟨rfl, d1⟩; rw [hok])
        go_ret2
        exact AnsIs.no (ans_bad (k := k) (by rw [HL.out]; exact hlt) (by rw [← HX.out]; exact hok)) rfl (lit0_at u1 (Nat.le_trans HB.out.size d1.size)) ((HB.out.trans (d1.mono HB.out.size)).alloc (Nat.le_trans HB.out.size d1.size) _)
      · have HT : Hid (Both x (ltx x)) := ltx_both x hok
        have hts := (ltx_both x hok).1
        by_cases hk1 : x.k = 1
        · have ek : (x.k != 1) = false := by simpa using hk1
          have HK : Hid (x.k = 1) := hk1
          clear hk1
          go_wp2_with (first | (go_at_call 19; refine (lok_spec x _).mono ?_; rintro e u1 ⟨rfl, d1⟩; rw [hok]; have D1 : Hid (Below w.heap.size w u1) := HB.out.trans (d1.mono HB.out.size); have O1 : Hid (u1.ownsRow w.heap.size 5 1 _ (bd (xs.take k)).length (Pl.bcl (bd (xs.take k)))) := ow_keep' HO.out d1; clear d1 c0 c1 c2 c3 c4 c5 c6 c7; obtain ⟨c0, c1, c2, c3, c4, c5, c6, c7⟩ := ln_cells D1.out hb1 HC.out) | (go_at_call 20; refine (HT.out.2.1 _).mono ?_; rintro e u4 ⟨rfl, d4⟩; have D4 : Hid (Below w.heap.size w u4) := D1.out.trans (d4.mono D1.out.size); have O4 : Hid (u4.ownsRow w.heap.size 5 1 _ _ (Pl.bcl (bd (xs.take k)))) := ow_keep' O1.out d4; clear d4 c0 c1 c2 c3 c4 c5 c6 c7) | (at_builtin; refine wpList_append_own _ rfl (.tmp 33) (.tmp 39) 26 rfl w.heap.size 5 i0 (.int .u8 0) 1 1 Tryd.underlying26 hi hz0 hz1 hz2 rfl (by decide) _ _ _ rfl (ow_keep' O4.out (Joins.below_bytesWorld _ _ 5 (ltx x) (Nat.le_refl _))) ⟨u4.heap.size, 0, none⟩ (ltx x).size _ (Pl.bcl (ltx x).data.toList) (by rfl) (by rw [Pl.bcl_len, Nat.mul_one]; rfl) (bbw_cells u4 (ltx x)) (Pl.bcl_one _) (by unfold maxLen; omega) (by omega) (Nat.le_trans D4.out.size (by rw [Lib.bytesWorld_size]; omega)) ?_; intro v5 u5 hown5 hgr5 _; rw [← Pl.bcl_app] at hown5; have D5 : Hid (Below w.heap.size w u5) := (D4.out.trans ((Joins.below_bytesWorld _ u4 5 (ltx x) (Nat.le_refl _)).mono D4.out.size)).grown hgr5 (Nat.le_trans D4.out.size (by rw [Lib.bytesWorld_size]; omega)) (fun j hj => (O4.out.lt j hj).1); have O5 : Hid (u5.ownsRow w.heap.size 5 1 v5 _ (Pl.bcl ((bd (xs.take k)) ++ (ltx x).data.toList))) := hown5; clear hown5 hgr5) | (at_builtin; refine wpList_append_own _ rfl (.tmp 40) (.tmp 41) 26 rfl w.heap.size 5 i0 (.int .u8 0) 1 1 Tryd.underlying26 hi hz0 hz1 hz2 rfl (by decide) _ _ _ rfl (O5.out.alloc _) ⟨u5.heap.size, 0, none⟩ 1 _ (Pl.bcl [10]) rfl rfl (lit_cells u5 [10] _ rfl) (Pl.bcl_one _) (by unfold maxLen; omega) (by omega) (Nat.le_trans D5.out.size (by simp)) ?_; intro v6 u6 hown6 hgr6 _; rw [← Pl.bcl_app] at hown6; have D6 : Hid (Below w.heap.size w u6) := (D5.out.trans ((below_alloc2 u5 _).mono D5.out.size)).grown hgr6 (Nat.le_trans D5.out.size (by simp)) (fun j hj => (O5.out.lt j hj).1)))
          refine ⟨⟨k + 1, by omega, by go_num, ?_, ?_, D6.out⟩, by simp [intOf]; omega⟩
          · intro j hj
            by_cases e : j = k
            · subst e; rw [← HX.out]; exact hok
            · exact HA.out j (by omega)
          · rw [bd_succ xs k (by rw [HL.out]; exact hlt), ← HX.out, rw_is HK.out]
            have el : (bd (xs.take k) ++ ((ltx x).data.toList ++ [10])).length = (bd (xs.take k)).length + (ltx x).size + 1 := by simp only [List.length_append, List.length_cons, List.length_nil, tl_len]; omega
            rw [el]
            simpa only [List.append_assoc] using hown6
        · have ek : (x.k != 1) = true := by simpa using hk1
          have HK : Hid (¬ x.k = 1) := hk1
          clear hk1
          go_wp2_with (first | (go_at_call 19; refine (lok_spec x _).mono ?_; rintro e u1 ⟨rfl, d1⟩; rw [hok]; have D1 : Hid (Below w.heap.size w u1) := HB.out.trans (d1.mono HB.out.size); have O1 : Hid (u1.ownsRow w.heap.size 5 1 _ (bd (xs.take k)).length (Pl.bcl (bd (xs.take k)))) := ow_keep' HO.out d1; clear d1 c0 c1 c2 c3 c4 c5 c6 c7; obtain ⟨c0, c1, c2, c3, c4, c5, c6, c7⟩ := ln_cells D1.out hb1 HC.out) | (at_builtin; refine wpList_append_own _ rfl (.tmp 30) (.tmp 31) 26 rfl w.heap.size 5 i0 (.int .u8 0) 1 1 Tryd.underlying26 hi hz0 hz1 hz2 rfl (by decide) _ _ _ rfl (O1.out.alloc _) ⟨u1.heap.size, 0, none⟩ 2 _ (Pl.bcl [32, 32]) rfl rfl (lit_cells u1 [32, 32] _ rfl) (Pl.bcl_one _) (by unfold maxLen; omega) (by omega) (Nat.le_trans D1.out.size (by simp)) ?_; intro v2 u2 hown2 hgr2 _; rw [← Pl.bcl_app] at hown2; have D2 : Hid (Below w.heap.size w u2) := (D1.out.trans ((below_alloc2 u1 _).mono D1.out.size)).grown hgr2 (Nat.le_trans D1.out.size (by simp)) (fun j hj => (O1.out.lt j hj).1); have O2 : Hid (u2.ownsRow w.heap.size 5 1 v2 _ (Pl.bcl (bd (xs.take k) ++ [32, 32]))) := hown2; clear hown2 hgr2 c0 c1 c2 c3 c4 c5 c6 c7; obtain ⟨c0, c1, c2, c3, c4, c5, c6, c7⟩ := ln_cells D2.out hb1 HC.out) | (go_at_call 20; refine (HT.out.2.1 _).mono ?_; rintro e u4 ⟨rfl, d4⟩; have D4 : Hid (Below w.heap.size w u4) := D2.out.trans (d4.mono D2.out.size); have O4 : Hid (u4.ownsRow w.heap.size 5 1 _ _ (Pl.bcl (bd (xs.take k) ++ [32, 32]))) := ow_keep' O2.out d4; clear d4 c0 c1 c2 c3 c4 c5 c6 c7) | (at_builtin; refine wpList_append_own _ rfl (.tmp 33) (.tmp 39) 26 rfl w.heap.size 5 i0 (.int .u8 0) 1 1 Tryd.underlying26 hi hz0 hz1 hz2 rfl (by decide) _ _ _ rfl (ow_keep' O4.out (Joins.below_bytesWorld _ _ 5 (ltx x) (Nat.le_refl _))) ⟨u4.heap.size, 0, none⟩ (ltx x).size _ (Pl.bcl (ltx x).data.toList) (by rfl) (by rw [Pl.bcl_len, Nat.mul_one]; rfl) (bbw_cells u4 (ltx x)) (Pl.bcl_one _) (by unfold maxLen; omega) (by omega) (Nat.le_trans D4.out.size (by rw [Lib.bytesWorld_size]; omega)) ?_; intro v5 u5 hown5 hgr5 _; rw [← Pl.bcl_app] at hown5; have D5 : Hid (Below w.heap.size w u5) := (D4.out.trans ((Joins.below_bytesWorld _ u4 5 (ltx x) (Nat.le_refl _)).mono D4.out.size)).grown hgr5 (Nat.le_trans D4.out.size (by rw [Lib.bytesWorld_size]; omega)) (fun j hj => (O4.out.lt j hj).1); have O5 : Hid (u5.ownsRow w.heap.size 5 1 v5 _ (Pl.bcl ((bd (xs.take k) ++ [32, 32]) ++ (ltx x).data.toList))) := hown5; clear hown5 hgr5) | (at_builtin; refine wpList_append_own _ rfl (.tmp 40) (.tmp 41) 26 rfl w.heap.size 5 i0 (.int .u8 0) 1 1 Tryd.underlying26 hi hz0 hz1 hz2 rfl (by decide) _ _ _ rfl (O5.out.alloc _) ⟨u5.heap.size, 0, none⟩ 1 _ (Pl.bcl [10]) rfl rfl (lit_cells u5 [10] _ rfl) (Pl.bcl_one _) (by unfold maxLen; omega) (by omega) (Nat.le_trans D5.out.size (by simp)) ?_; intro v6 u6 hown6 hgr6 _; rw [← Pl.bcl_app] at hown6; have D6 : Hid (Below w.heap.size w u6) := (D5.out.trans ((below_alloc2 u5 _).mono D5.out.size)).grown hgr6 (Nat.le_trans D5.out.size (by simp)) (fun j hj => (O5.out.lt j hj).1)))
          refine ⟨⟨k + 1, by omega, by go_num, ?_, ?_, D6.out⟩, by simp [intOf]; omega⟩
          · intro j hj
            by_cases e : j = k
            · subst e; rw [← HX.out]; exact hok
            · exact HA.out j (by omega)
          · rw [bd_succ xs k (by rw [HL.out]; exact hlt), ← HX.out, rw_no HK.out]
            have el : (bd (xs.take k) ++ ([32, 32] ++ (ltx x).data.toList ++ [10])).length = (bd (xs.take k)).length + 2 + (ltx x).size + 1 := by simp only [List.length_append, List.length_cons, List.length_nil, tl_len]; omega
            rw [el]
            simpa only [List.append_assoc] using hown6
    · have hi' : ¬ (k : Int) < (len : Int) := by omega
      obtain rfl : len = k := by omega
      have ht : xs.take len = xs := List.take_of_length_le (by rw [HL.out]; exact Nat.le_refl _)
      have H1 : Hid (xs.length ≤ 20000) := by show xs.length ≤ 20000; rw [HL.out]; omega
      have H2 : Hid (∀ j, j < xs.length → lok (xs.getD j Pl.Ln.zero) = true) := fun j hj => HA.out j (by rw [← HL.out]; exact hj)
      rw [ht] at HO hlen
      clear ht
      obtain ⟨N, hN⟩ : ∃ N, N = (bd xs).length := ⟨_, rfl⟩
      rw [← hN] at HO hlen
      have HN : Hid (N = (bd xs).length) := hN
      clear hN
      rcases Joins.ownsRow_forms HO.out with ⟨rfl, hN0⟩ | ⟨g, vcap, rfl⟩
      · subst hN0
        go_wp2
        go_ret2
        exact AnsIs.yes (ans_yes H1.out H2.out (by rw [← HN.out]; decide)) HN.out rfl HO.out HB.out
      · by_cases hbg : 400000 < N
        · have hbi : (400000 : Int) < (N : Int) := by omega
          go_wp2
          go_ret2
          exact AnsIs.no (ans_big (by rw [← HN.out]; exact hbg)) rfl (lit0_at wr HB.out.size) (HB.out.alloc HB.out.size _)
        · have hbi : ¬ (400000 : Int) < (N : Int) := by omega
          go_wp2
          go_ret2
          exact AnsIs.yes (ans_yes H1.out H2.out (by rw [← HN.out]; omega)) HN.out rfl HO.out HB.out
end Go.Proofs.YtgpmplcamdophaaDoor.W
namespace Go.Proofs.YtgpmplcamdophaaDoor.W
open Go.RowKit
theorem rw_pos (x : Pl.Ln) : 1 ≤ (rw' x).length := by
  by_cases h : x.k = 1
  · rw [rw_is h]; simp
  · rw [rw_no h]; simp
theorem str_bcl (s : ByteArray) : Lib.strCells s = Pl.bcl s.data.toList := rfl
set_option maxRecDepth 8000 in
set_option maxHeartbeats 4000000 in
theorem implPrint_any {lo : Nat} (a : Option Addr) (len cap : Nat) (xs : List Pl.Ln) (w : World) (h : LRow lo w a len cap xs) (hA : AsmLies w) : Calls Tryd.prog 10 #[.slice a len cap] w fun e w' => AnsIs w w' e xs := by
  obtain ⟨i0, hi, hz0, hz1, hz2⟩ := info_parts binfou8
  have HP : Hid (AsmLies w) := hA
  obtain ⟨h1, h2, h3, h4⟩ := h
  have hm : (len : Int) ≤ 9223372036854775807 := by unfold maxLen at h3; omega
  have HL : Hid (xs.length = len) := h1.1
  have H4 : Hid (len = 0 ∨ ∃ b off, a = some ⟨b, off, none⟩ ∧ lo ≤ b ∧ b < w.heap.size ∧ ∀ i, i < len → ∀ j, j < 8 → w.cell? ⟨b, off + i * 8 + j, none⟩ = (xs.getD i Pl.Ln.zero).cells[j]?) := h4
  clear h4 h1 hA
  by_cases hbig : 20000 < len
  · have hb' : (20000 : Int) < (len : Int) := by omega
    go_enter Tryd.func10, Tryd.ntmps10
    go_wp2
    go_ret2
    exact AnsIs.no (ans_long (by rw [HL.out]; exact hbig)) rfl (World.ownsRow_nil _ _ _ _) (Below.refl _ _)
  have hb' : ¬ (20000 : Int) < (len : Int) := by omega
  go_enter Tryd.func10, Tryd.ntmps10
  go_wp2_with fail
  go_loopw [4, 13] (fun v i wr => ∃ k : Nat, k ≤ len ∧ i = .int .i64 k ∧ (∀ j, j < k → lok (xs.getD j Pl.Ln.zero) = true) ∧ (bd (xs.take k)).length ≤ 400000 ∧ wr.ownsRow w.heap.size 5 1 v (bd (xs.take k)).length (Pl.bcl (bd (xs.take k))) ∧ Below w.heap.size w wr) (fun _ i _ => len - (intOf i).toNat)
  case atStart => exact ⟨0, Nat.zero_le _, rfl, fun j hj => absurd hj (Nat.not_lt_zero j), Nat.zero_le _, lit0 w, below_alloc2 w _⟩
  case round =>
    obtain ⟨k, hk, rfl, hall, hlen, hown, hbel⟩ := hrel
    have HA : Hid (∀ j, j < k → lok (xs.getD j Pl.Ln.zero) = true) := hall
    have HO : Hid (wr.ownsRow w.heap.size 5 1 _ (bd (xs.take k)).length (Pl.bcl (bd (xs.take k)))) := hown
    have HB : Hid (Below w.heap.size w wr) := hbel
    clear hall hown hbel
    by_cases hlt : k < len
    · have hi' : (k : Int) < (len : Int) := by omega
      obtain ⟨b, off, rfl, hlo, hb1, hcell⟩ : ∃ b off, a = some ⟨b, off, none⟩ ∧ lo ≤ b ∧ b < w.heap.size ∧ ∀ i, i < len → ∀ j, j < 8 → w.cell? ⟨b, off + i * 8 + j, none⟩ = (xs.getD i Pl.Ln.zero).cells[j]? := by
        rcases H4.out with h | h
        · omega
        · exact h
      obtain ⟨x, hx⟩ : ∃ x, x = xs.getD k Pl.Ln.zero := ⟨_, rfl⟩
      have ch : ∀ j, j < 8 → wr.cell? ⟨b, off + k * 8 + j, none⟩ = x.cells[j]? := fun j hj => by rw [hx]; exact (HB.out.cell (p := ⟨b, off + k * 8 + j, none⟩) hb1).trans (hcell k hlt j hj)
      have c0 : wr.cell? ⟨b, off + k * 8, none⟩ = some (.int .i64 x.k) := ch 0 (by decide)
      have c1 : wr.cell? ⟨b, off + k * 8 + 1, none⟩ = some (.int .i64 x.op) := ch 1 (by decide)
      have c2 : wr.cell? ⟨b, off + k * 8 + 2, none⟩ = some (.int .i64 x.rd) := ch 2 (by decide)
      have c3 : wr.cell? ⟨b, off + k * 8 + 3, none⟩ = some (.int .i64 x.r1) := ch 3 (by decide)
      have c4 : wr.cell? ⟨b, off + k * 8 + 4, none⟩ = some (.int .i64 x.r2) := ch 4 (by decide)
      have c5 : wr.cell? ⟨b, off + k * 8 + 5, none⟩ = some (.int .i64 x.im) := ch 5 (by decide)
      have c6 : wr.cell? ⟨b, off + k * 8 + 6, none⟩ = some (.string x.s) := ch 6 (by decide)
      have c7 : wr.cell? ⟨b, off + k * 8 + 7, none⟩ = some (.int .i64 x.n) := ch 7 (by decide)
      have HX : Hid (x = xs.getD k Pl.Ln.zero) := hx
      have HC : Hid (∀ j, j < 8 → w.cell? ⟨b, off + k * 8 + j, none⟩ = x.cells[j]?) := fun j hj => by rw [hx]; exact hcell k hlt j hj
      clear ch hcell hx
      have hU := Tryd.underlying46
      cases hok : lok x
      · go_wp2_with (go_at_call 22; refine (lok_impl x _).mono ?_; rintro e u1 ⟨rfl, d1⟩; rw [hok])
        go_ret2
        exact AnsIs.no (ans_bad (k := k) (by rw [HL.out]; exact hlt) (by rw [← HX.out]; exact hok)) rfl (World.ownsRow_nil _ _ _ _) (HB.out.trans ((below_then d1 (below_alloc2 wr _)).mono HB.out.size))
      · have HT : Hid (Both x (ltx x)) := ltx_both x hok
        have hrl := rw_len x hok
        have hrs : (Pl.rowT x.k (ltx x)).size = (rw' x).length := (tl_len _).symm
        have E1 : Hid (bd (xs.take (k + 1)) = bd (xs.take k) ++ (Pl.rowT x.k (ltx x)).data.toList) := by
          show _ = _
          rw [bd_succ xs k (by rw [HL.out]; exact hlt), ← HX.out]
          rfl
        have HM : Hid ((bd (xs.take (k + 1))).length ≤ (bd xs).length) := bd_mono xs (k + 1) (by rw [HL.out]; omega)
        generalize hR : Pl.rowT x.k (ltx x) = R at *
        have HR : Hid (Pl.rowT x.k (ltx x) = R) := hR
        clear hR
        have hLt : ∀ u : World, AsmLies u → Calls Tryd.prog 23 #[.agg #[.int .i64 x.k, .int .i64 x.op, .int .i64 x.rd, .int .i64 x.r1, .int .i64 x.r2, .int .i64 x.im, .string x.s, .int .i64 x.n]] u fun e w' => e = .returned (.string R) ∧ Below u.heap.size u w' := fun u hu => by rw [← HR.out]; exact HT.out.2.2 u hu
        have HLt : Hid (∀ u : World, AsmLies u → Calls Tryd.prog 23 #[.agg #[.int .i64 x.k, .int .i64 x.op, .int .i64 x.rd, .int .i64 x.r1, .int .i64 x.r2, .int .i64 x.im, .string x.s, .int .i64 x.n]] u fun e w' => e = .returned (.string R) ∧ Below u.heap.size u w') := hLt
        clear hLt
        have hp1 := rw_pos x
        have HAll : Hid (∀ j, j < k + 1 → lok (xs.getD j Pl.Ln.zero) = true) := by
          intro j hj
          by_cases e : j = k
          · subst e; rw [← HX.out]; exact hok
          · exact HA.out j (by omega)
        obtain ⟨N, hN⟩ : ∃ N, N = (bd (xs.take k)).length + R.size := ⟨_, rfl⟩
        have EL : Hid ((bd (xs.take (k + 1))).length = N) := by
          show _ = _
          rw [E1.out, List.length_append, tl_len, hN]
        have hNs : N ≤ 400403 := by omega
        have hpos : 0 < N := by omega
        have HNN : Hid (N = (bd (xs.take k)).length + R.size) := hN
        clear hN
        by_cases hbg : 400000 < N
        · have hbi : (400000 : Int) < (N : Int) := by omega
          go_wp2_with (first | (go_at_call 22; refine (lok_impl x _).mono ?_; rintro e u1 ⟨rfl, d1⟩; rw [hok]; have D1 : Hid (Below wr.heap.size wr u1) := below_then d1 (below_alloc2 wr _); have R1 : Hid (u1.heap[wr.heap.size]? = some (.cells #[.int .i64 x.k, .int .i64 x.op, .int .i64 x.rd, .int .i64 x.r1, .int .i64 x.r2, .int .i64 x.im, .string x.s, .int .i64 x.n] 46)) := keep_row d1 (heap_alloc_new wr _); clear d1; have k0 : u1.cell? ⟨wr.heap.size, 0, none⟩ = some (.int .i64 x.k) := cell_of_row u1 wr.heap.size 0 _ 46 (0, 0) R1.out; have k1 : u1.cell? ⟨wr.heap.size, 1, none⟩ = some (.int .i64 x.op) := cell_of_row u1 wr.heap.size 1 _ 46 (0, 0) R1.out; have k2 : u1.cell? ⟨wr.heap.size, 2, none⟩ = some (.int .i64 x.rd) := cell_of_row u1 wr.heap.size 2 _ 46 (0, 0) R1.out; have k3 : u1.cell? ⟨wr.heap.size, 3, none⟩ = some (.int .i64 x.r1) := cell_of_row u1 wr.heap.size 3 _ 46 (0, 0) R1.out; have k4 : u1.cell? ⟨wr.heap.size, 4, none⟩ = some (.int .i64 x.r2) := cell_of_row u1 wr.heap.size 4 _ 46 (0, 0) R1.out; have k5 : u1.cell? ⟨wr.heap.size, 5, none⟩ = some (.int .i64 x.im) := cell_of_row u1 wr.heap.size 5 _ 46 (0, 0) R1.out; have k6 : u1.cell? ⟨wr.heap.size, 6, none⟩ = some (.string x.s) := cell_of_row u1 wr.heap.size 6 _ 46 (0, 0) R1.out; have k7 : u1.cell? ⟨wr.heap.size, 7, none⟩ = some (.int .i64 x.n) := cell_of_row u1 wr.heap.size 7 _ 46 (0, 0) R1.out) | (go_at_call 23; refine (HLt.out _ (HP.out.below (HB.out.trans (D1.out.mono HB.out.size)))).mono ?_; rintro e u2 ⟨rfl, d2⟩; have D2 : Hid (Below wr.heap.size wr u2) := below_then d2 D1.out; clear d2) | (at_builtin; refine Lib.wpList_append_own_string _ rfl (.tmp 20) (.tmp 22) 26 9 rfl w.heap.size 5 i0 Tryd.underlying26 Tryd.underlying9 hi hz0 hz1 hz2 _ _ _ rfl (ow_keep' HO.out D2.out) _ rfl (by unfold maxLen; omega) (by omega) (Nat.le_trans HB.out.size D2.out.size) ?_; intro v3 u3 hown3 hgr3 _; rw [str_bcl, ← Pl.bcl_app] at hown3; have D3 : Hid (Below w.heap.size w u3) := (HB.out.trans (D2.out.mono HB.out.size)).grown hgr3 (Nat.le_trans HB.out.size D2.out.size) (fun j hj => (HO.out.lt j hj).1); have O3 : Hid (u3.ownsRow w.heap.size 5 1 v3 N (Pl.bcl (bd (xs.take k) ++ R.data.toList))) := (by rw [HNN.out]; exact hown3 : u3.ownsRow w.heap.size 5 1 v3 N (Pl.bcl (bd (xs.take k) ++ R.data.toList))); clear hown3 hgr3; obtain ⟨g, vcap, rfl⟩ := Joins.ownsRow_form O3.out hpos))
          go_ret2
          exact AnsIs.no (ans_big (Nat.lt_of_lt_of_le (by rw [EL.out]; exact hbg) HM.out)) rfl (World.ownsRow_nil _ _ _ _) D3.out
        · have hbi : ¬ (400000 : Int) < (N : Int) := by omega
          go_wp2_with (first | (go_at_call 22; refine (lok_impl x _).mono ?_; rintro e u1 ⟨rfl, d1⟩; rw [hok]; have D1 : Hid (Below wr.heap.size wr u1) := below_then d1 (below_alloc2 wr _); have R1 : Hid (u1.heap[wr.heap.size]? = some (.cells #[.int .i64 x.k, .int .i64 x.op, .int .i64 x.rd, .int .i64 x.r1, .int .i64 x.r2, .int .i64 x.im, .string x.s, .int .i64 x.n] 46)) := keep_row d1 (heap_alloc_new wr _); clear d1; have k0 : u1.cell? ⟨wr.heap.size, 0, none⟩ = some (.int .i64 x.k) := cell_of_row u1 wr.heap.size 0 _ 46 (0, 0) R1.out; have k1 : u1.cell? ⟨wr.heap.size, 1, none⟩ = some (.int .i64 x.op) := cell_of_row u1 wr.heap.size 1 _ 46 (0, 0) R1.out; have k2 : u1.cell? ⟨wr.heap.size, 2, none⟩ = some (.int .i64 x.rd) := cell_of_row u1 wr.heap.size 2 _ 46 (0, 0) R1.out; have k3 : u1.cell? ⟨wr.heap.size, 3, none⟩ = some (.int .i64 x.r1) := cell_of_row u1 wr.heap.size 3 _ 46 (0, 0) R1.out; have k4 : u1.cell? ⟨wr.heap.size, 4, none⟩ = some (.int .i64 x.r2) := cell_of_row u1 wr.heap.size 4 _ 46 (0, 0) R1.out; have k5 : u1.cell? ⟨wr.heap.size, 5, none⟩ = some (.int .i64 x.im) := cell_of_row u1 wr.heap.size 5 _ 46 (0, 0) R1.out; have k6 : u1.cell? ⟨wr.heap.size, 6, none⟩ = some (.string x.s) := cell_of_row u1 wr.heap.size 6 _ 46 (0, 0) R1.out; have k7 : u1.cell? ⟨wr.heap.size, 7, none⟩ = some (.int .i64 x.n) := cell_of_row u1 wr.heap.size 7 _ 46 (0, 0) R1.out) | (go_at_call 23; refine (HLt.out _ (HP.out.below (HB.out.trans (D1.out.mono HB.out.size)))).mono ?_; rintro e u2 ⟨rfl, d2⟩; have D2 : Hid (Below wr.heap.size wr u2) := below_then d2 D1.out; clear d2) | (at_builtin; refine Lib.wpList_append_own_string _ rfl (.tmp 20) (.tmp 22) 26 9 rfl w.heap.size 5 i0 Tryd.underlying26 Tryd.underlying9 hi hz0 hz1 hz2 _ _ _ rfl (ow_keep' HO.out D2.out) _ rfl (by unfold maxLen; omega) (by omega) (Nat.le_trans HB.out.size D2.out.size) ?_; intro v3 u3 hown3 hgr3 _; rw [str_bcl, ← Pl.bcl_app] at hown3; have D3 : Hid (Below w.heap.size w u3) := (HB.out.trans (D2.out.mono HB.out.size)).grown hgr3 (Nat.le_trans HB.out.size D2.out.size) (fun j hj => (HO.out.lt j hj).1); have O3 : Hid (u3.ownsRow w.heap.size 5 1 v3 N (Pl.bcl (bd (xs.take k) ++ R.data.toList))) := (by rw [HNN.out]; exact hown3 : u3.ownsRow w.heap.size 5 1 v3 N (Pl.bcl (bd (xs.take k) ++ R.data.toList))); clear hown3 hgr3; obtain ⟨g, vcap, rfl⟩ := Joins.ownsRow_form O3.out hpos))
          refine ⟨⟨k + 1, by omega, by go_num, HAll.out, by rw [EL.out]; omega, ?_, D3.out⟩, by simp [intOf]; omega⟩
          rw [EL.out, E1.out]; exact O3.out
    · have hi' : ¬ (k : Int) < (len : Int) := by omega
      obtain rfl : len = k := by omega
      have ht : xs.take len = xs := List.take_of_length_le (by rw [HL.out]; exact Nat.le_refl _)
      have H1 : Hid (xs.length ≤ 20000) := by show xs.length ≤ 20000; rw [HL.out]; omega
      have H2 : Hid (∀ j, j < xs.length → lok (xs.getD j Pl.Ln.zero) = true) := fun j hj => HA.out j (by rw [← HL.out]; exact hj)
      rw [ht] at HO hlen
      clear ht
      have H3 : Hid ((bd xs).length ≤ 400000) := hlen
      obtain ⟨N, hN⟩ : ∃ N, N = (bd xs).length := ⟨_, rfl⟩
      rw [← hN] at HO hlen
      have HN : Hid (N = (bd xs).length) := hN
      clear hN
      rcases Joins.ownsRow_forms HO.out with ⟨rfl, hN0⟩ | ⟨g, vcap, rfl⟩
      · subst hN0
        go_wp2
        go_ret2
        exact AnsIs.yes (ans_yes H1.out H2.out H3.out) HN.out rfl HO.out HB.out
      · go_wp2
        go_ret2
        exact AnsIs.yes (ans_yes H1.out H2.out H3.out) HN.out rfl HO.out HB.out
end Go.Proofs.YtgpmplcamdophaaDoor.W
