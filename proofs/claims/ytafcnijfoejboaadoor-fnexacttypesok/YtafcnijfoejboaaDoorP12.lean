import Derived.Test.YtafcnijfoejboaaDoorP11
import Derived.Deep.AppendLies
set_option linter.unusedVariables false
set_option linter.unusedSimpArgs false
namespace Go.Proofs.YtafcnijfoejboaaDoor.W
open Go.RowKit
theorem int_new1 (w : World) (A : Value) (j : Nat) (u : Value) (hj : [A][j]? = some u) : (w.alloc (.cells #[A] 3)).cell? ((⟨w.heap.size, 0, none⟩ : Addr).add j) = some u := by
  rcases j with _ | j
  · cases hj
    exact cell_of_row _ w.heap.size 0 _ 3 (0, 0) (heap_alloc_new w _)
  · simp at hj
theorem results_c4 {P : Program} {fn : Func} {p : Tmp} {ty : TypeId} (h : fn.results = #[.cell p ty]) (tmps : Array Value) (w : World) (g : Nat) (t : TypeId) (cs : Array Value) (fr : Nat × Nat) (d : TypeDesc)
    (hp : tmps.getD p undef = .pointer (some ⟨g, 0, none⟩)) (hg : w.heap[g]? = some (.cells cs t fr))
    (hu : P.underlying ty = some d) (hd : (match d with | .struct _ | .array _ _ => true | _ => false) = true) (hi : (P.info? ty).map (·.size) = some cs.size) :
    (results fn tmps).run P w = .ok (.agg cs) w := by
  have hp' : tmps[p]?.getD undef = .pointer (some ⟨g, 0, none⟩) := by simpa using hp
  simp [results, h, hp', asAddr, run_loadVar_row w g t ty cs fr d hg hu hd hi]
set_option maxHeartbeats 8000000 in
set_option maxRecDepth 8000 in
theorem l7Fields_any {lo lb len : Nat} (kk nn : Int) (v s : SV) (zs : List Int) (L : List Pl.La) (w : World) (hrow : Row .i64 lo w v.a v.len v.cap zs) (hL : LaRow w lb len L) (hlen : len ≤ 2000) (hzl : zs.length ≤ 100) (hz : ∀ p, p < zs.length → 0 ≤ zs.getD p 0 ∧ zs.getD p 0 < len)
    (hok : ∀ p, p < zs.length → (L.getD (zs.getD p 0).toNat Pl.La.zero).whole = true ∧ Pl.nb ((L.getD (zs.getD p 0).toNat Pl.La.zero).size, (L.getD (zs.getD p 0).toNat Pl.La.zero).align)) :
    Calls Tryd.prog 23 #[.agg #[.int .i64 kk, .int .i64 nn, .slice v.a v.len v.cap, .slice s.a s.len s.cap], .slice (some ⟨lb, 0, none⟩) len len] w fun e w' => ∃ v' : SV, e = .returned (.agg #[.bool true, .int .i64 (Pl.flds kk (fun p => ((L.getD (zs.getD p 0).toNat Pl.La.zero).size, (L.getD (zs.getD p 0).toNat Pl.La.zero).align)) zs.length).1, .int .i64 (Pl.flds kk (fun p => ((L.getD (zs.getD p 0).toNat Pl.La.zero).size, (L.getD (zs.getD p 0).toNat Pl.La.zero).align)) zs.length).2, .slice v'.a v'.len v'.cap]) ∧ Below w.heap.size w w' := by
  obtain ⟨G, hG⟩ : ∃ G, G = fun p => ((L.getD (zs.getD p 0).toNat Pl.La.zero).size, (L.getD (zs.getD p 0).toNat Pl.La.zero).align) := ⟨_, rfl⟩
  rw [← hG]
  have HG : Hid (∀ p, G p = ((L.getD (zs.getD p 0).toNat Pl.La.zero).size, (L.getD (zs.getD p 0).toNat Pl.La.zero).align)) := fun p => by rw [hG]
  have HNB : Hid (∀ p, p < zs.length → Pl.nb (G p)) := fun p hp => by rw [hG]; exact (hok p hp).2
  have HW : Hid (∀ p, p < zs.length → (L.getD (zs.getD p 0).toNat Pl.La.zero).whole = true) := fun p hp => (hok p hp).1
  clear hG hok
  have hvl : (v.len : Int) ≤ 100 := by have := hrow.1; omega
  have HR : Hid (Row .i64 lo w v.a v.len v.cap zs) := hrow
  have HZ : Hid (∀ p, p < zs.length → 0 ≤ zs.getD p 0 ∧ zs.getD p 0 < len) := hz
  have HL : Hid (zs.length = v.len) := hrow.1
  have HA : Hid (LaRow w lb len L) := hL
  clear hrow hz hL hzl
  obtain ⟨va, vl, vc⟩ := v
  simp only at HR HL hvl ⊢
  obtain ⟨i0, hi0, hz0, hz1, hz2⟩ := info_parts Tryd.infoi64
  have HI : Hid (Tryd.prog.info? 3 = some i0 ∧ i0.zero = some (.int .i64 0) ∧ i0.size = 1 ∧ i0.bytes = 8) := ⟨hi0, hz0, hz1, hz2⟩
  clear hi0 hz0 hz1 hz2
  go_enter Tryd.func23, Tryd.ntmps23
  go_wp2_with fail
  go_loopw [6] (fun i wr => ∃ (k : Nat) (sz al : Int) (vv : Value), k ≤ vl ∧ i = .int .i64 k ∧ Hid (FSt w #[.int .i64 kk, .int .i64 nn, .slice va vl vc, .slice s.a s.len s.cap] sz al vv k wr) ∧ Hid ((sz, al) = Pl.fl kk G k)) (fun i _ => vl - (intOf i).toNat)
  case atStart =>
    exact ⟨0, 0, 1, .slice none 0 0, Nat.zero_le _, rfl, FSt.start w _, rfl⟩
  case round =>
    obtain ⟨k, sz, al, vv, hk, rfl, S0, HFL⟩ := hrel
    by_cases hlt : k < vl
    · have hi : (k : Int) < (vl : Int) := by omega
      have hkz : k < zs.length := by rw [HL.out]; exact hlt
      obtain ⟨b2, o2, rfl, _, hb2, hcp⟩ := (HR.out.2.2.2.2).resolve_left (by omega)
      have hcw := hcp k hlt
      obtain ⟨z, hzz⟩ : ∃ z, z = zs.getD k 0 := ⟨_, rfl⟩
      rw [← hzz] at hcw
      have hz0 : 0 ≤ z ∧ z < len := by rw [hzz]; exact HZ.out k hkz
      obtain ⟨j, rfl⟩ : ∃ j : Nat, z = j := ⟨z.toNat, by omega⟩
      have HJ : Hid (zs.getD k 0 = (j : Int)) := hzz.symm
      have hjl : (j : Int) < (len : Int) := by omega
      have hc : wr.cell? ⟨b2, o2 + k, none⟩ = some (.int .i64 (j : Int)) := (S0.out.b.cell (p := ⟨b2, o2 + k, none⟩) hb2).trans hcw
      obtain ⟨v2, q0, q1, q2, q3⟩ := (HA.out.keep S0.out.b).at (i := j) (by omega)
      have hwh : (L.getD j Pl.La.zero).whole = true := by have := HW.out k hkz; rw [hzz.symm, Int.toNat_natCast] at this; exact this
      have hnb : Pl.nb (G k) := HNB.out k hkz
      have hgk : G k = ((L.getD j Pl.La.zero).size, (L.getD j Pl.La.zero).align) := by rw [HG.out k, HJ.out, Int.toNat_natCast]
      obtain ⟨x, hx⟩ : ∃ x, x = L.getD j Pl.La.zero := ⟨_, rfl⟩
      rw [← hx] at q0 q1 q2 hwh hgk
      obtain ⟨fw, fsz, fal⟩ := x
      simp only at q0 q1 q2 hwh hgk
      subst hwh
      rw [hgk] at hnb
      obtain ⟨⟨nb1, nb2⟩, nb3, nb4⟩ := hnb
      simp only at nb1 nb2 nb3 nb4
      have HGK : Hid (G k = (fsz, fal)) := hgk
      have hfl : Pl.nb (sz, al) := by rw [HFL.out]; exact Pl.fl_nb k (fun p hp => HNB.out p (by omega))
      obtain ⟨⟨m1, m2⟩, m3, m4⟩ := hfl
      simp only at m1 m2 m3 m4
      have hlb : lb < w.heap.size := HA.out.2.1
      have C0 := S0.out.cells
      have t0 : wr.cell? ⟨w.heap.size, 2, none⟩ = some (.slice (some ⟨b2, o2, none⟩) vl vc) := C0.1 2
      have s0 : w.heap.size + 2 < wr.heap.size := S0.out.size
      have s1 : w.heap.size < wr.heap.size := by omega
      have s2 : b2 < wr.heap.size := by omega
      have s3 : lb < wr.heap.size := by omega
      clear hzz hcp hz0 hcw hx hgk C0
      by_cases hal : al < fal
      · by_cases h10 : kk = 10
        · obtain ⟨att, hat⟩ : ∃ att, Pl.capn (Pl.up sz fal) = att := ⟨_, rfl⟩
          have hat1 : 0 ≤ att ∧ att ≤ 60001 := by rw [← hat]; exact Pl.capn_bdd (Pl.up_bdd m1 ⟨nb3, nb4⟩).1
          obtain ⟨ha1, ha2⟩ := hat1
          obtain ⟨yy, hy⟩ : ∃ yy, Pl.capn (att + fsz) = yy := ⟨_, rfl⟩
          have HY : Hid (yy = Pl.capn (Pl.capn (Pl.up sz fal) + fsz)) := by rw [hat]; exact hy.symm
          subst h10
          have HS0 : Hid (FSt w #[.int .i64 10, .int .i64 nn, .slice (some ⟨b2, o2, none⟩) vl vc, .slice s.a s.len s.cap] sz al vv k wr) := S0
          have A0 := fun o => (S0.out.alloc o).cells
          have wt0 : ∀ o, (wr.alloc o).cell? ⟨w.heap.size, 0, none⟩ = some (.int .i64 10) := fun o => (A0 o).1 0
          have wl0 : ∀ o, (wr.alloc o).cell? ⟨w.heap.size, 2, none⟩ = some (.slice (some ⟨b2, o2, none⟩) vl vc) := fun o => (A0 o).1 2
          have wa0 : ∀ o, (wr.alloc o).cell? ⟨w.heap.size + 2, 1, none⟩ = some (.int .i64 sz) := fun o => (A0 o).2.1
          have wb0 : ∀ o, (wr.alloc o).cell? ⟨w.heap.size + 2, 2, none⟩ = some (.int .i64 al) := fun o => (A0 o).2.2.1
          have wc0 : ∀ o, (wr.alloc o).cell? ⟨w.heap.size + 2, 3, none⟩ = some vv := fun o => (A0 o).2.2.2.1
          have wd0 : ∀ o j, (wr.alloc o).frozen? ⟨w.heap.size + 2, j, none⟩ = false := fun o => (A0 o).2.2.2.2
          have wz0 : w.heap.size + 2 < wr.heap.size := S0.out.size
          have wy0 : w.heap.size < wr.heap.size := by omega
          clear A0
          obtain ⟨X1, hX1⟩ : ∃ X1, wr.setCell ⟨w.heap.size + 2, 2, none⟩ (.int .i64 fal) = X1 := ⟨_, rfl⟩
          have S1 : Hid (FSt w #[.int .i64 10, .int .i64 nn, .slice (some ⟨b2, o2, none⟩) vl vc, .slice s.a s.len s.cap] sz fal vv k X1) := by rw [← hX1]; exact S0.out.set 2 _ sz fal rfl
          have e1 : X1.heap.size = wr.heap.size := by rw [← hX1]; simp
          have A1 := fun o => (S1.out.alloc o).cells
          have wt1 : ∀ o, (X1.alloc o).cell? ⟨w.heap.size, 0, none⟩ = some (.int .i64 10) := fun o => (A1 o).1 0
          have wl1 : ∀ o, (X1.alloc o).cell? ⟨w.heap.size, 2, none⟩ = some (.slice (some ⟨b2, o2, none⟩) vl vc) := fun o => (A1 o).1 2
          have wa1 : ∀ o, (X1.alloc o).cell? ⟨w.heap.size + 2, 1, none⟩ = some (.int .i64 sz) := fun o => (A1 o).2.1
          have wb1 : ∀ o, (X1.alloc o).cell? ⟨w.heap.size + 2, 2, none⟩ = some (.int .i64 fal) := fun o => (A1 o).2.2.1
          have wc1 : ∀ o, (X1.alloc o).cell? ⟨w.heap.size + 2, 3, none⟩ = some vv := fun o => (A1 o).2.2.2.1
          have wd1 : ∀ o j, (X1.alloc o).frozen? ⟨w.heap.size + 2, j, none⟩ = false := fun o => (A1 o).2.2.2.2
          have wz1 : w.heap.size + 2 < X1.heap.size := S1.out.size
          have wy1 : w.heap.size < X1.heap.size := by omega
          clear A1
          obtain ⟨X2, hX2⟩ : ∃ X2, X1.setCell ⟨w.heap.size + 2, 1, none⟩ (.int .i64 yy) = X2 := ⟨_, rfl⟩
          have S2 : Hid (FSt w #[.int .i64 10, .int .i64 nn, .slice (some ⟨b2, o2, none⟩) vl vc, .slice s.a s.len s.cap] yy fal vv k X2) := by rw [← hX2]; exact S1.out.set 1 _ yy fal rfl
          have e2 : X2.heap.size = wr.heap.size := by rw [← hX2]; simp [e1]
          have A2 := fun o => (S2.out.alloc o).cells
          have wt2 : ∀ o, (X2.alloc o).cell? ⟨w.heap.size, 0, none⟩ = some (.int .i64 10) := fun o => (A2 o).1 0
          have wl2 : ∀ o, (X2.alloc o).cell? ⟨w.heap.size, 2, none⟩ = some (.slice (some ⟨b2, o2, none⟩) vl vc) := fun o => (A2 o).1 2
          have wa2 : ∀ o, (X2.alloc o).cell? ⟨w.heap.size + 2, 1, none⟩ = some (.int .i64 yy) := fun o => (A2 o).2.1
          have wb2 : ∀ o, (X2.alloc o).cell? ⟨w.heap.size + 2, 2, none⟩ = some (.int .i64 fal) := fun o => (A2 o).2.2.1
          have wc2 : ∀ o, (X2.alloc o).cell? ⟨w.heap.size + 2, 3, none⟩ = some vv := fun o => (A2 o).2.2.2.1
          have wd2 : ∀ o j, (X2.alloc o).frozen? ⟨w.heap.size + 2, j, none⟩ = false := fun o => (A2 o).2.2.2.2
          have wz2 : w.heap.size + 2 < X2.heap.size := S2.out.size
          have wy2 : w.heap.size < X2.heap.size := by omega
          clear A2
          have fX11 : (X1.alloc (.cells #[.bool true, .int .i64 fsz, .int .i64 fal, .slice v2.a v2.len v2.cap] 40)).cell? ⟨wr.heap.size, 1, none⟩ = some (.int .i64 fsz) := by rw [← e1]; exact cell_of_row _ _ 1 _ _ (0, 0) (heap_alloc_new X1 _)
          have fX12 : (X1.alloc (.cells #[.bool true, .int .i64 fsz, .int .i64 fal, .slice v2.a v2.len v2.cap] 40)).cell? ⟨wr.heap.size, 2, none⟩ = some (.int .i64 fal) := by rw [← e1]; exact cell_of_row _ _ 2 _ _ (0, 0) (heap_alloc_new X1 _)
          have fX21 : (X2.alloc (.cells #[.bool true, .int .i64 fsz, .int .i64 fal, .slice v2.a v2.len v2.cap] 40)).cell? ⟨wr.heap.size, 1, none⟩ = some (.int .i64 fsz) := by rw [← e2]; exact cell_of_row _ _ 1 _ _ (0, 0) (heap_alloc_new X2 _)
          have fX22 : (X2.alloc (.cells #[.bool true, .int .i64 fsz, .int .i64 fal, .slice v2.a v2.len v2.cap] 40)).cell? ⟨wr.heap.size, 2, none⟩ = some (.int .i64 fal) := by rw [← e2]; exact cell_of_row _ _ 2 _ _ (0, 0) (heap_alloc_new X2 _)
          obtain ⟨ys, hys0⟩ := S2.out.a
          have hys : Hid (X2.ownsRow (w.heap.size + 3) 3 1 vv k ys) := hys0
          clear hys0
          have newsX : ∀ j u, [Value.int .i64 att][j]? = some u → ((X2.alloc (.cells #[.bool true, .int .i64 fsz, .int .i64 fal, .slice v2.a v2.len v2.cap] 40)).alloc (.cells #[.int .i64 att] 3)).cell? ((⟨wr.heap.size + 1, 0, none⟩ : Addr).add j) = some u := fun j u hj => by
            have := int_new1 (X2.alloc (.cells #[.bool true, .int .i64 fsz, .int .i64 fal, .slice v2.a v2.len v2.cap] 40)) (.int .i64 att) j u hj
            have es : (X2.alloc (.cells #[.bool true, .int .i64 fsz, .int .i64 fal, .slice v2.a v2.len v2.cap] 40)).heap.size = wr.heap.size + 1 := by simp [e2]
            rw [es] at this
            exact this
          have NX : Hid _ := newsX
          clear newsX
          go_wp2_with (first | (go_at_call 36; refine (l7Up_any sz fal ⟨m1, m2⟩ ⟨nb3, nb4⟩ _).mono ?_; rintro e uu ⟨rfl, ek⟩; rw [ek]; clear ek) | (go_at_call 21; refine (l7Cap_any _ _).mono ?_; rintro e uu ⟨rfl, ek⟩; rw [ek]; clear ek; first | rw [hat] | rw [hy]) | (at_builtin; refine wpList_append_own _ rfl (.tmp 57) (.tmp 59) 30 rfl (w.heap.size + 3) 3 i0 (.int .i64 0) 1 8 Tryd.underlying30 HI.out.1 HI.out.2.1 HI.out.2.2.1 HI.out.2.2.2 rfl (by decide) vv k ys rfl ((hys.out.alloc _).alloc _) ⟨wr.heap.size + 1, 0, none⟩ 1 1 [.int .i64 att] rfl rfl ?n1 (by intro u hu; simp at hu; subst hu; rfl) (by unfold maxLen; omega) (by omega) (by simp; omega) ?_; (case n1 => exact NX.out); intro v6 w6 hown6 hgrow6 _; refine Hid.out ?_))
          have SY : FSt w #[.int .i64 10, .int .i64 nn, .slice (some ⟨b2, o2, none⟩) vl vc, .slice s.a s.len s.cap] yy fal vv k ((X2.alloc (.cells #[.bool true, .int .i64 fsz, .int .i64 fal, .slice v2.a v2.len v2.cap] 40)).alloc (.cells #[.int .i64 att] 3)) := (S2.out.alloc _).alloc _
          obtain ⟨g6, z6⟩ := SY.grown hgrow6
          have S7 : Hid (FSt w #[.int .i64 10, .int .i64 nn, .slice (some ⟨b2, o2, none⟩) vl vc, .slice s.a s.len s.cap] yy fal v6 (k + 1) (w6.setCell ⟨w.heap.size + 2, 3, none⟩ v6)) := SY.app hgrow6 hown6
          obtain ⟨g7, c7, rfl⟩ := own_slice hown6
          unfold Hid
          clear SY hown6 hgrow6 NX hys
          go_wp2_with fail
          go_roundw
          case rel =>
            refine ⟨k + 1, yy, fal, _, by omega, by go_num, S7.out, ?_⟩
            show _ = Pl.flStep 10 (Pl.fl 10 G k) (G k)
            rw [← HFL.out, HGK.out]
            unfold Pl.flStep
            simp only [if_pos, ← HY.out]
            rw [if_pos hal]
          case measure => simp [intOf]; omega
        · by_cases hsu : sz < fsz
          · have HS0 : Hid (FSt w #[.int .i64 kk, .int .i64 nn, .slice (some ⟨b2, o2, none⟩) vl vc, .slice s.a s.len s.cap] sz al vv k wr) := S0
            have A0 := fun o => (S0.out.alloc o).cells
            have wt0 : ∀ o, (wr.alloc o).cell? ⟨w.heap.size, 0, none⟩ = some (.int .i64 kk) := fun o => (A0 o).1 0
            have wl0 : ∀ o, (wr.alloc o).cell? ⟨w.heap.size, 2, none⟩ = some (.slice (some ⟨b2, o2, none⟩) vl vc) := fun o => (A0 o).1 2
            have wa0 : ∀ o, (wr.alloc o).cell? ⟨w.heap.size + 2, 1, none⟩ = some (.int .i64 sz) := fun o => (A0 o).2.1
            have wb0 : ∀ o, (wr.alloc o).cell? ⟨w.heap.size + 2, 2, none⟩ = some (.int .i64 al) := fun o => (A0 o).2.2.1
            have wc0 : ∀ o, (wr.alloc o).cell? ⟨w.heap.size + 2, 3, none⟩ = some vv := fun o => (A0 o).2.2.2.1
            have wd0 : ∀ o j, (wr.alloc o).frozen? ⟨w.heap.size + 2, j, none⟩ = false := fun o => (A0 o).2.2.2.2
            have wz0 : w.heap.size + 2 < wr.heap.size := S0.out.size
            have wy0 : w.heap.size < wr.heap.size := by omega
            clear A0
            obtain ⟨X1, hX1⟩ : ∃ X1, wr.setCell ⟨w.heap.size + 2, 2, none⟩ (.int .i64 fal) = X1 := ⟨_, rfl⟩
            have S1 : Hid (FSt w #[.int .i64 kk, .int .i64 nn, .slice (some ⟨b2, o2, none⟩) vl vc, .slice s.a s.len s.cap] sz fal vv k X1) := by rw [← hX1]; exact S0.out.set 2 _ sz fal rfl
            have e1 : X1.heap.size = wr.heap.size := by rw [← hX1]; simp
            have A1 := fun o => (S1.out.alloc o).cells
            have wt1 : ∀ o, (X1.alloc o).cell? ⟨w.heap.size, 0, none⟩ = some (.int .i64 kk) := fun o => (A1 o).1 0
            have wl1 : ∀ o, (X1.alloc o).cell? ⟨w.heap.size, 2, none⟩ = some (.slice (some ⟨b2, o2, none⟩) vl vc) := fun o => (A1 o).1 2
            have wa1 : ∀ o, (X1.alloc o).cell? ⟨w.heap.size + 2, 1, none⟩ = some (.int .i64 sz) := fun o => (A1 o).2.1
            have wb1 : ∀ o, (X1.alloc o).cell? ⟨w.heap.size + 2, 2, none⟩ = some (.int .i64 fal) := fun o => (A1 o).2.2.1
            have wc1 : ∀ o, (X1.alloc o).cell? ⟨w.heap.size + 2, 3, none⟩ = some vv := fun o => (A1 o).2.2.2.1
            have wd1 : ∀ o j, (X1.alloc o).frozen? ⟨w.heap.size + 2, j, none⟩ = false := fun o => (A1 o).2.2.2.2
            have wz1 : w.heap.size + 2 < X1.heap.size := S1.out.size
            have wy1 : w.heap.size < X1.heap.size := by omega
            clear A1
            obtain ⟨X2, hX2⟩ : ∃ X2, X1.setCell ⟨w.heap.size + 2, 1, none⟩ (.int .i64 fsz) = X2 := ⟨_, rfl⟩
            have S2 : Hid (FSt w #[.int .i64 kk, .int .i64 nn, .slice (some ⟨b2, o2, none⟩) vl vc, .slice s.a s.len s.cap] fsz fal vv k X2) := by rw [← hX2]; exact S1.out.set 1 _ fsz fal rfl
            have e2 : X2.heap.size = wr.heap.size := by rw [← hX2]; simp [e1]
            have A2 := fun o => (S2.out.alloc o).cells
            have wt2 : ∀ o, (X2.alloc o).cell? ⟨w.heap.size, 0, none⟩ = some (.int .i64 kk) := fun o => (A2 o).1 0
            have wl2 : ∀ o, (X2.alloc o).cell? ⟨w.heap.size, 2, none⟩ = some (.slice (some ⟨b2, o2, none⟩) vl vc) := fun o => (A2 o).1 2
            have wa2 : ∀ o, (X2.alloc o).cell? ⟨w.heap.size + 2, 1, none⟩ = some (.int .i64 fsz) := fun o => (A2 o).2.1
            have wb2 : ∀ o, (X2.alloc o).cell? ⟨w.heap.size + 2, 2, none⟩ = some (.int .i64 fal) := fun o => (A2 o).2.2.1
            have wc2 : ∀ o, (X2.alloc o).cell? ⟨w.heap.size + 2, 3, none⟩ = some vv := fun o => (A2 o).2.2.2.1
            have wd2 : ∀ o j, (X2.alloc o).frozen? ⟨w.heap.size + 2, j, none⟩ = false := fun o => (A2 o).2.2.2.2
            have wz2 : w.heap.size + 2 < X2.heap.size := S2.out.size
            have wy2 : w.heap.size < X2.heap.size := by omega
            clear A2
            have fX11 : (X1.alloc (.cells #[.bool true, .int .i64 fsz, .int .i64 fal, .slice v2.a v2.len v2.cap] 40)).cell? ⟨wr.heap.size, 1, none⟩ = some (.int .i64 fsz) := by rw [← e1]; exact cell_of_row _ _ 1 _ _ (0, 0) (heap_alloc_new X1 _)
            have fX12 : (X1.alloc (.cells #[.bool true, .int .i64 fsz, .int .i64 fal, .slice v2.a v2.len v2.cap] 40)).cell? ⟨wr.heap.size, 2, none⟩ = some (.int .i64 fal) := by rw [← e1]; exact cell_of_row _ _ 2 _ _ (0, 0) (heap_alloc_new X1 _)
            have fX21 : (X2.alloc (.cells #[.bool true, .int .i64 fsz, .int .i64 fal, .slice v2.a v2.len v2.cap] 40)).cell? ⟨wr.heap.size, 1, none⟩ = some (.int .i64 fsz) := by rw [← e2]; exact cell_of_row _ _ 1 _ _ (0, 0) (heap_alloc_new X2 _)
            have fX22 : (X2.alloc (.cells #[.bool true, .int .i64 fsz, .int .i64 fal, .slice v2.a v2.len v2.cap] 40)).cell? ⟨wr.heap.size, 2, none⟩ = some (.int .i64 fal) := by rw [← e2]; exact cell_of_row _ _ 2 _ _ (0, 0) (heap_alloc_new X2 _)
            obtain ⟨ys, hys0⟩ := S2.out.a
            have hys : Hid (X2.ownsRow (w.heap.size + 3) 3 1 vv k ys) := hys0
            clear hys0
            have newsX : ∀ j u, [Value.int .i64 0][j]? = some u → ((X2.alloc (.cells #[.bool true, .int .i64 fsz, .int .i64 fal, .slice v2.a v2.len v2.cap] 40)).alloc (.cells #[.int .i64 0] 3)).cell? ((⟨wr.heap.size + 1, 0, none⟩ : Addr).add j) = some u := fun j u hj => by
              have := int_new1 (X2.alloc (.cells #[.bool true, .int .i64 fsz, .int .i64 fal, .slice v2.a v2.len v2.cap] 40)) (.int .i64 0) j u hj
              have es : (X2.alloc (.cells #[.bool true, .int .i64 fsz, .int .i64 fal, .slice v2.a v2.len v2.cap] 40)).heap.size = wr.heap.size + 1 := by simp [e2]
              rw [es] at this
              exact this
            have NX : Hid _ := newsX
            clear newsX
            go_wp2_with (first | (at_builtin; refine wpList_append_own _ rfl (.tmp 57) (.tmp 59) 30 rfl (w.heap.size + 3) 3 i0 (.int .i64 0) 1 8 Tryd.underlying30 HI.out.1 HI.out.2.1 HI.out.2.2.1 HI.out.2.2.2 rfl (by decide) vv k ys rfl ((hys.out.alloc _).alloc _) ⟨wr.heap.size + 1, 0, none⟩ 1 1 [.int .i64 0] rfl rfl ?n1 (by intro u hu; simp at hu; subst hu; rfl) (by unfold maxLen; omega) (by omega) (by simp; omega) ?_; (case n1 => exact NX.out); intro v6 w6 hown6 hgrow6 _; refine Hid.out ?_))
            have SY : FSt w #[.int .i64 kk, .int .i64 nn, .slice (some ⟨b2, o2, none⟩) vl vc, .slice s.a s.len s.cap] fsz fal vv k ((X2.alloc (.cells #[.bool true, .int .i64 fsz, .int .i64 fal, .slice v2.a v2.len v2.cap] 40)).alloc (.cells #[.int .i64 0] 3)) := (S2.out.alloc _).alloc _
            obtain ⟨g6, z6⟩ := SY.grown hgrow6
            have S7 : Hid (FSt w #[.int .i64 kk, .int .i64 nn, .slice (some ⟨b2, o2, none⟩) vl vc, .slice s.a s.len s.cap] fsz fal v6 (k + 1) (w6.setCell ⟨w.heap.size + 2, 3, none⟩ v6)) := SY.app hgrow6 hown6
            obtain ⟨g7, c7, rfl⟩ := own_slice hown6
            unfold Hid
            clear SY hown6 hgrow6 NX hys
            go_wp2_with fail
            go_roundw
            case rel =>
              refine ⟨k + 1, fsz, fal, _, by omega, by go_num, S7.out, ?_⟩
              show _ = Pl.flStep kk (Pl.fl kk G k) (G k)
              rw [← HFL.out, HGK.out]
              unfold Pl.flStep
              simp only [if_neg (show ¬ kk = 10 by omega)]
              rw [if_pos hal, if_pos hsu]
            case measure => simp [intOf]; omega
          · have HS0 : Hid (FSt w #[.int .i64 kk, .int .i64 nn, .slice (some ⟨b2, o2, none⟩) vl vc, .slice s.a s.len s.cap] sz al vv k wr) := S0
            have A0 := fun o => (S0.out.alloc o).cells
            have wt0 : ∀ o, (wr.alloc o).cell? ⟨w.heap.size, 0, none⟩ = some (.int .i64 kk) := fun o => (A0 o).1 0
            have wl0 : ∀ o, (wr.alloc o).cell? ⟨w.heap.size, 2, none⟩ = some (.slice (some ⟨b2, o2, none⟩) vl vc) := fun o => (A0 o).1 2
            have wa0 : ∀ o, (wr.alloc o).cell? ⟨w.heap.size + 2, 1, none⟩ = some (.int .i64 sz) := fun o => (A0 o).2.1
            have wb0 : ∀ o, (wr.alloc o).cell? ⟨w.heap.size + 2, 2, none⟩ = some (.int .i64 al) := fun o => (A0 o).2.2.1
            have wc0 : ∀ o, (wr.alloc o).cell? ⟨w.heap.size + 2, 3, none⟩ = some vv := fun o => (A0 o).2.2.2.1
            have wd0 : ∀ o j, (wr.alloc o).frozen? ⟨w.heap.size + 2, j, none⟩ = false := fun o => (A0 o).2.2.2.2
            have wz0 : w.heap.size + 2 < wr.heap.size := S0.out.size
            have wy0 : w.heap.size < wr.heap.size := by omega
            clear A0
            obtain ⟨X1, hX1⟩ : ∃ X1, wr.setCell ⟨w.heap.size + 2, 2, none⟩ (.int .i64 fal) = X1 := ⟨_, rfl⟩
            have S1 : Hid (FSt w #[.int .i64 kk, .int .i64 nn, .slice (some ⟨b2, o2, none⟩) vl vc, .slice s.a s.len s.cap] sz fal vv k X1) := by rw [← hX1]; exact S0.out.set 2 _ sz fal rfl
            have e1 : X1.heap.size = wr.heap.size := by rw [← hX1]; simp
            have A1 := fun o => (S1.out.alloc o).cells
            have wt1 : ∀ o, (X1.alloc o).cell? ⟨w.heap.size, 0, none⟩ = some (.int .i64 kk) := fun o => (A1 o).1 0
            have wl1 : ∀ o, (X1.alloc o).cell? ⟨w.heap.size, 2, none⟩ = some (.slice (some ⟨b2, o2, none⟩) vl vc) := fun o => (A1 o).1 2
            have wa1 : ∀ o, (X1.alloc o).cell? ⟨w.heap.size + 2, 1, none⟩ = some (.int .i64 sz) := fun o => (A1 o).2.1
            have wb1 : ∀ o, (X1.alloc o).cell? ⟨w.heap.size + 2, 2, none⟩ = some (.int .i64 fal) := fun o => (A1 o).2.2.1
            have wc1 : ∀ o, (X1.alloc o).cell? ⟨w.heap.size + 2, 3, none⟩ = some vv := fun o => (A1 o).2.2.2.1
            have wd1 : ∀ o j, (X1.alloc o).frozen? ⟨w.heap.size + 2, j, none⟩ = false := fun o => (A1 o).2.2.2.2
            have wz1 : w.heap.size + 2 < X1.heap.size := S1.out.size
            have wy1 : w.heap.size < X1.heap.size := by omega
            clear A1
            have fX11 : (X1.alloc (.cells #[.bool true, .int .i64 fsz, .int .i64 fal, .slice v2.a v2.len v2.cap] 40)).cell? ⟨wr.heap.size, 1, none⟩ = some (.int .i64 fsz) := by rw [← e1]; exact cell_of_row _ _ 1 _ _ (0, 0) (heap_alloc_new X1 _)
            have fX12 : (X1.alloc (.cells #[.bool true, .int .i64 fsz, .int .i64 fal, .slice v2.a v2.len v2.cap] 40)).cell? ⟨wr.heap.size, 2, none⟩ = some (.int .i64 fal) := by rw [← e1]; exact cell_of_row _ _ 2 _ _ (0, 0) (heap_alloc_new X1 _)
            obtain ⟨ys, hys0⟩ := S1.out.a
            have hys : Hid (X1.ownsRow (w.heap.size + 3) 3 1 vv k ys) := hys0
            clear hys0
            have newsX : ∀ j u, [Value.int .i64 0][j]? = some u → ((X1.alloc (.cells #[.bool true, .int .i64 fsz, .int .i64 fal, .slice v2.a v2.len v2.cap] 40)).alloc (.cells #[.int .i64 0] 3)).cell? ((⟨wr.heap.size + 1, 0, none⟩ : Addr).add j) = some u := fun j u hj => by
              have := int_new1 (X1.alloc (.cells #[.bool true, .int .i64 fsz, .int .i64 fal, .slice v2.a v2.len v2.cap] 40)) (.int .i64 0) j u hj
              have es : (X1.alloc (.cells #[.bool true, .int .i64 fsz, .int .i64 fal, .slice v2.a v2.len v2.cap] 40)).heap.size = wr.heap.size + 1 := by simp [e1]
              rw [es] at this
              exact this
            have NX : Hid _ := newsX
            clear newsX
            go_wp2_with (first | (at_builtin; refine wpList_append_own _ rfl (.tmp 57) (.tmp 59) 30 rfl (w.heap.size + 3) 3 i0 (.int .i64 0) 1 8 Tryd.underlying30 HI.out.1 HI.out.2.1 HI.out.2.2.1 HI.out.2.2.2 rfl (by decide) vv k ys rfl ((hys.out.alloc _).alloc _) ⟨wr.heap.size + 1, 0, none⟩ 1 1 [.int .i64 0] rfl rfl ?n1 (by intro u hu; simp at hu; subst hu; rfl) (by unfold maxLen; omega) (by omega) (by simp; omega) ?_; (case n1 => exact NX.out); intro v6 w6 hown6 hgrow6 _; refine Hid.out ?_))
            have SY : FSt w #[.int .i64 kk, .int .i64 nn, .slice (some ⟨b2, o2, none⟩) vl vc, .slice s.a s.len s.cap] sz fal vv k ((X1.alloc (.cells #[.bool true, .int .i64 fsz, .int .i64 fal, .slice v2.a v2.len v2.cap] 40)).alloc (.cells #[.int .i64 0] 3)) := (S1.out.alloc _).alloc _
            obtain ⟨g6, z6⟩ := SY.grown hgrow6
            have S7 : Hid (FSt w #[.int .i64 kk, .int .i64 nn, .slice (some ⟨b2, o2, none⟩) vl vc, .slice s.a s.len s.cap] sz fal v6 (k + 1) (w6.setCell ⟨w.heap.size + 2, 3, none⟩ v6)) := SY.app hgrow6 hown6
            obtain ⟨g7, c7, rfl⟩ := own_slice hown6
            unfold Hid
            clear SY hown6 hgrow6 NX hys
            go_wp2_with fail
            go_roundw
            case rel =>
              refine ⟨k + 1, sz, fal, _, by omega, by go_num, S7.out, ?_⟩
              show _ = Pl.flStep kk (Pl.fl kk G k) (G k)
              rw [← HFL.out, HGK.out]
              unfold Pl.flStep
              simp only [if_neg (show ¬ kk = 10 by omega)]
              rw [if_pos hal, if_neg (show ¬ sz < fsz by omega)]
            case measure => simp [intOf]; omega
      · by_cases h10 : kk = 10
        · obtain ⟨att, hat⟩ : ∃ att, Pl.capn (Pl.up sz fal) = att := ⟨_, rfl⟩
          have hat1 : 0 ≤ att ∧ att ≤ 60001 := by rw [← hat]; exact Pl.capn_bdd (Pl.up_bdd m1 ⟨nb3, nb4⟩).1
          obtain ⟨ha1, ha2⟩ := hat1
          obtain ⟨yy, hy⟩ : ∃ yy, Pl.capn (att + fsz) = yy := ⟨_, rfl⟩
          have HY : Hid (yy = Pl.capn (Pl.capn (Pl.up sz fal) + fsz)) := by rw [hat]; exact hy.symm
          subst h10
          have HS0 : Hid (FSt w #[.int .i64 10, .int .i64 nn, .slice (some ⟨b2, o2, none⟩) vl vc, .slice s.a s.len s.cap] sz al vv k wr) := S0
          have A0 := fun o => (S0.out.alloc o).cells
          have wt0 : ∀ o, (wr.alloc o).cell? ⟨w.heap.size, 0, none⟩ = some (.int .i64 10) := fun o => (A0 o).1 0
          have wl0 : ∀ o, (wr.alloc o).cell? ⟨w.heap.size, 2, none⟩ = some (.slice (some ⟨b2, o2, none⟩) vl vc) := fun o => (A0 o).1 2
          have wa0 : ∀ o, (wr.alloc o).cell? ⟨w.heap.size + 2, 1, none⟩ = some (.int .i64 sz) := fun o => (A0 o).2.1
          have wb0 : ∀ o, (wr.alloc o).cell? ⟨w.heap.size + 2, 2, none⟩ = some (.int .i64 al) := fun o => (A0 o).2.2.1
          have wc0 : ∀ o, (wr.alloc o).cell? ⟨w.heap.size + 2, 3, none⟩ = some vv := fun o => (A0 o).2.2.2.1
          have wd0 : ∀ o j, (wr.alloc o).frozen? ⟨w.heap.size + 2, j, none⟩ = false := fun o => (A0 o).2.2.2.2
          have wz0 : w.heap.size + 2 < wr.heap.size := S0.out.size
          have wy0 : w.heap.size < wr.heap.size := by omega
          clear A0
          obtain ⟨X2, hX2⟩ : ∃ X2, wr.setCell ⟨w.heap.size + 2, 1, none⟩ (.int .i64 yy) = X2 := ⟨_, rfl⟩
          have S1 : Hid (FSt w #[.int .i64 10, .int .i64 nn, .slice (some ⟨b2, o2, none⟩) vl vc, .slice s.a s.len s.cap] yy al vv k X2) := by rw [← hX2]; exact S0.out.set 1 _ yy al rfl
          have e2 : X2.heap.size = wr.heap.size := by rw [← hX2]; simp
          have A1 := fun o => (S1.out.alloc o).cells
          have wt1 : ∀ o, (X2.alloc o).cell? ⟨w.heap.size, 0, none⟩ = some (.int .i64 10) := fun o => (A1 o).1 0
          have wl1 : ∀ o, (X2.alloc o).cell? ⟨w.heap.size, 2, none⟩ = some (.slice (some ⟨b2, o2, none⟩) vl vc) := fun o => (A1 o).1 2
          have wa1 : ∀ o, (X2.alloc o).cell? ⟨w.heap.size + 2, 1, none⟩ = some (.int .i64 yy) := fun o => (A1 o).2.1
          have wb1 : ∀ o, (X2.alloc o).cell? ⟨w.heap.size + 2, 2, none⟩ = some (.int .i64 al) := fun o => (A1 o).2.2.1
          have wc1 : ∀ o, (X2.alloc o).cell? ⟨w.heap.size + 2, 3, none⟩ = some vv := fun o => (A1 o).2.2.2.1
          have wd1 : ∀ o j, (X2.alloc o).frozen? ⟨w.heap.size + 2, j, none⟩ = false := fun o => (A1 o).2.2.2.2
          have wz1 : w.heap.size + 2 < X2.heap.size := S1.out.size
          have wy1 : w.heap.size < X2.heap.size := by omega
          clear A1
          have fX21 : (X2.alloc (.cells #[.bool true, .int .i64 fsz, .int .i64 fal, .slice v2.a v2.len v2.cap] 40)).cell? ⟨wr.heap.size, 1, none⟩ = some (.int .i64 fsz) := by rw [← e2]; exact cell_of_row _ _ 1 _ _ (0, 0) (heap_alloc_new X2 _)
          have fX22 : (X2.alloc (.cells #[.bool true, .int .i64 fsz, .int .i64 fal, .slice v2.a v2.len v2.cap] 40)).cell? ⟨wr.heap.size, 2, none⟩ = some (.int .i64 fal) := by rw [← e2]; exact cell_of_row _ _ 2 _ _ (0, 0) (heap_alloc_new X2 _)
          obtain ⟨ys, hys0⟩ := S1.out.a
          have hys : Hid (X2.ownsRow (w.heap.size + 3) 3 1 vv k ys) := hys0
          clear hys0
          have newsX : ∀ j u, [Value.int .i64 att][j]? = some u → ((X2.alloc (.cells #[.bool true, .int .i64 fsz, .int .i64 fal, .slice v2.a v2.len v2.cap] 40)).alloc (.cells #[.int .i64 att] 3)).cell? ((⟨wr.heap.size + 1, 0, none⟩ : Addr).add j) = some u := fun j u hj => by
            have := int_new1 (X2.alloc (.cells #[.bool true, .int .i64 fsz, .int .i64 fal, .slice v2.a v2.len v2.cap] 40)) (.int .i64 att) j u hj
            have es : (X2.alloc (.cells #[.bool true, .int .i64 fsz, .int .i64 fal, .slice v2.a v2.len v2.cap] 40)).heap.size = wr.heap.size + 1 := by simp [e2]
            rw [es] at this
            exact this
          have NX : Hid _ := newsX
          clear newsX
          go_wp2_with (first | (go_at_call 36; refine (l7Up_any sz fal ⟨m1, m2⟩ ⟨nb3, nb4⟩ _).mono ?_; rintro e uu ⟨rfl, ek⟩; rw [ek]; clear ek) | (go_at_call 21; refine (l7Cap_any _ _).mono ?_; rintro e uu ⟨rfl, ek⟩; rw [ek]; clear ek; first | rw [hat] | rw [hy]) | (at_builtin; refine wpList_append_own _ rfl (.tmp 57) (.tmp 59) 30 rfl (w.heap.size + 3) 3 i0 (.int .i64 0) 1 8 Tryd.underlying30 HI.out.1 HI.out.2.1 HI.out.2.2.1 HI.out.2.2.2 rfl (by decide) vv k ys rfl ((hys.out.alloc _).alloc _) ⟨wr.heap.size + 1, 0, none⟩ 1 1 [.int .i64 att] rfl rfl ?n1 (by intro u hu; simp at hu; subst hu; rfl) (by unfold maxLen; omega) (by omega) (by simp; omega) ?_; (case n1 => exact NX.out); intro v6 w6 hown6 hgrow6 _; refine Hid.out ?_))
          have SY : FSt w #[.int .i64 10, .int .i64 nn, .slice (some ⟨b2, o2, none⟩) vl vc, .slice s.a s.len s.cap] yy al vv k ((X2.alloc (.cells #[.bool true, .int .i64 fsz, .int .i64 fal, .slice v2.a v2.len v2.cap] 40)).alloc (.cells #[.int .i64 att] 3)) := (S1.out.alloc _).alloc _
          obtain ⟨g6, z6⟩ := SY.grown hgrow6
          have S7 : Hid (FSt w #[.int .i64 10, .int .i64 nn, .slice (some ⟨b2, o2, none⟩) vl vc, .slice s.a s.len s.cap] yy al v6 (k + 1) (w6.setCell ⟨w.heap.size + 2, 3, none⟩ v6)) := SY.app hgrow6 hown6
          obtain ⟨g7, c7, rfl⟩ := own_slice hown6
          unfold Hid
          clear SY hown6 hgrow6 NX hys
          go_wp2_with fail
          go_roundw
          case rel =>
            refine ⟨k + 1, yy, al, _, by omega, by go_num, S7.out, ?_⟩
            show _ = Pl.flStep 10 (Pl.fl 10 G k) (G k)
            rw [← HFL.out, HGK.out]
            unfold Pl.flStep
            simp only [if_pos, ← HY.out]
            rw [if_neg (show ¬ al < fal by omega)]
          case measure => simp [intOf]; omega
        · by_cases hsu : sz < fsz
          · have HS0 : Hid (FSt w #[.int .i64 kk, .int .i64 nn, .slice (some ⟨b2, o2, none⟩) vl vc, .slice s.a s.len s.cap] sz al vv k wr) := S0
            have A0 := fun o => (S0.out.alloc o).cells
            have wt0 : ∀ o, (wr.alloc o).cell? ⟨w.heap.size, 0, none⟩ = some (.int .i64 kk) := fun o => (A0 o).1 0
            have wl0 : ∀ o, (wr.alloc o).cell? ⟨w.heap.size, 2, none⟩ = some (.slice (some ⟨b2, o2, none⟩) vl vc) := fun o => (A0 o).1 2
            have wa0 : ∀ o, (wr.alloc o).cell? ⟨w.heap.size + 2, 1, none⟩ = some (.int .i64 sz) := fun o => (A0 o).2.1
            have wb0 : ∀ o, (wr.alloc o).cell? ⟨w.heap.size + 2, 2, none⟩ = some (.int .i64 al) := fun o => (A0 o).2.2.1
            have wc0 : ∀ o, (wr.alloc o).cell? ⟨w.heap.size + 2, 3, none⟩ = some vv := fun o => (A0 o).2.2.2.1
            have wd0 : ∀ o j, (wr.alloc o).frozen? ⟨w.heap.size + 2, j, none⟩ = false := fun o => (A0 o).2.2.2.2
            have wz0 : w.heap.size + 2 < wr.heap.size := S0.out.size
            have wy0 : w.heap.size < wr.heap.size := by omega
            clear A0
            obtain ⟨X2, hX2⟩ : ∃ X2, wr.setCell ⟨w.heap.size + 2, 1, none⟩ (.int .i64 fsz) = X2 := ⟨_, rfl⟩
            have S1 : Hid (FSt w #[.int .i64 kk, .int .i64 nn, .slice (some ⟨b2, o2, none⟩) vl vc, .slice s.a s.len s.cap] fsz al vv k X2) := by rw [← hX2]; exact S0.out.set 1 _ fsz al rfl
            have e2 : X2.heap.size = wr.heap.size := by rw [← hX2]; simp
            have A1 := fun o => (S1.out.alloc o).cells
            have wt1 : ∀ o, (X2.alloc o).cell? ⟨w.heap.size, 0, none⟩ = some (.int .i64 kk) := fun o => (A1 o).1 0
            have wl1 : ∀ o, (X2.alloc o).cell? ⟨w.heap.size, 2, none⟩ = some (.slice (some ⟨b2, o2, none⟩) vl vc) := fun o => (A1 o).1 2
            have wa1 : ∀ o, (X2.alloc o).cell? ⟨w.heap.size + 2, 1, none⟩ = some (.int .i64 fsz) := fun o => (A1 o).2.1
            have wb1 : ∀ o, (X2.alloc o).cell? ⟨w.heap.size + 2, 2, none⟩ = some (.int .i64 al) := fun o => (A1 o).2.2.1
            have wc1 : ∀ o, (X2.alloc o).cell? ⟨w.heap.size + 2, 3, none⟩ = some vv := fun o => (A1 o).2.2.2.1
            have wd1 : ∀ o j, (X2.alloc o).frozen? ⟨w.heap.size + 2, j, none⟩ = false := fun o => (A1 o).2.2.2.2
            have wz1 : w.heap.size + 2 < X2.heap.size := S1.out.size
            have wy1 : w.heap.size < X2.heap.size := by omega
            clear A1
            have fX21 : (X2.alloc (.cells #[.bool true, .int .i64 fsz, .int .i64 fal, .slice v2.a v2.len v2.cap] 40)).cell? ⟨wr.heap.size, 1, none⟩ = some (.int .i64 fsz) := by rw [← e2]; exact cell_of_row _ _ 1 _ _ (0, 0) (heap_alloc_new X2 _)
            have fX22 : (X2.alloc (.cells #[.bool true, .int .i64 fsz, .int .i64 fal, .slice v2.a v2.len v2.cap] 40)).cell? ⟨wr.heap.size, 2, none⟩ = some (.int .i64 fal) := by rw [← e2]; exact cell_of_row _ _ 2 _ _ (0, 0) (heap_alloc_new X2 _)
            obtain ⟨ys, hys0⟩ := S1.out.a
            have hys : Hid (X2.ownsRow (w.heap.size + 3) 3 1 vv k ys) := hys0
            clear hys0
            have newsX : ∀ j u, [Value.int .i64 0][j]? = some u → ((X2.alloc (.cells #[.bool true, .int .i64 fsz, .int .i64 fal, .slice v2.a v2.len v2.cap] 40)).alloc (.cells #[.int .i64 0] 3)).cell? ((⟨wr.heap.size + 1, 0, none⟩ : Addr).add j) = some u := fun j u hj => by
              have := int_new1 (X2.alloc (.cells #[.bool true, .int .i64 fsz, .int .i64 fal, .slice v2.a v2.len v2.cap] 40)) (.int .i64 0) j u hj
              have es : (X2.alloc (.cells #[.bool true, .int .i64 fsz, .int .i64 fal, .slice v2.a v2.len v2.cap] 40)).heap.size = wr.heap.size + 1 := by simp [e2]
              rw [es] at this
              exact this
            have NX : Hid _ := newsX
            clear newsX
            go_wp2_with (first | (at_builtin; refine wpList_append_own _ rfl (.tmp 57) (.tmp 59) 30 rfl (w.heap.size + 3) 3 i0 (.int .i64 0) 1 8 Tryd.underlying30 HI.out.1 HI.out.2.1 HI.out.2.2.1 HI.out.2.2.2 rfl (by decide) vv k ys rfl ((hys.out.alloc _).alloc _) ⟨wr.heap.size + 1, 0, none⟩ 1 1 [.int .i64 0] rfl rfl ?n1 (by intro u hu; simp at hu; subst hu; rfl) (by unfold maxLen; omega) (by omega) (by simp; omega) ?_; (case n1 => exact NX.out); intro v6 w6 hown6 hgrow6 _; refine Hid.out ?_))
            have SY : FSt w #[.int .i64 kk, .int .i64 nn, .slice (some ⟨b2, o2, none⟩) vl vc, .slice s.a s.len s.cap] fsz al vv k ((X2.alloc (.cells #[.bool true, .int .i64 fsz, .int .i64 fal, .slice v2.a v2.len v2.cap] 40)).alloc (.cells #[.int .i64 0] 3)) := (S1.out.alloc _).alloc _
            obtain ⟨g6, z6⟩ := SY.grown hgrow6
            have S7 : Hid (FSt w #[.int .i64 kk, .int .i64 nn, .slice (some ⟨b2, o2, none⟩) vl vc, .slice s.a s.len s.cap] fsz al v6 (k + 1) (w6.setCell ⟨w.heap.size + 2, 3, none⟩ v6)) := SY.app hgrow6 hown6
            obtain ⟨g7, c7, rfl⟩ := own_slice hown6
            unfold Hid
            clear SY hown6 hgrow6 NX hys
            go_wp2_with fail
            go_roundw
            case rel =>
              refine ⟨k + 1, fsz, al, _, by omega, by go_num, S7.out, ?_⟩
              show _ = Pl.flStep kk (Pl.fl kk G k) (G k)
              rw [← HFL.out, HGK.out]
              unfold Pl.flStep
              simp only [if_neg (show ¬ kk = 10 by omega)]
              rw [if_neg (show ¬ al < fal by omega), if_pos hsu]
            case measure => simp [intOf]; omega
          · have HS0 : Hid (FSt w #[.int .i64 kk, .int .i64 nn, .slice (some ⟨b2, o2, none⟩) vl vc, .slice s.a s.len s.cap] sz al vv k wr) := S0
            have A0 := fun o => (S0.out.alloc o).cells
            have wt0 : ∀ o, (wr.alloc o).cell? ⟨w.heap.size, 0, none⟩ = some (.int .i64 kk) := fun o => (A0 o).1 0
            have wl0 : ∀ o, (wr.alloc o).cell? ⟨w.heap.size, 2, none⟩ = some (.slice (some ⟨b2, o2, none⟩) vl vc) := fun o => (A0 o).1 2
            have wa0 : ∀ o, (wr.alloc o).cell? ⟨w.heap.size + 2, 1, none⟩ = some (.int .i64 sz) := fun o => (A0 o).2.1
            have wb0 : ∀ o, (wr.alloc o).cell? ⟨w.heap.size + 2, 2, none⟩ = some (.int .i64 al) := fun o => (A0 o).2.2.1
            have wc0 : ∀ o, (wr.alloc o).cell? ⟨w.heap.size + 2, 3, none⟩ = some vv := fun o => (A0 o).2.2.2.1
            have wd0 : ∀ o j, (wr.alloc o).frozen? ⟨w.heap.size + 2, j, none⟩ = false := fun o => (A0 o).2.2.2.2
            have wz0 : w.heap.size + 2 < wr.heap.size := S0.out.size
            have wy0 : w.heap.size < wr.heap.size := by omega
            clear A0
            obtain ⟨ys, hys0⟩ := S0.out.a
            have hys : Hid (wr.ownsRow (w.heap.size + 3) 3 1 vv k ys) := hys0
            clear hys0
            have newsX : ∀ j u, [Value.int .i64 0][j]? = some u → ((wr.alloc (.cells #[.bool true, .int .i64 fsz, .int .i64 fal, .slice v2.a v2.len v2.cap] 40)).alloc (.cells #[.int .i64 0] 3)).cell? ((⟨wr.heap.size + 1, 0, none⟩ : Addr).add j) = some u := fun j u hj => by
              have := int_new1 (wr.alloc (.cells #[.bool true, .int .i64 fsz, .int .i64 fal, .slice v2.a v2.len v2.cap] 40)) (.int .i64 0) j u hj
              have es : (wr.alloc (.cells #[.bool true, .int .i64 fsz, .int .i64 fal, .slice v2.a v2.len v2.cap] 40)).heap.size = wr.heap.size + 1 := by simp
              rw [es] at this
              exact this
            have NX : Hid _ := newsX
            clear newsX
            go_wp2_with (first | (at_builtin; refine wpList_append_own _ rfl (.tmp 57) (.tmp 59) 30 rfl (w.heap.size + 3) 3 i0 (.int .i64 0) 1 8 Tryd.underlying30 HI.out.1 HI.out.2.1 HI.out.2.2.1 HI.out.2.2.2 rfl (by decide) vv k ys rfl ((hys.out.alloc _).alloc _) ⟨wr.heap.size + 1, 0, none⟩ 1 1 [.int .i64 0] rfl rfl ?n1 (by intro u hu; simp at hu; subst hu; rfl) (by unfold maxLen; omega) (by omega) (by simp; omega) ?_; (case n1 => exact NX.out); intro v6 w6 hown6 hgrow6 _; refine Hid.out ?_))
            have SY : FSt w #[.int .i64 kk, .int .i64 nn, .slice (some ⟨b2, o2, none⟩) vl vc, .slice s.a s.len s.cap] sz al vv k ((wr.alloc (.cells #[.bool true, .int .i64 fsz, .int .i64 fal, .slice v2.a v2.len v2.cap] 40)).alloc (.cells #[.int .i64 0] 3)) := (S0.out.alloc _).alloc _
            obtain ⟨g6, z6⟩ := SY.grown hgrow6
            have S7 : Hid (FSt w #[.int .i64 kk, .int .i64 nn, .slice (some ⟨b2, o2, none⟩) vl vc, .slice s.a s.len s.cap] sz al v6 (k + 1) (w6.setCell ⟨w.heap.size + 2, 3, none⟩ v6)) := SY.app hgrow6 hown6
            obtain ⟨g7, c7, rfl⟩ := own_slice hown6
            unfold Hid
            clear SY hown6 hgrow6 NX hys
            go_wp2_with fail
            go_roundw
            case rel =>
              refine ⟨k + 1, sz, al, _, by omega, by go_num, S7.out, ?_⟩
              show _ = Pl.flStep kk (Pl.fl kk G k) (G k)
              rw [← HFL.out, HGK.out]
              unfold Pl.flStep
              simp only [if_neg (show ¬ kk = 10 by omega)]
              rw [if_neg (show ¬ al < fal by omega), if_neg (show ¬ sz < fsz by omega)]
            case measure => simp [intOf]; omega
    · have hke : k = vl := by omega
      have hi : ¬ ((k : Int) < (vl : Int)) := by omega
      have hfl : Pl.nb (sz, al) := by rw [HFL.out]; exact Pl.fl_nb k (fun p hp => HNB.out p (by rw [HL.out]; omega))
      obtain ⟨⟨m1, m2⟩, m3, m4⟩ := hfl
      simp only at m1 m2 m3 m4
      obtain ⟨ys, hys⟩ := S0.out.a
      obtain ⟨a9, n9, c9, rfl⟩ := own_any hys
      clear hys
      have C0 := S0.out.cells
      have t0 : wr.cell? ⟨w.heap.size, 2, none⟩ = some (.slice va vl vc) := C0.1 2
      have p1 := C0.2.1
      have p2 := C0.2.2.1
      have p4 := C0.2.2.2.2 1
      clear C0
      obtain ⟨zz, hzz⟩ : ∃ zz, Pl.capn (Pl.up sz al) = zz := ⟨_, rfl⟩
      have HZZ : Hid (zz = Pl.capn (Pl.up sz al)) := hzz.symm
      obtain ⟨X3, hX3⟩ : ∃ X3, wr.setCell ⟨w.heap.size + 2, 1, none⟩ (.int .i64 zz) = X3 := ⟨_, rfl⟩
      have S3 : Hid (FSt w #[.int .i64 kk, .int .i64 nn, .slice va vl vc, .slice s.a s.len s.cap] zz al (.slice a9 n9 c9) k X3) := by rw [← hX3]; exact S0.out.set 1 _ zz al rfl
      have r0 : X3.cell? ⟨w.heap.size + 2, 0, none⟩ = some (.bool true) := by rw [cell_of_row X3 _ 0 _ _ _ S3.out.o]; rfl
      have r1 : X3.cell? ⟨w.heap.size + 2, 1, none⟩ = some (.int .i64 zz) := S3.out.cells.2.1
      have r2 : X3.cell? ⟨w.heap.size + 2, 2, none⟩ = some (.int .i64 al) := S3.out.cells.2.2.1
      have r3 : X3.cell? ⟨w.heap.size + 2, 3, none⟩ = some (.slice a9 n9 c9) := S3.out.cells.2.2.2.1
      go_wp2_with (first
        | (go_at_call 36; refine (l7Up_any sz al ⟨m1, m2⟩ ⟨m3, m4⟩ _).mono ?_; rintro e uu ⟨rfl, ek⟩; rw [ek]; clear ek)
        | (go_at_call 21; refine (l7Cap_any _ _).mono ?_; rintro e uu ⟨rfl, ek⟩; rw [ek]; clear ek; rw [hzz])
        | (refine wpList_store_row rfl 40 _ _ rfl (w.heap.size + 1) #[.bool true, .int .i64 zz, .int .i64 al, .slice a9 n9 c9] ?hx ?hy 40 #[.bool false, .int .i64 0, .int .i64 0, .slice none 0 0] ?hg ?hi ?ho ?h1 ?_; (case hx => rfl); (case hy => rfl); (case hg => exact S3.out.r); (case hi => kernel_rfl); (case ho => kernel_rfl); (case h1 => kernel_rfl)))
      refine bodyPost_ret (v := .agg #[.bool true, .int .i64 zz, .int .i64 al, .slice a9 n9 c9]) ?hr ?hdf ?hQQ
      case hr =>
        refine results_c4 Tryd.results23 _ _ (w.heap.size + 1) 40 #[.bool true, .int .i64 zz, .int .i64 al, .slice a9 n9 c9] (0, 0) _ ?hp ?hg Tryd.underlying40 ?hd ?hi
        case hp => rfl
        case hg => exact setRow_heap _ _ _ _ _ _ S3.out.r
        case hd => rfl
        case hi => kernel_rfl
      case hdf => rfl
      case hQQ =>
        refine ⟨⟨a9, n9, c9⟩, ?_, below_setRow S3.out.b (Nat.le_succ _) _⟩
        have e : Pl.flds kk G zs.length = (zz, al) := by
          unfold Pl.flds
          rw [HL.out, ← hke, ← HFL.out, HZZ.out]
        rw [e]
end Go.Proofs.YtafcnijfoejboaaDoor.W
namespace Go.Proofs.YtafcnijfoejboaaDoor.Pl
def szK (k : Int) : Int := if k = 2 ∨ k = 3 then 1 else if k = 4 ∨ k = 5 then 2 else 4
inductive Lay (xs : List Ty) : Nat → Int → Int → Prop
  | scal (i : Nat) : scal (xs.getD i Ty.zero).k = true → Lay xs i (szK (xs.getD i Ty.zero).k) (szK (xs.getD i Ty.zero).k)
  | arr (i : Nat) (s a : Int) : (xs.getD i Ty.zero).k = 9 → Lay xs (ofAt xs i 0).toNat s a → Lay xs i (capn (s * (xs.getD i Ty.zero).n)) a
  | rcd (i : Nat) (G : Nat → Int × Int) : tagd (xs.getD i Ty.zero).k = true → 0 < (xs.getD i Ty.zero).of.length → (∀ p, p < (xs.getD i Ty.zero).of.length → Lay xs (ofAt xs i p).toNat (G p).1 (G p).2) → Lay xs i (flds (xs.getD i Ty.zero).k G (xs.getD i Ty.zero).of.length).1 (flds (xs.getD i Ty.zero).k G (xs.getD i Ty.zero).of.length).2
def right (xs : List Ty) (L : List La) : Prop := ∀ i, (L.getD i La.zero).whole = true → (∃ f, lays f xs i = true) ∧ nb ((L.getD i La.zero).size, (L.getD i La.zero).align) ∧ Lay xs i (L.getD i La.zero).size (L.getD i La.zero).align
def can (xs : List Ty) (L : List La) (i : Nat) : Prop := (xs.getD i Ty.zero).whole = true ∧ (scal (xs.getD i Ty.zero).k = true ∨ ∀ p, p < (xs.getD i Ty.zero).of.length → (L.getD (ofAt xs i p).toNat La.zero).whole = true)
theorem can_done {xs : List Ty} {L : List La} {len : Nat} (hl : L.length = len) (hxl : xs.length = len) (h : ∀ i, i < len → (L.getD i La.zero).whole = false → ¬ can xs L i) : ∀ f i, lays f xs i = true → (L.getD i La.zero).whole = true
  | 0, i, hf => by simp [lays] at hf
  | f + 1, i, hf => by
    rw [lays_succ] at hf
    have hi : i < len := by
      apply Nat.lt_of_not_le
      intro hc
      have : xs.getD i Ty.zero = Ty.zero := by rw [List.getD_eq_getElem?_getD, List.getElem?_eq_none (by omega)]; rfl
      rw [this] at hf
      exact absurd hf.1 (by decide)
    cases hw : (L.getD i La.zero).whole
    · exact absurd ⟨hf.1, hf.2.imp id (fun q p hp => can_done hl hxl h f _ (q p hp))⟩ (h i hi hw)
    · rfl
def b1 (b : Bool) : Nat := if b = true then 0 else 1
def cnt (n : Nat) (g : Nat → Nat) : Nat := ((List.range n).map g).sum
theorem cnt_succ (n : Nat) (g : Nat → Nat) : cnt (n + 1) g = cnt n g + g n := by
  unfold cnt
  rw [List.range_succ, List.map_append, List.sum_append]
  simp
theorem cnt_le {g h : Nat → Nat} : ∀ n, (∀ j, j < n → g j ≤ h j) → cnt n g ≤ cnt n h
  | 0, _ => Nat.le_refl _
  | n + 1, q => by
    rw [cnt_succ, cnt_succ]
    have := cnt_le n (fun j hj => q j (by omega))
    have := q n (by omega)
    omega
theorem cnt_lt {g h : Nat → Nat} {i : Nat} : ∀ n, i < n → (∀ j, j < n → g j ≤ h j) → g i < h i → cnt n g < cnt n h
  | 0, hi, _, _ => absurd hi (Nat.not_lt_zero _)
  | n + 1, hi, q, hlt => by
    rw [cnt_succ, cnt_succ]
    by_cases e : i = n
    · have := cnt_le n (fun j hj => q j (by omega))
      rw [e] at hlt
      omega
    · have := cnt_lt n (by omega) (fun j hj => q j (by omega)) hlt
      have := q n (by omega)
      omega
def nwh (len : Nat) (L : List La) : Nat := cnt len (fun i => b1 (L.getD i La.zero).whole)
theorem getD_setL (L : List La) (i j : Nat) (x : La) (hi : i < L.length) : (L.set i x).getD j La.zero = if j = i then x else L.getD j La.zero := by
  rw [List.getD_eq_getElem?_getD, List.getD_eq_getElem?_getD, List.getElem?_set]
  by_cases e : i = j
  · subst e; simp [hi]
  · rw [if_neg e, if_neg (fun q => e q.symm)]
theorem nwh_set {len : Nat} {L : List La} {i : Nat} {x : La} (hl : L.length = len) (hi : i < len) (h0 : (L.getD i La.zero).whole = false) (hx : x.whole = true) : nwh len (L.set i x) < nwh len L := by
  refine cnt_lt (i := i) len hi (fun j hj => ?_) ?_
  · rw [getD_setL L i j x (by omega)]
    by_cases e : j = i
    · rw [if_pos e, hx]; exact Nat.zero_le _
    · rw [if_neg e]; exact Nat.le_refl _
  · rw [getD_setL L i i x (by omega), if_pos rfl, hx, h0]
    decide
theorem right_set {xs : List Ty} {L : List La} {i : Nat} {x : La} (h : right xs L) (hi : i < L.length) (hf : ∃ f, lays f xs i = true) (hb : nb (x.size, x.align)) (hL : Lay xs i x.size x.align) : right xs (L.set i x) := fun j => by
  rw [getD_setL L i j x hi]
  by_cases e : j = i
  · rw [if_pos e, e]; intro _; exact ⟨hf, hb, hL⟩
  · rw [if_neg e]; exact h j
end Go.Proofs.YtafcnijfoejboaaDoor.Pl
namespace Go.Proofs.YtafcnijfoejboaaDoor.W
open Go.RowKit
def setL (u : World) (g o : Nat) (x : Pl.La) (v : SV) : World := (((u.setCell ⟨g, o, none⟩ (.bool x.whole)).setCell ⟨g, o + 1, none⟩ (.int .i64 x.size)).setCell ⟨g, o + 2, none⟩ (.int .i64 x.align)).setCell ⟨g, o + 3, none⟩ (.slice v.a v.len v.cap)
theorem setL_out {u : World} {g o q : Nat} (x : Pl.La) (v : SV) (h : q < o ∨ o + 4 ≤ q) : (setL u g o x v).cell? ⟨g, q, none⟩ = u.cell? ⟨g, q, none⟩ := by
  unfold setL
  rw [World.cell?_setCell_other _ _ _ _ (ty_ne (by omega)), World.cell?_setCell_other _ _ _ _ (ty_ne (by omega)), World.cell?_setCell_other _ _ _ _ (ty_ne (by omega)), World.cell?_setCell_other _ _ _ _ (ty_ne (by omega))]
theorem setL_in {u : World} {g o : Nat} (x : Pl.La) (v : SV) (h : ∀ j, j < 4 → (u.cell? ⟨g, o + j, none⟩).isSome = true) (j : Nat) (hj : j < 4) : (setL u g o x v).cell? ⟨g, o + j, none⟩ = (x.cells v)[j]? := by
  have t := h j hj
  unfold setL
  rcases (show j = 0 ∨ j = 1 ∨ j = 2 ∨ j = 3 by omega) with rfl | rfl | rfl | rfl
  · change World.cell? _ ⟨g, o, none⟩ = _
    rw [World.cell?_setCell_other _ _ _ _ (ty_ne (by omega)), World.cell?_setCell_other _ _ _ _ (ty_ne (by omega)), World.cell?_setCell_other _ _ _ _ (ty_ne (by omega))]
    rw [World.cell?_setCell_same' _ _ _ (show (u.cell? ⟨g, o, none⟩).isSome = true from t)]
    rfl
  · rw [World.cell?_setCell_other _ _ _ _ (ty_ne (by omega)), World.cell?_setCell_other _ _ _ _ (ty_ne (by omega))]
    rw [World.cell?_setCell_same' _ _ _ (ty_isSome t)]
    rfl
  · rw [World.cell?_setCell_other _ _ _ _ (ty_ne (by omega))]
    rw [World.cell?_setCell_same' _ _ _ (ty_isSome (ty_isSome t))]
    rfl
  · rw [World.cell?_setCell_same' _ _ _ (ty_isSome (ty_isSome (ty_isSome t)))]
    rfl
theorem setL_below {w u : World} {B g : Nat} (h : Below B w u) (hg : B ≤ g) (o : Nat) (x : Pl.La) (v : SV) : Below B w (setL u g o x v) := by
  unfold setL
  exact (((h.setCell (p := ⟨g, o, none⟩) hg _).setCell (p := ⟨g, o + 1, none⟩) hg _).setCell (p := ⟨g, o + 2, none⟩) hg _).setCell (p := ⟨g, o + 3, none⟩) hg _
structure LSt (w : World) (len : Nat) (L : List Pl.La) (u : World) : Prop where
  b : Below w.heap.size w u
  r : LaRow u w.heap.size len L
  f : ∀ q, u.frozen? ⟨w.heap.size, q, none⟩ = false
theorem LSt.keep {w : World} {len : Nat} {L : List Pl.La} {u u' : World} (h : LSt w len L u) (hb : Below u.heap.size u u') : LSt w len L u' :=
  ⟨h.b.trans (hb.mono h.b.size), h.r.keep hb, fun q => (hb.frozen (p := ⟨w.heap.size, q, none⟩) h.r.2.1).trans (h.f q)⟩
theorem LSt.put {w : World} {len : Nat} {L : List Pl.La} {u : World} (h : LSt w len L u) {i : Nat} (hi : i < len) (x : Pl.La) (v : SV) : LSt w len (L.set i x) (setL u w.heap.size (i * 4) x v) := by
  refine ⟨setL_below h.b (Nat.le_refl _) _ x v, ⟨by rw [List.length_set]; exact h.r.1, ?_, fun j hj => ?_⟩, fun q => ?_⟩
  · unfold setL; simp only [World.size_setCell]; exact h.r.2.1
  · rw [Pl.getD_setL L i j x (by rw [h.r.1]; exact hi)]
    by_cases e : j = i
    · rw [if_pos e, e]
      obtain ⟨v0, hv0⟩ := h.r.2.2 i hi
      refine ⟨v, fun q hq => setL_in x v (fun q hq => ?_) q hq⟩
      rw [hv0 q hq]
      rcases (show q = 0 ∨ q = 1 ∨ q = 2 ∨ q = 3 by omega) with rfl | rfl | rfl | rfl <;> rfl
    · rw [if_neg e]
      obtain ⟨v0, hv0⟩ := h.r.2.2 j hj
      exact ⟨v0, fun q hq => (setL_out x v (by omega)).trans (hv0 q hq)⟩
  · unfold setL; simp only [World.frozen?_setCell]; exact h.f q
def whI (o : Option Value) : Nat := match o with | some (.bool b) => Pl.b1 b | _ => 1
def wcnt (u : World) (g len : Nat) : Nat := Pl.cnt len (fun i => whI (u.cell? ⟨g, i * 4, none⟩))
theorem LSt.cnt {w : World} {len : Nat} {L : List Pl.La} {u : World} (h : LSt w len L u) : wcnt u w.heap.size len = Pl.nwh len L := by
  have e : ∀ i, i < len → whI (u.cell? ⟨w.heap.size, i * 4, none⟩) = Pl.b1 (L.getD i Pl.La.zero).whole := fun i hi => by
    obtain ⟨v, q, _⟩ := h.r.at hi
    rw [q]; rfl
  exact Nat.le_antisymm (Pl.cnt_le len (fun j hj => Nat.le_of_eq (e j hj))) (Pl.cnt_le len (fun j hj => Nat.le_of_eq (e j hj).symm))
end Go.Proofs.YtafcnijfoejboaaDoor.W
