import Derived.Test.YteadglnenaiaaaaGreatDoorK31
set_option linter.unusedVariables false
set_option linter.unusedSimpArgs false
namespace Go.Proofs.YteadglnenaiaaaaGreatDoor.W
open Go.RowKit
set_option maxRecDepth 1000000 in
set_option maxHeartbeats 8000000 in
theorem specTreeOk_is {lo : Nat} (a : Option Addr) (len cap : Nat) (xs : List Pl.Nd) (w : World) (h : NRow lo w a len cap xs) (hwf : Pl.NWf xs) (hk : ∀ i, i < len → (Pl.nd xs i).kids.length ≤ 1048576) (hs : ∀ i, i < len → (Pl.nd xs i).s.size ≤ 1048576) :
    Calls Tryz.prog 5 #[.agg #[.slice a len cap]] w fun e w' => e = .returned (.bool (Pl.isP (Pl.SpecOk xs))) ∧ Below w.heap.size w w' := by
  have hm : (len : Int) ≤ 9223372036854775807 := by have := h.2.1; have h3 := h.2.2.1; unfold maxLen at h3; omega
  have HXL : Hid (xs.length = len) := h.1.1
  obtain ⟨R, hR⟩ : ∃ R, R = Pl.isP (Pl.SpecOk xs) := ⟨_, rfl⟩
  rw [← hR]
  have HNO : Hid (¬ Pl.SpecOk xs → R = false) := fun q => by rw [hR]; exact Pl.isP_no q
  have HRE : Hid (R = Pl.isP (Pl.SpecOk xs)) := hR
  have HR : Hid (NRow lo w a len cap xs) := h
  have HWF : Hid (Pl.NWf xs) := hwf
  have HKL : Hid (∀ i, i < len → (Pl.nd xs i).kids.length ≤ 1048576) := hk
  have HSL : Hid (∀ i, i < len → (Pl.nd xs i).s.size ≤ 1048576) := hs
  clear hR h hwf hk hs
  by_cases h0 : len = 0
  · have HF : Hid (R = false) := HNO.out fun q => by have := q.1; rw [HXL.out] at this; omega
    have hl : (len : Int) < 1 := by omega
    clear h0
    go_enter Tryz.func5, Tryz.ntmps5
    go_wp2
    go_ret
    exact ⟨ret_bool HF.out.symm, below_alloc _ _⟩
  have hl0 : ¬ ((len : Int) < 1) := by omega
  by_cases h4 : 4000 < len
  · have HF : Hid (R = false) := HNO.out fun q => by have := q.2.1; rw [HXL.out] at this; omega
    have hl : (4000 : Int) < (len : Int) := by omega
    clear h0
    go_enter Tryz.func5, Tryz.ntmps5
    go_wp2
    go_ret
    exact ⟨ret_bool HF.out.symm, below_alloc _ _⟩
  have hl4 : ¬ ((4000 : Int) < (len : Int)) := by omega
  have hlen : 1 ≤ len := by omega
  have hlen4 : len ≤ 4000 := by omega
  clear h0 h4
  obtain ⟨b, off, _, ha, _, _, _, _, _⟩ := HR.out.at (k := 0) (by omega)
  subst ha
  go_enter Tryz.func5, Tryz.ntmps5
  go_upto_region 1 with fail
  refine code_at fun w0 hw0 => ?_
  have hz0 : w0.heap.size = w.heap.size + 1 := by rw [hw0]; simp
  have HZ0 : Hid (w0.heap.size = w.heap.size + 1) := hz0
  have HB0 : Hid (Below w.heap.size w w0) := by rw [hw0]; exact below_alloc _ _
  have q0 : w0.heap[w.heap.size]? = some (.cells #[.slice (some ⟨b, off, none⟩) len cap] 29 (0, 0)) := by rw [hw0]; exact heap_alloc_new w _
  have KB : Hid (∀ u : World, Below w0.heap.size w0 u → u.heap[w.heap.size]? = some (.cells #[.slice (some ⟨b, off, none⟩) len cap] 29 (0, 0))) := fun u hu => (hu.block _ (by omega)).trans q0
  have K0 : Hid (∀ u : World, Below w0.heap.size w0 u → u.cell? ⟨w.heap.size, 0, none⟩ = some (.slice (some ⟨b, off, none⟩) len cap)) := fun u hu => cell_of_row u w.heap.size 0 _ 29 (0, 0) (KB.out u hu)
  have HA : Hid (∀ u : World, Below w0.heap.size w0 u → NRow lo u (some ⟨b, off, none⟩) len cap xs) := fun u hu => (HR.out.keep HB0.out).keep hu
  have k0 := K0.out w0 (Below.refl _ _)
  have hlt0 : w.heap.size < w0.heap.size := by omega
  clear hw0 q0 hz0 HR
  go_wp2_with fail
  go_loopw [2, 3, 4, 5, 6, 7] (fun v2 vb vt vo va vi wr => ∃ (i : Nat) (l : List Nat) (gb cb gt ct go co ga m ca : Nat), v2 = .bool false ∧ i ≤ len ∧ vi = .int .i64 i ∧ vb = .slice (some ⟨gb, 0, none⟩) i cb ∧ vt = .slice (some ⟨gt, 0, none⟩) i ct ∧ vo = .slice (some ⟨go, 0, none⟩) i co ∧ va = .slice (some ⟨ga, 0, none⟩) m ca ∧ TRw w0 wr xs i l gb cb gt ct go co ga m ca) (fun _ _ _ _ _ i _ => len - (intOf i).toNat)
  case atStart =>
    refine ⟨0, [], w0.heap.size, 0, w0.heap.size + 1, 0, w0.heap.size + 1 + 1, 0, w0.heap.size + 1 + 1 + 1, 0, 0, rfl, Nat.zero_le _, rfl, rfl, by simp, by simp, by simp, ⟨?_, ?_, ?_, ?_, by omega⟩, rfl, fun j hj => absurd hj (Nat.not_lt_zero _), ?_⟩
    · exact (((World.ownsRow_lit w0 #[] 0 (base := w0.heap.size) (e := 3) (size := 1) (Nat.le_refl _) (Nat.zero_le _) rfl).alloc _).alloc _).alloc _
    · have := World.ownsRow_lit (w0.alloc (.cells #[] 3)) #[] 0 (base := w0.heap.size) (e := 3) (size := 1) (by simp) (Nat.zero_le _) rfl
      have e : (w0.alloc (.cells #[] 3)).heap.size = w0.heap.size + 1 := by simp
      rw [e] at this
      exact (this.alloc _).alloc _
    · have := World.ownsRow_lit ((w0.alloc (.cells #[] 3)).alloc (.cells #[] 3)) #[] 0 (base := w0.heap.size) (e := 4) (size := 1) (by simp; omega) (Nat.zero_le _) rfl
      have e : ((w0.alloc (.cells #[] 3)).alloc (.cells #[] 3)).heap.size = w0.heap.size + 1 + 1 := by simp
      rw [e] at this
      exact this.alloc _
    · have := World.ownsRow_lit (((w0.alloc (.cells #[] 3)).alloc (.cells #[] 3)).alloc (.cells #[] 4)) #[] 0 (base := w0.heap.size) (e := 9) (size := 1) (by simp; omega) (Nat.zero_le _) rfl
      have e : (((w0.alloc (.cells #[] 3)).alloc (.cells #[] 3)).alloc (.cells #[] 4)).heap.size = w0.heap.size + 1 + 1 + 1 := by simp
      rw [e] at this
      exact this
    · exact ((((Below.refl _ _).alloc (by simp) _).alloc (by simp) _).alloc (by simp; omega) _).alloc (by simp; omega) _
  case round =>
    obtain ⟨i, l, gb, cb, gt, ct, go, co, ga, m, ca, rfl, hil, rfl, rfl, rfl, rfl, rfl, hT⟩ := hrel
    have HT : Hid (TRw w0 wr xs i l gb cb gt ct go co ga m ca) := hT
    have hii4 : (i : Int) ≤ 4000 := by omega
    have k0 := K0.out wr hT.bel
    clear hT
    by_cases hlt : i < len
    rotate_left
    · have hie : i = len := by omega
      have hi : ¬ ((i : Int) < (len : Int)) := by omega
      subst hie
      have HE : Hid (R = decide (((l.getD (i - 1) 0 : Nat) : Int) = 0)) := by
        show R = _
        have e := HXL.out
        have b := HT.out.bg
        have n := HT.out.nd
        rw [HRE.out, Pl.spec_end (l := l) (by omega) (by omega) (by rw [e]; exact b) (fun j hj => n j (by omega)), e]
      have cb1 := own_nat HT.out.tb.ob (p := i - 1) (by omega)
      have hi1 : (i : Int) - 1 < (i : Int) := by omega
      have hi2 : ((i : Int) - 1) = ((i - 1 : Nat) : Int) := by omega
      obtain ⟨q, hq⟩ : ∃ q : Nat, q = i - 1 := ⟨_, rfl⟩
      rw [← hq] at cb1 hi2 HE
      clear hq
      generalize l.getD q 0 = z at *
      go_wp2_with fail
      all_goals (go_ret; refine ⟨ret_bool ?_, HB0.out.trans (HT.out.bel.mono (by rw [HZ0.out]; omega))⟩; rw [HE.out]; first | rfl | (simp <;> omega) | simp_all)
    have hi : (i : Int) < (len : Int) := by omega
    refine wp_seq_k fun K1 hK1 => ?_
    have HK1 : Hid _ := hK1
    clear hK1
    go_wp2_with fail
    refine HK1.out _ _ ?_
    clear HK1
    refine wp_seq_k fun K2 hK2 => ?_
    have HK2 : Hid _ := hK2
    clear hK2
    refine wp_block ?_
    refine round_is hlt hlen4 HXL.out HWF.out HKL.out HSL.out HT.out.bg HT.out.nd HT.out.tb HT.out.bel (HA.out wr HT.out.bel) (KB.out wr HT.out.bel) hlt0 _ _ _ _ _ _ _ _ _ _ _ _ _ _ _ _ _ _ _ _ _ _ _ _ _ _ _ _ _ _ _ _ _ _ _ _ _ _ _ _ _ _ _ _ _ _ _ _ _ _ _ _ _ _ _ _ _ _ _ _ _ _ _ _ _ _ _ _ _ _ _ _ _ _ _ _ _ _ _ _ _ _ _ _ _ _ _ _ _ _ _ _ _ _ _ _ _ _ _ _ _ _ _ _ _ _ _ _ _ _ _ _ _ _ _ _ _ _ _ _ _ _ _ _ _ _ _ _ _ _ _ _ _ _ _ _ _ _ _ _ _ _ _ _ _ _ _ _ _ _ _ _ _ _ _ _ _ _ _ _ _ _ _ _ _ _ _ _ _ _ _ _ _ _ _ _ _ _ _ _ _ _ _ _ _ _ _ _ _ _ _ _ _ _ _ _ _ _ _ _ _ _ _ _ _ _ _ _ _ _ _ _ _ _ _ _ _ _ _ _ _ _ _ _ _ _ _ _ _ _ _ _ _ _ _ _ _ _ _ _ _ _ _ _ _ _ _ _ _ _ _ _ _ _ _ _ _ _ _ _ _ _ _ _ _ _ _ _ _ _ _ _ _ _ _ ?hR ?hN
    case hR =>
      intro tmps y' h1 h2 h3
      have HF : Hid (R = false) := HNO.out h2
      change bodyPost Tryz.prog Tryz.f5 (fun e w' => e = .returned (.bool R) ∧ Below w.heap.size w w') .ret { tmps := tmps, defers := [] } y'
      refine bodyPost_ret (v := .bool false) ?_ rfl ⟨ret_bool HF.out.symm, HB0.out.trans (h3.mono (by rw [HZ0.out]; omega))⟩
      rw [← h1]
      exact results_tmp rfl _ _ _
    case hN =>
      intro s8 s9 s10 s11 s12 s13 s14 s29 s30 s31 s32 s33 s34 s35 s36 s37 s38 s39 s40 s41 s42 s43 s44 s45 s46 s47 s48 s49 s50 s51 s52 s53 s54 s55 s56 s57 s58 s59 s60 s61 s62 s63 s64 s65 s66 s67 s68 s69 s70 s71 s72 s73 s74 s75 s76 s77 s78 s79 s80 s81 s82 s83 s84 s85 s86 s87 s88 s89 s90 s91 s92 s93 s94 s95 s96 s97 s98 s99 s100 s101 s102 s103 s104 s105 s106 s107 s108 s109 s110 s111 s112 s113 s114 s115 s116 s117 s118 s119 s120 s121 s122 s123 s124 s125 s126 s127 s128 s129 s130 s131 s132 s133 s134 s135 s136 s137 s138 s139 s140 s141 s142 s143 s144 s145 s146 s147 s148 s149 s150 s151 s152 s153 s154 s155 s156 s157 s158 s159 s160 s161 s162 s163 s164 s165 s166 s167 s168 s169 s170 s171 s172 s173 s174 s175 s176 s177 s178 s179 s180 s181 s182 s183 s184 s185 s186 s187 s188 s189 s190 s191 s192 s193 s194 s195 s196 s197 s198 s199 s200 s201 s202 s203 s204 s205 s206 s207 s208 s209 s210 s211 s212 s213 s214 s215 s216 s217 s218 s219 s220 s221 s222 s223 s224 s225 s226 s227 s228 s229 s230 s231 s232 s233 s234 s235 s236 s237 s238 s239 s240 s241 s242 s243 s244 s245 s246 s247 s248 s249 s250 s251 s252 s253 s254 s255 s256 s257 s258 s259 s260 s261 s262 s263 s264 s265 s266 s267 s268 s269 s270 s271 s272 s273 l2 gb2 cb2 gt2 ct2 go2 co2 ga2 m2 ca2 y' hT2
      refine HK2.out _ _ ?_
      have HT2 : Hid (TRw w0 y' xs (i + 1) l2 gb2 cb2 gt2 ct2 go2 co2 ga2 m2 ca2) := hT2
      clear hT2 HK2
      go_wp2_with fail
      go_roundw
      case rel => exact ⟨i + 1, l2, gb2, cb2, gt2, ct2, go2, co2, ga2, m2, ca2, rfl, by omega, by go_num, rfl, rfl, rfl, rfl, HT2.out⟩
      case measure => simp [intOf]; omega
end Go.Proofs.YteadglnenaiaaaaGreatDoor.W
