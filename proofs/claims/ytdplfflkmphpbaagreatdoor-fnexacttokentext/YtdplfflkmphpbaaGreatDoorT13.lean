import Derived.Test.YtdplfflkmphpbaaGreatDoorT08
import Derived.Test.YtdplfflkmphpbaaGreatDoorT11
import Derived.Test.YtdplfflkmphpbaaGreatDoorT12
import Derived.Deep.QuietTactic
import Derived.BigQuiet
set_option linter.unusedVariables false
set_option linter.unusedSimpArgs false
namespace Go.Proofs.YtdplfflkmphpbaaGreatDoor.W
open Go.RowKit
theorem l5Token_is (s : ByteArray) (hs : s.size ≤ 1048576) (i : Nat) (hi : i < s.size) (w : World) : Calls Tryz.prog 25 #[.string s, .int .i64 i] w fun e w' => GotQ s i e ∧ Below w.heap.size w w' := by
  cases hw : Pl.wch (Pl.byt s i)
  · by_cases h39 : Pl.byt s i = 39
    · exact l5Token_chr s hs i hi h39 w
    · by_cases h34 : Pl.byt s i = 34
      · exact l5Token_str s hs i hi h34 w
      · exact l5Token_sign s hs i hi hw h39 h34 w
  · exact l5Token_word s hs i hi hw w
theorem infotk : (Tryz.prog.info? 34).map (fun i => (i.zero, i.size, i.bytes)) = some (some (.agg #[.int .i64 0, .string ⟨#[]⟩, .int .i64 0, .int .i64 0, .int .i64 0]), 5, 48) := by kernel_rfl
theorem tk_app (ts : List Pl.Tk) (t : Pl.Tk) : Pl.Tk.all (ts ++ [t]) = Pl.Tk.all ts ++ t.cells := by simp [Pl.Tk.all]
def LxAll (s : ByteArray) (r : List Pl.Tk × Int × Int × Int) : Prop := (20000 < s.size ∧ r = ([], 1, 1, 1)) ∨ (s.size ≤ 20000 ∧ Pl.Lx s 0 [] r)
theorem LxAll.fn {s : ByteArray} {r r' : List Pl.Tk × Int × Int × Int} (h : LxAll s r) (h' : LxAll s r') : r = r' := by
  rcases h with ⟨a, b⟩ | ⟨a, b⟩ <;> rcases h' with ⟨a', b'⟩ | ⟨a', b'⟩
  · rw [b, b']
  · omega
  · omega
  · exact b.fn b'
def LexSaid (base : Nat) (s : ByteArray) (e : Ending) (w : World) : Prop := ∃ ts c l k v, LxAll s (ts, c, l, k) ∧ e = .returned (.tuple #[v, .int .i64 c, .int .i64 l, .int .i64 k]) ∧ w.ownsRow base 34 5 v ts.length (Pl.Tk.all ts)
theorem empty_own {w : World} {B g : Nat} (hg : w.heap[g]? = some (.cells #[] 34 (0, 0))) (hb : B ≤ g) : w.ownsRow B 34 5 (.slice (some ⟨g, 0, none⟩) 0 0) 0 (Pl.Tk.all []) := ⟨rfl, .inr ⟨g, 0, #[], rfl, hb, hg, Nat.le_refl _, Nat.zero_le _, rfl, rfl⟩⟩
theorem own_mono {w : World} {B B' k n : Nat} {e : TypeId} {v : Value} {xs : List Value} (h : w.ownsRow B e k v n xs) (hb : B' ≤ B) : w.ownsRow B' e k v n xs := by
  refine ⟨h.1, ?_⟩
  rcases h.2 with ⟨a, c⟩ | ⟨g, cap, cur, h0, hlo, hg, r⟩
  · exact .inl ⟨a, c⟩
  · exact .inr ⟨g, cap, cur, h0, by omega, hg, r⟩
theorem row5 (w : World) (a b c d f : Value) : ∀ j u, [a, b, c, d, f][j]? = some u → (w.alloc (.cells #[a, b, c, d, f] 34)).cell? ((⟨w.heap.size, 0, none⟩ : Addr).add j) = some u := by
  intro j u hj
  have hj5 : j < 5 := by
    rcases Nat.lt_or_ge j 5 with q | q
    · exact q
    · rw [List.getElem?_eq_none (by simpa using q)] at hj; cases hj
  have : (⟨w.heap.size, 0, none⟩ : Addr).add j = ⟨w.heap.size, j, none⟩ := by simp [Addr.add]; omega
  rw [this, cell_of_row _ _ j _ 34 (0, 0) (heap_alloc_new w _)]
  have h5 : j = 0 ∨ j = 1 ∨ j = 2 ∨ j = 3 ∨ j = 4 := by omega
  rcases h5 with rfl | rfl | rfl | rfl | rfl <;> exact hj
theorem own_formG {w : World} {B k n : Nat} {e : TypeId} {v : Value} {xs : List Value} (h : w.ownsRow B e k v n xs) : ∃ a cap, v = .slice a n cap := by
  rcases h.2 with ⟨rfl, e⟩ | ⟨g, cap, _, rfl, _⟩
  · exact ⟨none, 0, by rw [e]⟩
  · exact ⟨_, _, rfl⟩
theorem ret_lex {base : Nat} {s : ByteArray} {w : World} {ts : List Pl.Tk} {c l k c' l' k' : Int} {v : Value} (h : LxAll s (ts, c, l, k)) (hc : c' = c) (hl : l' = l) (hk : k' = k) (ho : w.ownsRow base 34 5 v ts.length (Pl.Tk.all ts)) : LexSaid base s (.returned (.tuple #[v, .int .i64 c', .int .i64 l', .int .i64 k'])) w := ⟨ts, c, l, k, v, h, by rw [hc, hl, hk], ho⟩
theorem results_tmp4 {fn : Func} {t u v x : Tmp} (h : fn.results = #[.tmp t, .tmp u, .tmp v, .tmp x]) (tmps : Array Value) (P : Program) (w : World) :
    (results fn tmps).run P w = .ok (.tuple #[tmps.getD t undef, tmps.getD u undef, tmps.getD v undef, tmps.getD x undef]) w := by
  simp [results, h]
set_option maxHeartbeats 16000000 in
set_option maxRecDepth 100000 in
theorem specLex_is (a : Option Addr) (len cap : Nat) (s : ByteArray) (hl : s.size = len) (hmx : len ≤ 1048576) (w : World) (hcv : ∀ u : World, Below w.heap.size w u → (convert 22 9 (.slice a len cap)).run Tryz.prog u = .ok (.string s) u) :
    Calls Tryz.prog 7 #[.slice a len cap] w fun e w' => LexSaid w.heap.size s e w' ∧ Below w.heap.size w w' := by
  obtain ⟨i0, hi, hz0, hz1, hz2⟩ := info_parts infotk
  have HCV : Hid (∀ u : World, Below w.heap.size w u → (convert 22 9 (.slice a len cap)).run Tryz.prog u = .ok (.string s) u) := hcv
  have HLN : Hid (s.size = len) := hl
  clear hcv hl
  by_cases hbig : 20000 < len
  · have hbig' : (20000 : Int) < len := by omega
    have HE : Hid ((w.alloc (.cells #[] 34)).ownsRow w.heap.size 34 5 (.slice (some ⟨w.heap.size, 0, none⟩) 0 0) 0 (Pl.Tk.all [])) := empty_own (heap_alloc_new w _) (Nat.le_refl _)
    go_enter Tryz.func7, Tryz.ntmps7
    go_wp2_with fail
    refine bodyPost_ret (results_tmp4 rfl _ _ _) rfl ?_
    exact ⟨ret_lex (.inl ⟨by rw [HLN.out]; exact hbig, rfl⟩) rfl rfl rfl HE.out, below_allocL _ _⟩
  have hbig' : ¬ (20000 : Int) < len := by omega
  have hsz : s.size ≤ 20000 := by rw [HLN.out]; omega
  have hcv1 := HCV.out _ (below_allocL w (.cells #[] 34))
  have HLX : Hid (∀ r, Pl.Lx s 0 [] r → LxAll s r) := fun r h => .inr ⟨hsz, h⟩
  go_enter Tryz.func7, Tryz.ntmps7
  go_wp2_with fail
  obtain ⟨W1, hW1⟩ : ∃ W1, W1 = (w.alloc (.cells #[] 34)).alloc (.cells #[] 34) := ⟨_, rfl⟩
  rw [← hW1]
  have HO0 : Hid (W1.ownsRow (w.heap.size + 1) 34 5 (.slice (some ⟨w.heap.size + 1, 0, none⟩) 0 0) 0 (Pl.Tk.all [])) := by rw [hW1]; exact empty_own (by have := heap_alloc_new (w.alloc (.cells #[] 34)) (.cells #[] 34); simpa using this) (Nat.le_refl _)
  have HN0 : Hid (W1.heap[w.heap.size]? = some (.cells #[] 34 (0, 0))) := by rw [hW1]; exact (Below.heap_alloc _ _ _ (by simp)).trans (heap_alloc_new w _)
  have HW1 : Hid (Below w.heap.size w W1) := by rw [hW1]; exact (below_allocL _ _).trans ((below_allocL _ _).mono (by simp))
  have hW1z : W1.heap.size = w.heap.size + 2 := by rw [hW1]; simp
  have HZ1 : Hid (W1.heap.size = w.heap.size + 2) := hW1z
  clear hW1 hW1z hcv1
  go_loopw [8, 9, 10, 11] (fun v x9 x10 x11 wr => ∃ (k : Nat) (acc : List Pl.Tk), k ≤ s.size ∧ x11 = .int .i64 k ∧ x9 = .int .i64 (Pl.ln s k) ∧ x10 = .int .i64 (Pl.cn s k) ∧ acc.length ≤ 6000 ∧ wr.ownsRow (w.heap.size + 1) 34 5 v acc.length (Pl.Tk.all acc) ∧ Below (w.heap.size + 1) W1 wr ∧ ∀ r, Pl.Lx s k acc r → Pl.Lx s 0 [] r) (fun _ _ _ x _ => s.size - (intOf x).toNat)
  case atStart => exact ⟨0, [], Nat.zero_le _, rfl, rfl, rfl, by simp, HO0.out, Below.refl _ _, fun r h => h⟩
  case round =>
    obtain ⟨k, acc, hk, rfl, rfl, rfl, hacc, hown, hbel, hq⟩ := hrel
    obtain ⟨ra, rc, rfl⟩ := own_formG hown
    have HO : Hid (wr.ownsRow (w.heap.size + 1) 34 5 _ acc.length (Pl.Tk.all acc)) := hown
    have HB1 : Hid (Below (w.heap.size + 1) W1 wr) := hbel
    have HB : Hid (Below w.heap.size w wr) := HW1.out.trans (hbel.mono (by omega))
    have HQ : Hid (∀ r, Pl.Lx s k acc r → Pl.Lx s 0 [] r) := hq
    have HNN : Hid (wr.heap[w.heap.size]? = some (.cells #[] 34 (0, 0))) := (hbel.block _ (by omega)).trans HN0.out
    have HSZ : Hid (w.heap.size + 2 ≤ wr.heap.size) := by have := hbel.size; have := HZ1.out; show _ ≤ _; omega
    clear hown hbel hq HO0
    have HSK : Hid (∀ u : World, Calls Tryz.prog 23 #[.string s, .int .i64 k] u fun e w' => SkS s k e ∧ w' = u) := fun u => l5Skip_is s (by omega) k hk u
    obtain ⟨a0, a1⟩ := Pl.ln_b s k
    obtain ⟨b0, b1⟩ := Pl.cn_b s k
    go_wp2_with fail
    refine (HSK.out _).mono ?_
    rintro e u1 ⟨⟨j, b, hsk, hb⟩, hu1⟩
    rw [hu1]
    clear hu1 HSK
    obtain ⟨hkj, hjs, hop⟩ := hsk.le
    have hj : j ≤ s.size := hjs hk
    rcases hb with ⟨rfl, rfl⟩ | ⟨rfl, q, rfl⟩
    rotate_left
    · have HF : Hid (Pl.Lx s 0 [] ([], 3, Pl.ln s j, Pl.cn s j)) := HQ.out _ (.opn hsk)
      have HPL : Hid (∀ u : World, Calls Tryz.prog 24 #[.string s, .int .i64 j] u fun e w' => e = .returned (.tuple #[.int .i64 (Pl.ln s j), .int .i64 (Pl.cn s j)]) ∧ w' = u) := fun u => l5Place_is s (by omega) j hj u
      clear hsk hop hjs
      go_wp2_with (go_at_call 24; refine (HPL.out _).mono ?_; rintro e u1 ⟨rfl, hu1⟩; rw [hu1]; clear hu1)
      refine bodyPost_ret (results_tmp4 rfl _ _ _) rfl ?_
      exact ⟨ret_lex (HLX.out _ HF.out) rfl rfl rfl (empty_own HNN.out (Nat.le_refl _)), HB.out⟩
    have HS : Hid (Pl.Sk s k j true) := hsk
    clear hsk hop hjs
    go_wp2_with fail
    go_loop [9, 10, 11] (fun x9 x10 x11 => ∃ m : Nat, k ≤ m ∧ m ≤ j ∧ x11 = .int .i64 m ∧ x9 = .int .i64 (Pl.ln s m) ∧ x10 = .int .i64 (Pl.cn s m)) (fun _ _ x => j - (intOf x).toNat)
    case atStart => exact ⟨k, Nat.le_refl _, hkj, rfl, rfl, rfl⟩
    case round =>
      obtain ⟨m, hm1, hm2, rfl, rfl, rfl⟩ := hrel
      obtain ⟨l0, l1⟩ := Pl.ln_b s m
      obtain ⟨d0, d1⟩ := Pl.cn_b s m
      by_cases hlt : m < j
      · have hlt' : (m : Int) < j := by omega
        have hms : (m : Int) < s.size := by omega
        have hg := Pl.byt_get s m (by omega)
        have H1 : Hid (Pl.ln s (m + 1) = if Pl.byt s m = 10 then Pl.ln s m + 1 else Pl.ln s m) := rfl
        have H2 : Hid (Pl.cn s (m + 1) = if Pl.byt s m = 10 then 1 else Pl.cn s m + 1) := rfl
        obtain ⟨c, hc⟩ : ∃ c, c = Pl.byt s m := ⟨_, rfl⟩
        obtain ⟨A, hA⟩ : ∃ A, A = Pl.ln s m := ⟨_, rfl⟩
        obtain ⟨B, hB⟩ : ∃ B, B = Pl.cn s m := ⟨_, rfl⟩
        rw [← hc] at hg H1 H2
        rw [← hA] at H1 l0 l1 ⊢
        rw [← hB] at H2 d0 d1 ⊢
        clear hc hA hB
        by_cases h10 : c = 10
        · have e1 : (c == 10) = true := by simp [h10]
          have K1 : Hid (Pl.ln s (m + 1) = A + 1) := H1.out.trans (if_pos h10)
          have K2 : Hid (Pl.cn s (m + 1) = 1) := H2.out.trans (if_pos h10)
          clear h10 H1 H2
          go_wp2_with fail
          go_round
          case rel => exact ⟨m + 1, by omega, by omega, by go_num, by rw [K1.out], by rw [K2.out]⟩
          case measure => simp [intOf]; omega
        · have e1 : (c == 10) = false := by simp [h10]
          have K1 : Hid (Pl.ln s (m + 1) = A) := H1.out.trans (if_neg h10)
          have K2 : Hid (Pl.cn s (m + 1) = B + 1) := H2.out.trans (if_neg h10)
          clear h10 H1 H2
          go_wp2_with fail
          go_round
          case rel => exact ⟨m + 1, by omega, by omega, by go_num, by rw [K1.out], by rw [K2.out]⟩
          case measure => simp [intOf]; omega
      · have hmj : m = j := by omega
        subst hmj
        have hlt' : ¬ (m : Int) < m := by omega
        by_cases hend : m = s.size
        · have HF : Hid (Pl.Lx s 0 [] (acc ++ [Pl.tkEnd s m], 0, 0, 0)) := HQ.out _ (.fin HS.out hend)
          have eend : ((m : Int) == (s.size : Int)) = true := by simp [hend]
          have HTE : Hid ((Pl.tkEnd s m).cells = [.int .i64 0, .string ⟨#[]⟩, .int .i64 0, .int .i64 (Pl.ln s m), .int .i64 (Pl.cn s m)]) := rfl
          obtain ⟨A, hA⟩ : ∃ A, A = Pl.ln s m := ⟨_, rfl⟩
          obtain ⟨B, hB⟩ : ∃ B, B = Pl.cn s m := ⟨_, rfl⟩
          rw [← hA] at HTE l0 l1 ⊢
          rw [← hB] at HTE d0 d1 ⊢
          clear hend hA hB
          have HX : Hid ((wr.alloc (.cells #[.int .i64 0, .string ⟨#[]⟩, .int .i64 0, .int .i64 A, .int .i64 B] 34)).ownsRow (w.heap.size + 1) 34 5 _ acc.length (Pl.Tk.all acc)) := HO.out.alloc _
          have NX : Hid _ := row5 wr (.int .i64 0) (.string ⟨#[]⟩) (.int .i64 0) (.int .i64 A) (.int .i64 B)
          go_wp2_with (at_builtin; refine wpList_append_own _ rfl (.tmp 59) (.tmp 63) 23 rfl (w.heap.size + 1) 34 i0 (.agg #[.int .i64 0, .string ⟨#[]⟩, .int .i64 0, .int .i64 0, .int .i64 0]) 5 48 Tryz.underlying23 hi hz0 hz1 hz2 rfl (by decide) _ _ _ rfl HX.out ⟨wr.heap.size, 0, none⟩ 1 1 [.int .i64 0, .string ⟨#[]⟩, .int .i64 0, .int .i64 A, .int .i64 B] rfl rfl NX.out (by intro u hu; simp at hu; rcases hu with rfl | rfl | rfl | rfl | rfl <;> rfl) (by unfold maxLen; omega) (by omega) (by have := HSZ.out; simp; omega) ?_; intro v6 w6 hown6 hgrow6 _)
          refine bodyPost_ret (results_tmp4 rfl _ _ _) rfl ?_
          refine ⟨ret_lex (HLX.out _ HF.out) rfl rfl rfl ?_, ?_⟩
          · rw [tk_app, List.length_append, HTE.out]; exact own_mono hown6 (by omega)
          · exact (HB.out.alloc HB.out.size _).grown hgrow6 (Nat.le_trans HB.out.size (by simp)) (fun x hx => by have := (HX.out.lt x hx).1; omega)
        · have eend : ((m : Int) == (s.size : Int)) = false := by simp; omega
          have hms : m < s.size := by omega
          have HTK : Hid (∀ u : World, Calls Tryz.prog 25 #[.string s, .int .i64 m] u fun e w' => GotQ s m e ∧ Below u.heap.size u w') := fun u => l5Token_is s (by omega) m hms u
          obtain ⟨A, hA⟩ : ∃ A, A = Pl.ln s m := ⟨_, rfl⟩
          obtain ⟨B, hB⟩ : ∃ B, B = Pl.cn s m := ⟨_, rfl⟩
          have HAA : Hid (A = Pl.ln s m) := hA
          have HBB : Hid (B = Pl.cn s m) := hB
          rw [← hA] at l0 l1 ⊢
          rw [← hB] at d0 d1 ⊢
          clear hA hB hend
          go_wp2_with fail
          refine (HTK.out _).mono ?_
          rintro e u2 ⟨hgot, g2⟩
          have G2 : Hid (Below wr.heap.size wr u2) := g2
          have hzw : wr.heap.size ≤ u2.heap.size := g2.size
          have HN2 : Hid (∀ x, (u2.alloc x).heap[w.heap.size]? = some (.cells #[] 34 (0, 0))) := fun x => ((below_allocL u2 x).block w.heap.size (by have := HSZ.out; omega)).trans ((g2.block _ (by have := HSZ.out; omega)).trans HNN.out)
          have BB2 : Hid (∀ x, Below w.heap.size w (u2.alloc x)) := fun x => (HB.out.trans (g2.mono HB.out.size)).trans ((below_allocL u2 x).mono (Nat.le_trans HB.out.size hzw))
          have BW2 : Hid (Below (w.heap.size + 1) W1 u2) := HB1.out.trans (g2.mono (by have := HSZ.out; omega))
          clear g2 HTK
          unfold GotQ at hgot
          cases htk : Pl.tokF s m with
          | error f =>
            rw [htk] at hgot
            subst hgot
            have HF : Hid (Pl.Lx s 0 [] ([], f, Pl.ln s m, Pl.cn s m)) := HQ.out _ (.bad HS.out hms htk)
            have hf0 : f ≠ 0 := Pl.tokF_f htk
            have e1 : (f != 0) = true := by simp [hf0]
            have e2 : (f == 0) = false := by simp [hf0]
            clear hf0 htk
            go_wp2_with fail
            go_quiet (fail)
            go_wp2_with fail
            refine bodyPost_ret (results_tmp4 rfl _ _ _) rfl ?_
            refine ⟨ret_lex (HLX.out _ HF.out) rfl HAA.out HBB.out (empty_own ?_ (Nat.le_refl _)), ?_⟩
            · exact HN2.out _
            · repeat (first | exact BB2.out _ | refine below_drewQ ?_ _)
          | ok r =>
            obtain ⟨kd, S, N, n⟩ := r
            rw [htk] at hgot
            subst hgot
            obtain ⟨⟨n1, n2⟩, ⟨k1, k2⟩, n3⟩ := Pl.tokF_n hms htk
            by_cases hmany : 6000 ≤ acc.length
            · have HF : Hid (Pl.Lx s 0 [] ([], 9, Pl.ln s m, Pl.cn s m)) := HQ.out _ (.many HS.out hms htk hmany)
              have hmany' : (6000 : Int) ≤ acc.length := by omega
              clear htk n3
              go_wp2_with fail
              refine bodyPost_ret (results_tmp4 rfl _ _ _) rfl ?_
              exact ⟨ret_lex (HLX.out _ HF.out) rfl HAA.out HBB.out (empty_own (HN2.out _) (Nat.le_refl _)), BB2.out _⟩
            · have HF : Hid (∀ r, Pl.Lx s n (acc ++ [⟨kd, S, N, Pl.ln s m, Pl.cn s m⟩]) r → Pl.Lx s 0 [] r) := fun r hr => HQ.out _ (.go HS.out hms htk (by omega) hr)
              have hmany' : ¬ (6000 : Int) ≤ acc.length := by omega
              obtain ⟨q1, q2⟩ := Pl.ln_same s m (n - m) (fun x h1 h2 => n3 x h1 (by omega))
              rw [show m + (n - m) = n by omega, ← HAA.out] at q1
              rw [show m + (n - m) = n by omega, ← HBB.out] at q2
              have K1 : Hid (Pl.ln s n = A) := q1
              have K2 : Hid (Pl.cn s n = B + ((n : Int) - (m : Int))) := by show Pl.cn s n = _; rw [q2]; omega
              rw [← HAA.out, ← HBB.out] at HF
              clear htk n3 q1 q2
              have HX : Hid (((u2.alloc (.cells #[.int .i64 kd, .string S, .int .i64 N, .int .i64 A, .int .i64 B, .int .i64 n, .int .i64 0, .int .i64 0] 45)).alloc (.cells #[.int .i64 kd, .string S, .int .i64 N, .int .i64 A, .int .i64 B] 34)).ownsRow (w.heap.size + 1) 34 5 _ acc.length (Pl.Tk.all acc)) := ((ow_keep HO.out G2.out).alloc _).alloc _
              have NX : Hid (∀ j u, [Value.int .i64 kd, .string S, .int .i64 N, .int .i64 A, .int .i64 B][j]? = some u → ((u2.alloc (.cells #[.int .i64 kd, .string S, .int .i64 N, .int .i64 A, .int .i64 B, .int .i64 n, .int .i64 0, .int .i64 0] 45)).alloc (.cells #[.int .i64 kd, .string S, .int .i64 N, .int .i64 A, .int .i64 B] 34)).cell? ((⟨u2.heap.size + 1, 0, none⟩ : Addr).add j) = some u) := by
                have := row5 (u2.alloc (.cells #[.int .i64 kd, .string S, .int .i64 N, .int .i64 A, .int .i64 B, .int .i64 n, .int .i64 0, .int .i64 0] 45)) (.int .i64 kd) (.string S) (.int .i64 N) (.int .i64 A) (.int .i64 B)
                rw [World.size_alloc] at this
                exact this
              have hnm : (n : Int) ≤ s.size := by omega
              have CE : Hid (∀ w6 : World, ((u2.alloc (.cells #[.int .i64 kd, .string S, .int .i64 N, .int .i64 A, .int .i64 B, .int .i64 n, .int .i64 0, .int .i64 0] 45)).alloc (.cells #[.int .i64 kd, .string S, .int .i64 N, .int .i64 A, .int .i64 B] 34)).grownBy w6 (Value.slice ra acc.length rc).ownBlock → w6.cell? ⟨u2.heap.size, 5, none⟩ = some (.int .i64 n)) := fun w6 hg => by
                have hb := hg.block u2.heap.size (by simp; omega) (fun e => by have := (HO.out.lt _ e.symm).2; omega)
                exact cell_of_row w6 u2.heap.size 5 _ 45 (0, 0) (hb.trans ((Below.heap_alloc _ _ _ (by simp)).trans (heap_alloc_new u2 _)))
              go_wp2_with (at_builtin; refine wpList_append_own _ rfl (.tmp 88) (.tmp 91) 23 rfl (w.heap.size + 1) 34 i0 (.agg #[.int .i64 0, .string ⟨#[]⟩, .int .i64 0, .int .i64 0, .int .i64 0]) 5 48 Tryz.underlying23 hi hz0 hz1 hz2 rfl (by decide) _ _ _ rfl HX.out ⟨u2.heap.size + 1, 0, none⟩ 1 1 [.int .i64 kd, .string S, .int .i64 N, .int .i64 A, .int .i64 B] rfl rfl NX.out (by intro u hu; simp at hu; rcases hu with rfl | rfl | rfl | rfl | rfl <;> rfl) (by unfold maxLen; omega) (by omega) (by have := HSZ.out; simp; omega) ?_; intro v6 w6 hown6 hgrow6 _; have hc5 := CE.out w6 hgrow6)
              go_roundw
              case rel =>
                refine ⟨n, acc ++ [⟨kd, S, N, A, B⟩], n2, rfl, by rw [K1.out], by rw [K2.out], by rw [List.length_append]; simp; omega, ?_, ?_, HF.out⟩
                · rw [tk_app, List.length_append]; exact hown6
                · exact ((BW2.out.alloc (by have := HSZ.out; omega) _).alloc (by have := HSZ.out; simp; omega) _).grown hgrow6 (by have := HSZ.out; simp; omega) (fun x hx => (HX.out.lt x hx).1)
              case measure => simp [intOf]; omega
end Go.Proofs.YtdplfflkmphpbaaGreatDoor.W
