import Derived.Test.YteadglnenaiaaaaGreatDoorK11
import Derived.Test.YteadglnenaiaaaaGreatDoorK09
import Derived.Shelf.Strings.SlTrimAscii
import Derived.Test.YteadglnenaiaaaaGreatDoorK16
import Derived.Test.YteadglnenaiaaaaGreatDoorK19
set_option linter.unusedVariables false
set_option linter.unusedSimpArgs false
namespace Go.Proofs.YteadglnenaiaaaaGreatDoor.Pl
theorem at_byt (D : ByteArray) (j : Nat) (x : UInt8) : D.data.toList[j]? = some x ↔ (j < D.size ∧ byt D j = ((x.toNat : Nat) : Int)) := by
  obtain ⟨⟨l⟩⟩ := D
  show l[j]? = some x ↔ (j < l.length ∧ (((l.getD j 0).toNat : Nat) : Int) = ((x.toNat : Nat) : Int))
  rcases Nat.lt_or_ge j l.length with q | q
  · rw [List.getElem?_eq_getElem q, List.getD_eq_getElem?_getD, List.getElem?_eq_getElem q]
    simp only [Option.some.injEq, Option.getD_some]
    exact ⟨fun h => ⟨q, by rw [h]⟩, fun h => UInt8.toNat_inj.1 (by have := h.2; omega)⟩
  · rw [List.getElem?_eq_none q]
    exact ⟨fun h => (by cases h), fun h => by omega⟩
theorem occ1 (l : List UInt8) (a : UInt8) (j : Nat) : Lib.occAt l [a] j = true ↔ l[j]? = some a := by
  unfold Lib.occAt
  rw [← List.head?_drop]
  cases l.drop j with
  | nil => simp [List.isPrefixOf]
  | cons x t => simp [List.isPrefixOf]; exact eq_comm
theorem occ2 (l : List UInt8) (a b : UInt8) (j : Nat) : Lib.occAt l [a, b] j = true ↔ (l[j]? = some a ∧ l[j + 1]? = some b) := by
  unfold Lib.occAt
  have h1 : l[j]? = (l.drop j)[0]? := by simp
  have h2 : l[j + 1]? = (l.drop j)[1]? := by simp
  rw [h1, h2]
  rcases l.drop j with _ | ⟨x, _ | ⟨y, t⟩⟩
  · simp [List.isPrefixOf]
  · simp [List.isPrefixOf]
  · simp [List.isPrefixOf]; exact ⟨fun h => ⟨h.1.symm, h.2.symm⟩, fun h => ⟨h.1.symm, h.2.symm⟩⟩
theorem cut1 (t : ByteArray) : ∃ k, LEnd t 0 k ∧ (Lib.cut t.data.toList [10]).1.length = k := by
  have hsz : t.data.toList.length = t.size := by simp
  rcases Lib.index_spec t.data.toList [10] with ⟨h1, h2⟩ | ⟨i, h1, h2, h3, h4⟩
  · refine ⟨t.size, ⟨Nat.zero_le _, Nat.le_refl _, fun m _ hm e => ?_, .inl rfl⟩, ?_⟩
    · have := h2 m (by omega)
      have q : Lib.occAt t.data.toList [10] m = true := (occ1 _ _ _).2 ((at_byt t m 10).2 ⟨hm, e⟩)
      rw [this] at q
      cases q
    · unfold Lib.cut
      rw [h1, if_neg (by decide)]
      exact hsz
  · have hi := (at_byt t i 10).1 ((occ1 _ _ _).1 h3)
    refine ⟨i, ⟨Nat.zero_le _, by omega, fun m _ hm e => ?_, .inr hi.2⟩, ?_⟩
    · have := h4 m hm
      have q : Lib.occAt t.data.toList [10] m = true := (occ1 _ _ _).2 ((at_byt t m 10).2 ⟨by omega, e⟩)
      rw [this] at q
      cases q
    · unfold Lib.cut
      rw [h1, if_pos (by omega)]
      simp
      omega
theorem cut2 (t : ByteArray) : (∃ k, BEnd t 0 k ∧ (Lib.cut t.data.toList [42, 47]).2.2 = true ∧ (Lib.cut t.data.toList [42, 47]).1.length = k) ∨ (NEnd t 0 ∧ (Lib.cut t.data.toList [42, 47]).2.2 = false) := by
  have hsz : t.data.toList.length = t.size := by simp
  have key : ∀ m, m + 1 < t.size → (byt t m = 42 ∧ byt t (m + 1) = 47) → Lib.occAt t.data.toList [42, 47] m = true := fun m hm e =>
    (occ2 _ _ _ _).2 ⟨(at_byt t m 42).2 ⟨by omega, e.1⟩, (at_byt t (m + 1) 47).2 ⟨hm, e.2⟩⟩
  rcases Lib.index_spec t.data.toList [42, 47] with ⟨h1, h2⟩ | ⟨i, h1, h2, h3, h4⟩
  · right
    refine ⟨fun m _ hm e => ?_, ?_⟩
    · have q := key m hm e
      rw [h2 m (by omega)] at q
      cases q
    · unfold Lib.cut
      rw [h1, if_neg (by decide)]
  · left
    obtain ⟨q1, q2⟩ := (occ2 _ _ _ _).1 h3
    have a1 := (at_byt t i 42).1 q1
    have a2 := (at_byt t (i + 1) 47).1 q2
    refine ⟨i, ⟨Nat.zero_le _, a2.1, ⟨a1.2, a2.2⟩, fun m _ hm e => ?_⟩, ?_, ?_⟩
    · have q := key m (by omega) e
      rw [h4 m hm] at q
      cases q
    · unfold Lib.cut
      rw [h1, if_pos (by omega)]
    · unfold Lib.cut
      rw [h1, if_pos (by omega)]
      simp
      omega
theorem blk_con (x : UInt8) : List.contains [32, 9, 10, 11, 12, 13] x = blk ((x.toNat : Nat) : Int) := by
  have : ∀ n : Nat, n < 256 → List.contains [32, 9, 10, 11, 12, 13] (UInt8.ofNat n) = blk (n : Int) := by decide +kernel
  have h := this x.toNat x.toNat_lt
  rwa [UInt8.ofNat_toNat] at h
theorem tw_run (p : UInt8 → Bool) : ∀ l : List UInt8, (l.takeWhile p).length + (l.dropWhile p).length = l.length ∧ (∀ j, j < (l.takeWhile p).length → p (l.getD j 0) = true) ∧ ((l.takeWhile p).length = l.length ∨ p (l.getD (l.takeWhile p).length 0) = false)
  | [] => ⟨rfl, fun j hj => absurd hj (Nat.not_lt_zero _), .inl rfl⟩
  | x :: l => by
    obtain ⟨h1, h2, h3⟩ := tw_run p l
    cases hp : p x
    · rw [List.takeWhile_cons_of_neg (by simp [hp]), List.dropWhile_cons_of_neg (by simp [hp])]
      exact ⟨by simp, fun j hj => absurd hj (Nat.not_lt_zero _), .inr (by simpa using hp)⟩
    · rw [List.takeWhile_cons_of_pos hp, List.dropWhile_cons_of_pos hp]
      refine ⟨by simp; omega, fun j hj => ?_, ?_⟩
      · rcases j with _ | j
        · simpa using hp
        · simp at hj ⊢
          have := h2 j hj
          simpa using this
      · rcases h3 with e | e
        · left; simp; exact e
        · right; simpa using e
theorem trimL (t : ByteArray) : (⟨(Lib.trimLeftS t.data.toList [32, 9, 10, 11, 12, 13]).toArray⟩ : ByteArray).size = t.size - run blk t := by
  obtain ⟨h1, h2, h3⟩ := tw_run (fun x => List.contains [32, 9, 10, 11, 12, 13] x) t.data.toList
  have hsz : t.data.toList.length = t.size := by simp
  have hr : run blk t = (t.data.toList.takeWhile (fun x => List.contains [32, 9, 10, 11, 12, 13] x)).length := run_eq ⟨by omega, fun j hj => by
    have := h2 j hj
    rw [blk_con] at this
    exact this, by
    rcases h3 with e | e
    · left; omega
    · right; rw [blk_con] at e; exact e⟩
  show (Lib.trimLeftS t.data.toList [32, 9, 10, 11, 12, 13]).toArray.size = _
  rw [List.size_toArray]
  unfold Lib.trimLeftS
  omega
theorem pre2L (D : ByteArray) (a b : UInt8) : Lib.hasPrefix D.data.toList (⟨#[a, b]⟩ : ByteArray).data.toList = true ↔ (0 + 1 < D.size ∧ byt D 0 = ((a.toNat : Nat) : Int) ∧ byt D (0 + 1) = ((b.toNat : Nat) : Int)) := by
  have : Lib.hasPrefix D.data.toList (⟨#[a, b]⟩ : ByteArray).data.toList = Lib.occAt D.data.toList [a, b] 0 := by unfold Lib.occAt; rfl
  rw [this, occ2, at_byt, at_byt]
  constructor
  · rintro ⟨⟨_, h1⟩, h2, h3⟩; exact ⟨h2, h1, h3⟩
  · rintro ⟨h1, h2, h3⟩; exact ⟨⟨by omega, h2⟩, h1, h3⟩
end Go.Proofs.YteadglnenaiaaaaGreatDoor.Pl
namespace Go.Proofs.YteadglnenaiaaaaGreatDoor.W
open Go.RowKit
def BlkI (t : ByteArray) (n : Nat) (b : Bool) : Prop := (Pl.lc t 0 ∧ Pl.LEnd t 0 n ∧ b = true) ∨ (Pl.bc t 0 ∧ (∃ k, Pl.BEnd t 2 k ∧ n = k + 2) ∧ b = true) ∨ (Pl.bc t 0 ∧ Pl.NEnd t 2 ∧ n = 0 ∧ b = false) ∨ (¬ Pl.lc t 0 ∧ ¬ Pl.bc t 0 ∧ n = Pl.run Pl.blk t ∧ b = true)
theorem below_drewV {B : Nat} {a w : World} (h : Below B a w) (m : Nat) : Below B a (w.drewN m) := ⟨h.os, h.tape, h.output, h.size, h.block⟩
set_option maxRecDepth 100000 in
set_option maxHeartbeats 4000000 in
theorem blankSize_is (t : ByteArray) (ht : t.size ≤ 1048576) (w : World) (hE : Glo w) : Calls Tryz.prog 122 #[.string t] w fun e w' => (∃ n b, BlkI t n b ∧ e = .returned (.tuple #[.int .i64 n, .bool b])) ∧ Below w.heap.size w w' := by
  have hp1 := Pl.pre2L t 47 47
  have hp2 := Pl.pre2L t 47 42
  have HP1 : Hid (∀ u : World, Calls Tryz.prog 88 #[.string t, .string ⟨#[47, 47]⟩] u fun e w' => e = .returned (.bool (Lib.hasPrefix t.data.toList (⟨#[47, 47]⟩ : ByteArray).data.toList)) ∧ w' = u) := fun u => Tryz.strings_HasPrefix t ⟨#[47, 47]⟩ u
  have HP2 : Hid (∀ u : World, Calls Tryz.prog 88 #[.string t, .string ⟨#[47, 42]⟩] u fun e w' => e = .returned (.bool (Lib.hasPrefix t.data.toList (⟨#[47, 42]⟩ : ByteArray).data.toList)) ∧ w' = u) := fun u => Tryz.strings_HasPrefix t ⟨#[47, 42]⟩ u
  obtain ⟨_, _, m, hm⟩ := hE
  obtain ⟨P1, hP1⟩ : ∃ P1, P1 = Lib.hasPrefix t.data.toList (⟨#[47, 47]⟩ : ByteArray).data.toList := ⟨_, rfl⟩
  obtain ⟨P2, hP2⟩ : ∃ P2, P2 = Lib.hasPrefix t.data.toList (⟨#[47, 42]⟩ : ByteArray).data.toList := ⟨_, rfl⟩
  rw [← hP1] at hp1 HP1
  rw [← hP2] at hp2 HP2
  clear hP1 hP2
  have HM : Hid (w.cell? ⟨3, 0, none⟩ = some (.int .i64 m)) := hm
  clear hm
  cases P1
  · have hnl : ¬ Pl.lc t 0 := fun h => absurd (hp1.2 h) (by decide)
    cases P2
    · have hnb : ¬ Pl.bc t 0 := fun h => absurd (hp2.2 h) (by decide)
      have HB : Hid (BlkI t (Pl.run Pl.blk t) true) := .inr (.inr (.inr ⟨hnl, hnb, rfl, rfl⟩))
      have hr := Pl.run_le Pl.blk t
      have HTL : Hid (∀ u : World, Calls Tryz.prog 138 #[.string t, .string ⟨#[32, 9, 10, 11, 12, 13]⟩] u fun e w' => e = .returned (.string ⟨(Lib.trimLeftS t.data.toList [32, 9, 10, 11, 12, 13]).toArray⟩) ∧ Below u.heap.size u w') := fun u => Any.strings_TrimLeft_laid Tryz.lays161 (by kernel_rfl) t ⟨#[32, 9, 10, 11, 12, 13]⟩ u (by decide) (ascii_of_all (by decide))
      have hsz := Pl.trimL t
      obtain ⟨D, hD⟩ : ∃ D : ByteArray, D = ⟨(Lib.trimLeftS t.data.toList [32, 9, 10, 11, 12, 13]).toArray⟩ := ⟨_, rfl⟩
      rw [← hD] at HTL hsz
      obtain ⟨n, hn⟩ : ∃ n, n = Pl.run Pl.blk t := ⟨_, rfl⟩
      rw [← hn] at HB hr hsz
      have HSZ : Hid (D.size = t.size - n) := hsz
      have hDt : (D.size : Int) ≤ t.size := by omega
      clear hD hn hp1 hp2 hnl hnb hsz
      go_enter Tryz.func122, Tryz.ntmps122
      go_wp2_with (first | (go_at_call 88; first | (refine (HP1.out _).mono ?_; rintro e uu ⟨rfl, rfl⟩) | (refine (HP2.out _).mono ?_; rintro e uu ⟨rfl, rfl⟩)) | (go_at_call 138; refine (HTL.out _).mono ?_; rintro e u2 ⟨rfl, g2⟩; have G2 : Hid _ := g2; clear g2))
      go_ret2
      exact ⟨⟨n, true, HB.out, by have := HSZ.out; show Ending.returned (.tuple #[.int .i64 ((t.size : Int) - (D.size : Int)), .bool true]) = _; rw [show (t.size : Int) - (D.size : Int) = (n : Int) by omega]⟩, G2.out⟩
    · have hb : Pl.bc t 0 := hp2.1 rfl
      have h2 : 2 ≤ t.size := by have := hb.1; omega
      have h2' : (2 : Int) ≤ t.size := by omega
      have hc2 := Pl.cut2 (t.extract 2 t.size)
      have HCT : Hid (∀ u : World, u.cell? ⟨3, 0, none⟩ = some (.int .i64 m) → Calls Tryz.prog 137 #[.string (t.extract 2 t.size), .string ⟨#[42, 47]⟩] u _) := fun u hu => Tryz.strings_Cut (t.extract 2 t.size) ⟨#[42, 47]⟩ m u (by rw [Pl.ext_sz]; omega) hu
      have HBE : Hid (∀ k, Pl.BEnd (t.extract 2 t.size) 0 k → Pl.BEnd t 2 (k + 2)) := fun k h => by
        obtain ⟨h1, h3, h4, h5⟩ := h
        rw [Pl.ext_sz] at h3
        rw [Pl.ext_byt t 2 k (by omega), Pl.ext_byt t 2 (k + 1) (by omega), show 2 + (k + 1) = 2 + k + 1 by omega, show 2 + k = k + 2 by omega] at h4
        refine ⟨by omega, by omega, h4, fun x hx1 hx2 e => ?_⟩
        have := h5 (x - 2) (Nat.zero_le _) (by omega)
        rw [Pl.ext_byt t 2 (x - 2) (by omega), Pl.ext_byt t 2 (x - 2 + 1) (by omega), show 2 + (x - 2 + 1) = x + 1 by omega, show 2 + (x - 2) = x by omega] at this
        exact this e
      have HNE : Hid (Pl.NEnd (t.extract 2 t.size) 0 → Pl.NEnd t 2) := fun h x hx1 hx2 e => by
        have := h (x - 2) (Nat.zero_le _) (by rw [Pl.ext_sz]; omega)
        rw [Pl.ext_byt t 2 (x - 2) (by omega), Pl.ext_byt t 2 (x - 2 + 1) (by omega), show 2 + (x - 2 + 1) = x + 1 by omega, show 2 + (x - 2) = x by omega] at this
        exact this e
      obtain ⟨c1, hc1⟩ : ∃ c1 : ByteArray, c1 = ⟨(Lib.cut (t.extract 2 t.size).data.toList (⟨#[42, 47]⟩ : ByteArray).data.toList).1.toArray⟩ := ⟨_, rfl⟩
      have hc1s : c1.size = (Lib.cut (t.extract 2 t.size).data.toList [42, 47]).1.length := by rw [hc1]; exact List.size_toArray
      obtain ⟨c2, hc2'⟩ : ∃ c2, c2 = (Lib.cut (t.extract 2 t.size).data.toList (⟨#[42, 47]⟩ : ByteArray).data.toList).2.2 := ⟨_, rfl⟩
      rw [← hc1, ← hc2'] at HCT
      have hc22 : (Lib.cut (t.extract 2 t.size).data.toList [42, 47]).2.2 = c2 := hc2'.symm
      rw [hc22, ← hc1s] at hc2
      clear hc1 hc2' hc1s hc22 hp1 hp2 hnl
      rcases hc2 with ⟨k, hbe, rfl, hcs⟩ | ⟨hne, rfl⟩
      · have HB : Hid (BlkI t (k + 2 + 2) true) := .inr (.inl ⟨hb, ⟨k + 2, HBE.out k hbe, rfl⟩, rfl⟩)
        have hkt : k ≤ 1048576 := by have := hbe.2.1; rw [Pl.ext_sz] at this; omega
        have HKS : Hid (c1.size = k) := hcs
        clear hbe hb HBE HNE hcs
        go_enter Tryz.func122, Tryz.ntmps122
        go_wp2_with (first | (go_at_call 88; first | (refine (HP1.out _).mono ?_; rintro e uu ⟨rfl, rfl⟩) | (refine (HP2.out _).mono ?_; rintro e uu ⟨rfl, rfl⟩)) | (go_at_call 137; refine (HCT.out _ HM.out).mono ?_; rintro e u2 ⟨rfl, dn, hu2⟩; rw [hu2]; clear hu2; have hc1b : (c1.size : Int) ≤ 1048576 := (by have := HKS.out; omega)))
        go_ret2
        exact ⟨⟨k + 2 + 2, true, HB.out, by have := HKS.out; show Ending.returned (.tuple #[.int .i64 (4 + (c1.size : Int)), .bool true]) = _; rw [show (4 : Int) + (c1.size : Int) = ((k + 2 + 2 : Nat) : Int) by omega]⟩, below_drewV (Below.refl _ _) _⟩
      · have HB : Hid (BlkI t 0 false) := .inr (.inr (.inl ⟨hb, HNE.out hne, rfl, rfl⟩))
        clear hne hb HBE HNE
        go_enter Tryz.func122, Tryz.ntmps122
        go_wp2_with (first | (go_at_call 88; first | (refine (HP1.out _).mono ?_; rintro e uu ⟨rfl, rfl⟩) | (refine (HP2.out _).mono ?_; rintro e uu ⟨rfl, rfl⟩)) | (go_at_call 137; refine (HCT.out _ HM.out).mono ?_; rintro e u2 ⟨rfl, dn, hu2⟩; rw [hu2]; clear hu2))
        go_ret2
        exact ⟨⟨0, false, HB.out, rfl⟩, below_drewV (Below.refl _ _) _⟩
  · have hl : Pl.lc t 0 := hp1.1 rfl
    obtain ⟨k, hle, hck⟩ := Pl.cut1 t
    have HCT : Hid (∀ u : World, u.cell? ⟨3, 0, none⟩ = some (.int .i64 m) → Calls Tryz.prog 137 #[.string t, .string ⟨#[10]⟩] u _) := fun u hu => Tryz.strings_Cut t ⟨#[10]⟩ m u (by omega) hu
    obtain ⟨c1, hc1⟩ : ∃ c1 : ByteArray, c1 = ⟨(Lib.cut t.data.toList (⟨#[10]⟩ : ByteArray).data.toList).1.toArray⟩ := ⟨_, rfl⟩
    have hc1s : c1.size = (Lib.cut t.data.toList [10]).1.length := by rw [hc1]; exact List.size_toArray
    rw [← hc1] at HCT
    rw [← hc1s] at hck
    have HKS : Hid (c1.size = k) := hck
    have HB : Hid (BlkI t k true) := .inl ⟨hl, hle, rfl⟩
    clear hc1 hc1s hck hp1 hp2 hl hle
    go_enter Tryz.func122, Tryz.ntmps122
    go_wp2_with (first | (go_at_call 88; first | (refine (HP1.out _).mono ?_; rintro e uu ⟨rfl, rfl⟩) | (refine (HP2.out _).mono ?_; rintro e uu ⟨rfl, rfl⟩)) | (go_at_call 137; refine (HCT.out _ HM.out).mono ?_; rintro e u2 ⟨rfl, dn, hu2⟩; rw [hu2]; clear hu2))
    go_ret2
    exact ⟨⟨k, true, HB.out, by rw [← HKS.out]; rfl⟩, below_drewV (Below.refl _ _) _⟩
end Go.Proofs.YteadglnenaiaaaaGreatDoor.W
namespace Go.Proofs.YteadglnenaiaaaaGreatDoor.Pl
theorem Sk.blanks {s : ByteArray} {j : Nat} {c : Bool} : ∀ n k, k + n ≤ s.size → (∀ x, k ≤ x → x < k + n → blk (byt s x) = true) → Sk s (k + n) j c → Sk s k j c
  | 0, k, _, _, h => h
  | n + 1, k, h1, h2, h => .blank (by omega) (h2 k (Nat.le_refl _) (by omega)) (Sk.blanks n (k + 1) (by omega) (fun x a b => h2 x (by omega) (by omega)) (by rw [show k + 1 + n = k + (n + 1) by omega]; exact h))
end Go.Proofs.YteadglnenaiaaaaGreatDoor.Pl
namespace Go.Proofs.YteadglnenaiaaaaGreatDoor.W
open Go.RowKit
theorem BlkI.to {s : ByteArray} {k n : Nat} {b : Bool} (hk : k ≤ s.size) (h : BlkI (s.extract k s.size) n b) : (n = 0 ∧ Pl.Sk s k k b) ∨ (0 < n ∧ k + n ≤ s.size ∧ ∀ j c, Pl.Sk s (k + n) j c → Pl.Sk s k j c) := by
  have hsz := Pl.ext_sz s k
  have hb : ∀ j, k + j < s.size → Pl.byt (s.extract k s.size) j = Pl.byt s (k + j) := fun j hj => Pl.ext_byt s k j hj
  have hlc : Pl.lc (s.extract k s.size) 0 ↔ Pl.lc s k := by
    unfold Pl.lc
    rw [hsz]
    constructor
    · rintro ⟨h1, h2, h3⟩
      rw [hb 0 (by omega)] at h2
      rw [hb (0 + 1) (by omega)] at h3
      exact ⟨by omega, h2, by rw [← h3]⟩
    · rintro ⟨h1, h2, h3⟩
      refine ⟨by omega, ?_, ?_⟩
      · rw [hb 0 (by omega)]; exact h2
      · rw [hb (0 + 1) (by omega), ← h3]
  have hbc : Pl.bc (s.extract k s.size) 0 ↔ Pl.bc s k := by
    unfold Pl.bc
    rw [hsz]
    constructor
    · rintro ⟨h1, h2, h3⟩
      rw [hb 0 (by omega)] at h2
      rw [hb (0 + 1) (by omega)] at h3
      exact ⟨by omega, h2, by rw [← h3]⟩
    · rintro ⟨h1, h2, h3⟩
      refine ⟨by omega, ?_, ?_⟩
      · rw [hb 0 (by omega)]; exact h2
      · rw [hb (0 + 1) (by omega), ← h3]
  rcases h with ⟨h1, h2, rfl⟩ | ⟨h1, ⟨m, h2, rfl⟩, rfl⟩ | ⟨h1, h2, rfl, rfl⟩ | ⟨h1, h2, rfl, rfl⟩
  · right
    have hl := hlc.1 h1
    obtain ⟨_, e2, e3, e4⟩ := h2
    rw [hsz] at e2 e4
    have hn2 : 2 ≤ n := by
      have a1 := h1.1
      have a2 := h1.2.1
      have a3 := h1.2.2
      rw [hsz] at a1
      rcases e4 with e | e
      · omega
      · rcases Nat.lt_or_ge n 2 with q | q
        · have : n = 0 ∨ n = 1 := by omega
          rcases this with rfl | rfl
          · rw [a2] at e; exact absurd e (by decide)
          · rw [a3] at e; exact absurd e (by decide)
        · exact q
    refine ⟨by omega, by omega, fun j c hj => .line hl ⟨by omega, by omega, fun x hx1 hx2 => ?_, ?_⟩ hj⟩
    · have := e3 (x - k) (Nat.zero_le _) (by omega)
      rw [hb (x - k) (by omega), show k + (x - k) = x by omega] at this
      exact this
    · rcases e4 with e | e
      · left; omega
      · rcases Nat.lt_or_ge (k + n) s.size with q | q
        · right; rw [← hb n q]; exact e
        · left; omega
  · right
    have hl := hbc.1 h1
    obtain ⟨e1, e2, e3, e4⟩ := h2
    rw [hsz] at e2
    rw [hb m (by omega), hb (m + 1) (by omega)] at e3
    refine ⟨by omega, by omega, fun j c hj => .blok hl (k := k + m) ⟨by omega, by omega, e3, fun x hx1 hx2 e => ?_⟩ (by rw [show k + m + 2 = k + (m + 2) by omega]; exact hj)⟩
    have := e4 (x - k) (by omega) (by omega)
    rw [hb (x - k) (by omega), hb (x - k + 1) (by omega), show k + (x - k + 1) = x + 1 by omega, show k + (x - k) = x by omega] at this
    exact this e
  · left
    refine ⟨rfl, .opn (hbc.1 h1) fun x hx1 hx2 e => ?_⟩
    have := h2 (x - k) (by omega) (by rw [hsz]; omega)
    rw [hb (x - k) (by omega), hb (x - k + 1) (by omega), show k + (x - k + 1) = x + 1 by omega, show k + (x - k) = x by omega] at this
    exact this e
  · have hr := Pl.run_run Pl.blk (s.extract k s.size)
    have hr1 := hr.1
    rw [hsz] at hr1
    rcases Nat.eq_zero_or_pos (Pl.run Pl.blk (s.extract k s.size)) with e | e
    · left
      refine ⟨e, .stop ?_⟩
      rcases Nat.lt_or_ge k s.size with q | q
      · right
        refine ⟨?_, fun h => h1 (hlc.2 h), fun h => h2 (hbc.2 h)⟩
        have := hr.2.2
        rw [e, hsz] at this
        rcases this with x | x
        · omega
        · rw [hb 0 (by omega)] at x; exact x
      · exact .inl q
    · right
      refine ⟨e, by omega, fun j c hj => Pl.Sk.blanks _ k (by omega) (fun x hx1 hx2 => ?_) hj⟩
      have := hr.2.1 (x - k) (by omega)
      rw [hb (x - k) (by omega), show k + (x - k) = x by omega] at this
      exact this
theorem Glo.onX {g : Nat} {w w' : World} (h : Glo w) (hg : 4 ≤ g) (hx : OnlyX g w w') : Glo w' := h.keep (n := 4) (Nat.le_refl _) (hx.below hg h.big)
def lxAt (g : Nat) (w : World) : Nat := match w.cell? ⟨g, 1, none⟩ with | some (.int _ n) => n.toNat | _ => 0
theorem LxSt.at {g k : Nat} {s : ByteArray} {w : World} (h : LxSt g s k w) : lxAt g w = k := by
  unfold lxAt
  rw [cell_of_row w g 1 _ 123 (0, 0) h]
  simp
set_option maxHeartbeats 4000000 in
set_option maxRecDepth 100000 in
theorem skipBlanks_is (g : Nat) (hg8 : 4 ≤ g) (s : ByteArray) (hs : s.size ≤ 1048576) (k : Nat) (hk : k ≤ s.size) (w : World) (hL : LxSt g s k w) (hE : Glo w) : Calls Tryz.prog 107 #[.pointer (some ⟨g, 0, none⟩)] w fun e w' => ∃ j b, Pl.Sk s k j b ∧ e = .returned (.bool b) ∧ LxSt g s j w' ∧ OnlyX g w w' := by
  have HL : Hid (LxSt g s k w) := hL
  have HE : Hid (Glo w) := hE
  clear hL hE
  go_enter Tryz.func107, Tryz.ntmps107
  go_wp2_with fail
  go_loopw [3] (fun _ wr => ∃ m : Nat, m ≤ s.size ∧ LxSt g s m wr ∧ OnlyX g w wr ∧ ∀ j b, Pl.Sk s m j b → Pl.Sk s k j b) (fun _ wr => s.size - lxAt g wr)
  case atStart => exact ⟨k, hk, HL.out, OnlyX.refl _ _, fun j b h => h⟩
  case round =>
    obtain ⟨m, hm, hst, hox, hsk⟩ := hrel
    have HST : Hid (LxSt g s m wr) := hst
    have HOX : Hid (OnlyX g w wr) := hox
    have HSK : Hid (∀ j b, Pl.Sk s m j b → Pl.Sk s k j b) := hsk
    have HEr : Hid (Glo wr) := HE.out.onX hg8 hox
    have hc0 : wr.cell? ⟨g, 0, none⟩ = some (.string s) := cell_of_row wr g 0 _ 123 (0, 0) hst
    have hc1 : wr.cell? ⟨g, 1, none⟩ = some (.int .i64 m) := cell_of_row wr g 1 _ 123 (0, 0) hst
    have hm' : (m : Int) ≤ s.size := by omega
    have HBS : Hid (∀ u : World, Glo u → Calls Tryz.prog 122 #[.string (s.extract m s.size)] u fun e w' => (∃ n b, BlkI (s.extract m s.size) n b ∧ e = .returned (.tuple #[.int .i64 n, .bool b])) ∧ Below u.heap.size u w') := fun u hu => blankSize_is (s.extract m s.size) (by rw [Pl.ext_sz]; omega) u hu
    have HGD : Hid (∀ i, Glo (wr.drewN i)) := fun i => HEr.out.on (below_drewV (Below.refl _ _) i)
    clear hst hox hsk
    go_wp2_with fail
    go_region_with (go_at_call 122; refine (HBS.out _ (by first | exact HEr.out | exact HGD.out _)).mono ?_; rintro e u2 ⟨⟨n, b, hblk, rfl⟩, g2⟩)
    all_goals
      have G2 : Hid (OnlyX g w u2) := HOX.out.trans (OnlyX.of_below (by first | exact g2 | exact (below_drewV (Below.refl _ _) _).trans g2))
      have HST2 : Hid (LxSt g s m u2) := (HST.out.keep (below_drewV (Below.refl _ _) _)).keep g2
      have hto := hblk.to hm
      clear hblk g2
      rcases hto with ⟨rfl, hst⟩ | ⟨hn, hmn, hst⟩
      · have HF : Hid (Pl.Sk s k m b) := HSK.out _ _ hst
        clear hst
        go_wp2_with fail
        go_ret
        exact ⟨m, b, HF.out, rfl, HST2.out, G2.out⟩
      · have HF : Hid (∀ j b, Pl.Sk s (m + n) j b → Pl.Sk s k j b) := fun j b h => HSK.out j b (hst j b h)
        have en : ((n : Int) == 0) = false := by simp; omega
        have HPA : Hid (∀ u : World, LxSt g s m u → Calls Tryz.prog 109 #[.pointer (some ⟨g, 0, none⟩), .int .i64 n] u fun e w' => (∃ v, e = .returned v) ∧ LxSt g s (m + n) w' ∧ OnlyX g u w') := fun u hu => pass_is g s hs m n hmn u hu
        clear hst
        go_wp2_with (go_at_call 109; refine (HPA.out _ HST2.out).mono ?_; rintro e u3 ⟨⟨v, rfl⟩, hl3, ho3⟩)
        go_roundw
        case rel => exact ⟨m + n, hmn, hl3, G2.out.trans ho3, HF.out⟩
        case measure => rw [hl3.at, HST.out.at]; omega
end Go.Proofs.YteadglnenaiaaaaGreatDoor.W
namespace Go.Proofs.YteadglnenaiaaaaGreatDoor.W
open Go.RowKit
section
variable {P : Program} {ops : Array Oper} {Q : Exit → Act → World → Prop} {md : Region.Mode}
def acycM (md : Region.Mode) (ops : Array Oper) : Bool := (List.range ops.size).all fun i => ((ops[i]?).map fun o => o.after.all fun e => !Region.binds md e || decide (e.on < i)).getD true
theorem acycM_of (h : acycM md ops = true) {i : Nat} {o : Oper} (ho : ops[i]? = some o) : ∀ e ∈ o.after, Region.binds md e = true → e.on < i := by
  unfold acycM at h
  rw [List.all_eq_true] at h
  have h1 := h i (List.mem_range.2 (Array.getElem?_eq_some_iff.1 ho).1)
  rw [ho] at h1
  simp only [Option.map_some, Option.getD_some] at h1
  intro e he hb
  have h2 := Array.all_eq_true_iff_forall_mem.1 h1 e he
  rw [hb] at h2
  simpa using h2
theorem ready_nil_allM (hac : acycM md ops = true) {L : Array Bool} (hs : L.size = ops.size) (hr : Region.ready md ops L = []) : ∀ i, i < ops.size → L.getD i true = true := by
  intro i
  induction i using Nat.strongRecOn with
  | ind i ih =>
    intro hi
    cases hb : L.getD i true with
    | true => rfl
    | false =>
      exfalso
      have hm : i ∈ Region.ready md ops L := mem_ready.2 ⟨hb, ops[i], Array.getElem?_eq_getElem hi, fun e he hbe => by
        have hlt := acycM_of hac (Array.getElem?_eq_getElem hi) e he hbe
        have h1 := ih e.on hlt (by omega)
        have h2 : e.on < L.size := by omega
        simp [h2] at h1 ⊢
        exact h1⟩
      rw [hr] at hm
      cases hm
theorem wpAny_inm (I : Array Bool → Act → World → Prop)
    (hdone : ∀ L a w, I L a w → (∀ i, i < ops.size → up L i = true) → Q .normal a w)
    (hac : acycM md ops = true)
    (hstep : ∀ (L : Array Bool) (a : Act) (w : World) (i : Nat) (o : Oper), I L a w → i < L.size → L.size = ops.size → up L i = false → Clo md ops L → (∀ e ∈ o.after, Region.binds md e = true → up L e.on = true) → ops[i]? = some o → ∀ K : Act → World → Prop, (∀ a w, I (L.setIfInBounds i true) a w → K a w) → if Region.wanted o (yielded ops a.tmps) = true then Oper.wp P o a w K Q else K (a.put o.dst undef) w)
    (fuel n : Nat) (a : Act) (w : World) (hn : n = ops.size) (hI : I (Array.replicate n false) a w) (hf : n ≤ fuel) : wpAny P md ops Q fuel (Array.replicate n false) a w := by
  refine wpAny_inv (fun L a w => I L a w ∧ Clo md ops L ∧ L.size = ops.size) (fun L a w h hs ha => hdone L a w h.1 fun i hi => up_of (ha i hi) (by omega)) (fun L hs hr => ready_nil_allM hac hs hr) (fun L a w i o h hs hi ho K hK => ?_) fuel _ a w ⟨hI, ?_, by simp [hn]⟩ (by simp [hn]) ?_
  · obtain ⟨h0, o', ho', hd⟩ := mem_ready.1 hi
    rw [ho] at ho'
    cases ho'
    have hlt : i < L.size := by rw [hs]; exact (Array.getElem?_eq_some_iff.1 ho).1
    have hd' : ∀ e ∈ o.after, Region.binds md e = true → up L e.on = true := hd
    refine hstep L a w i o h.1 hlt hs (up_false h0) h.2.1 hd' ho K fun a' w' h' => hK a' w' ⟨h', fun j oj hoj hj e he hb => ?_, by simpa using hs⟩
    rw [up_set hlt] at hj
    by_cases q : i = j
    · subst q
      rw [ho] at hoj
      cases hoj
      exact up_mono hlt (hd' e he hb)
    · rw [if_neg q] at hj
      exact up_mono hlt (h.2.1 j oj hoj hj e he hb)
  · intro j o ho hj
    rw [up_init] at hj
    cases hj
  · have : ∀ k : Nat, unl (List.replicate k false) = k := fun k => by
      induction k with
      | zero => rfl
      | succ k ih => show unl (false :: List.replicate k false) = k + 1; unfold unl at ih ⊢; rw [List.map_cons, List.sum_cons, ih]; simp; omega
    rw [Array.toList_replicate, this]
    exact hf
end
end Go.Proofs.YteadglnenaiaaaaGreatDoor.W
namespace Go.Proofs.YteadglnenaiaaaaGreatDoor.W
open Go.RowKit
set_option maxRecDepth 8000 in
set_option maxHeartbeats 4000000 in
theorem isKey_is (s : ByteArray) (w : World) : Calls Tryz.prog 75 #[.string s] w fun e w' => e = .returned (.bool (Pl.isK s)) ∧ w' = w := by
  have HE : Hid (Pl.isK s = (Pl.kyB.any fun r => s.toList == r)) := rfl
  go_enter Tryz.func75, Tryz.ntmps75
  go_wp2
  all_goals (go_ret; refine ⟨ret_bool ?_, rfl⟩; rw [HE.out]; simp only [Pl.kyB, List.any_cons, List.any_nil]; simp_all)
theorem inWordR_is (c : Int) (w : World) : Calls Tryz.prog 72 #[.int .i32 c] w fun e w' => e = .returned (.bool (Pl.wch c)) ∧ w' = w := by
  cases hd : Pl.dg c
  · have hn : ¬ (48 ≤ c ∧ c ≤ 57) := by simpa [Pl.dg] using hd
    go_enter Tryz.func72, Tryz.ntmps72
    go_wp2_with (go_at_call 86; refine (isDigitR_is _ _).mono ?_; rintro e u1 ⟨rfl, rfl⟩; rw [hd])
    all_goals (go_ret; refine ⟨ret_bool ?_, rfl⟩; rw [Bool.eq_iff_iff]; simp [Pl.dg, Pl.lt, Pl.wch] <;> omega)
  · have hn : 48 ≤ c ∧ c ≤ 57 := by simpa [Pl.dg] using hd
    go_enter Tryz.func72, Tryz.ntmps72
    go_wp2_with (go_at_call 86; refine (isDigitR_is _ _).mono ?_; rintro e u1 ⟨rfl, rfl⟩; rw [hd])
    all_goals (go_ret; refine ⟨ret_bool ?_, rfl⟩; rw [Bool.eq_iff_iff]; simp [Pl.dg, Pl.lt, Pl.wch] <;> omega)
theorem wch_highL (c : Int) (h : 128 ≤ c) : Pl.wch c = false := by
  rw [Bool.eq_false_iff]
  simp [Pl.wch, Pl.lt, Pl.dg]
  omega
theorem wch_decodeL (s : ByteArray) (pos : Nat) (h : pos < s.size) : Pl.wch ((Utf8.decode s pos).1 : Nat) = Pl.wch (Pl.byt s pos) := by
  by_cases ha : (s[pos]'h).toNat < 128
  · rw [decode_ascii s pos h ha, ← Pl.byt_get s pos h]
  · rw [wch_highL _ (by have := (decode_high s pos h (by omega)).1; omega), wch_highL _ (by rw [← Pl.byt_get s pos h]; omega)]
theorem step_decodeL (s : ByteArray) (pos : Nat) (h : pos < s.size) (hw : Pl.wch (Pl.byt s pos) = true) : (Utf8.decode s pos).2 = 1 := by
  by_cases ha : (s[pos]'h).toNat < 128
  · rw [decode_ascii s pos h ha]
  · rw [wch_highL _ (by rw [← Pl.byt_get s pos h]; omega)] at hw
    cases hw
set_option maxRecDepth 100000 in
set_option maxHeartbeats 2000000 in
theorem wordOf_is (s : ByteArray) (hs : s.size ≤ 9223372036854775807) (w : World) : Calls Tryz.prog 63 #[.string s] w fun e w' => e = .returned (.string (s.extract 0 (Pl.run Pl.wch s))) ∧ Below w.heap.size w w' := by
  go_enter Tryz.func63, Tryz.ntmps63
  go_wp2
  go_loopw [3] (fun _ w' => ∃ pos : Nat, pos ≤ s.size ∧ w' = w.iter s pos ∧ (∀ j, j < pos → Pl.wch (Pl.byt s j) = true)) (fun _ w' => s.size - w'.iterPos w.heap.size)
  case atStart => exact ⟨0, Nat.zero_le _, rfl, fun j hj => absurd hj (Nat.not_lt_zero _)⟩
  case round =>
    obtain ⟨pos, hps, rfl, hall⟩ := hrel
    have HA : Hid (∀ j, j < pos → Pl.wch (Pl.byt s j) = true) := hall
    clear hall
    by_cases hp : pos < s.size
    · have hnx : ∀ ty, (Instr.next (.pointer (some ⟨w.heap.size, 0, none⟩)) true ty).run Tryz.prog (w.iter s pos) = _ := fun ty => run_next_any w s pos ty hp
      have hpi : (pos : Int) ≤ (s.size : Int) := by omega
      cases hc : Pl.wch (Pl.byt s pos)
      · have HR : Hid (Pl.run Pl.wch s = pos) := Pl.run_eq ⟨hps, HA.out, .inr hc⟩
        go_wp2_with (go_at_call 72; refine (inWordR_is _ _).mono ?_; rintro e u1 ⟨rfl, rfl⟩; rw [wch_decodeL s pos hp, hc])
        go_ret
        exact ⟨by rw [HR.out]; rfl, below_iterL _ _ _⟩
      · have hd2 := step_decodeL s pos hp hc
        have HD : Hid ((Utf8.decode s pos).2 = 1) := hd2
        clear hd2
        go_wp2_with (go_at_call 72; refine (inWordR_is _ _).mono ?_; rintro e u1 ⟨rfl, rfl⟩; rw [wch_decodeL s pos hp, hc])
        go_roundw
        case rel => exact ⟨pos + 1, by omega, by rw [HD.out], fun j hj => by
          by_cases e : j = pos
          · rw [e]; exact hc
          · exact HA.out j (by omega)⟩
        case measure => rw [HD.out]; simp; omega
    · have hnx : ∀ ty, (Instr.next (.pointer (some ⟨w.heap.size, 0, none⟩)) true ty).run Tryz.prog (w.iter s pos) = _ := fun ty => run_next_end w s pos ty hp
      have HR : Hid (Pl.run Pl.wch s = s.size) := Pl.run_eq ⟨Nat.le_refl _, by rw [show s.size = pos by omega]; exact HA.out, .inl rfl⟩
      go_wp2
      go_ret
      exact ⟨by rw [HR.out]; simp, below_iterL _ _ _⟩
def WrdI (s : ByteArray) (e : Ending) : Prop := match Pl.wrdR s with
  | .ok (k, S, N) => e = .returned (.tuple #[.agg #[.int .i64 k, .string S, .int .i64 N, .int .i64 0, .int .i64 0], .int .i64 0])
  | .error f => e = .returned (.tuple #[.agg #[.int .i64 0, .string ⟨#[]⟩, .int .i64 0, .int .i64 0, .int .i64 0], .int .i64 f])
theorem wrdi_no {s : ByteArray} {f : Int} (h : Pl.wrdR s = .error f) : WrdI s (.returned (.tuple #[.agg #[.int .i64 0, .string ⟨#[]⟩, .int .i64 0, .int .i64 0, .int .i64 0], .int .i64 f])) := by unfold WrdI; rw [h]
theorem wrdi_ok {s S : ByteArray} {k N : Int} (h : Pl.wrdR s = .ok (k, S, N)) : WrdI s (.returned (.tuple #[.agg #[.int .i64 k, .string S, .int .i64 N, .int .i64 0, .int .i64 0], .int .i64 0])) := by unfold WrdI; rw [h]
set_option maxHeartbeats 4000000 in
set_option maxRecDepth 100000 in
theorem readWord_is (s : ByteArray) (hpos : 0 < s.size) (hs : s.size ≤ 1048576) (w : World) (hE : Glo w) : Calls Tryz.prog 64 #[.string s] w fun e w' => WrdI s e ∧ Below w.heap.size w w' := by
  have HE : Hid (Glo w) := hE
  clear hE
  cases hd : Pl.dg (Pl.byt s 0)
  · by_cases hb : (40 : Int) < (s.size : Int)
    · have HR : Hid (Pl.wrdR s = .error 8) := by show Pl.wrdR s = _; unfold Pl.wrdR; rw [hd, if_neg (by decide), if_pos (by omega)]
      go_enter Tryz.func64, Tryz.ntmps64
      go_wp2_with (go_at_call 73; refine (isDigit_any _ _).mono ?_; rintro e u1 ⟨rfl, rfl⟩; rw [Pl.byt_get s 0 hpos, hd])
      exact bodyPost_ret (v := .tuple #[.agg #[.int .i64 0, .string ⟨#[]⟩, .int .i64 0, .int .i64 0, .int .i64 0], .int .i64 8]) (by simp [results, Tryz.results64, go_sem]) rfl ⟨wrdi_no HR.out, below_allocL _ _⟩
    · cases hk : Pl.isK s
      · have HR : Hid (Pl.wrdR s = .ok (1, s, 0)) := by show Pl.wrdR s = _; unfold Pl.wrdR; rw [hd, if_neg (by decide), if_neg (by omega), hk]; rfl
        go_enter Tryz.func64, Tryz.ntmps64
        go_wp2_with (first | (go_at_call 73; refine (isDigit_any _ _).mono ?_; rintro e u1 ⟨rfl, rfl⟩; rw [Pl.byt_get s 0 hpos, hd]) | (go_at_call 75; refine (isKey_is s _).mono ?_; rintro e u1 ⟨rfl, rfl⟩; rw [hk]))
        exact bodyPost_ret (v := .tuple #[.agg #[.int .i64 1, .string s, .int .i64 0, .int .i64 0, .int .i64 0], .int .i64 0]) (by simp [results, Tryz.results64, go_sem]) rfl ⟨wrdi_ok HR.out, below_allocL _ _⟩
      · have HR : Hid (Pl.wrdR s = .ok (2, s, 0)) := by show Pl.wrdR s = _; unfold Pl.wrdR; rw [hd, if_neg (by decide), if_neg (by omega), hk]; rfl
        go_enter Tryz.func64, Tryz.ntmps64
        go_wp2_with (first | (go_at_call 73; refine (isDigit_any _ _).mono ?_; rintro e u1 ⟨rfl, rfl⟩; rw [Pl.byt_get s 0 hpos, hd]) | (go_at_call 75; refine (isKey_is s _).mono ?_; rintro e u1 ⟨rfl, rfl⟩; rw [hk]))
        exact bodyPost_ret (v := .tuple #[.agg #[.int .i64 2, .string s, .int .i64 0, .int .i64 0, .int .i64 0], .int .i64 0]) (by simp [results, Tryz.results64, go_sem]) rfl ⟨wrdi_ok HR.out, below_allocL _ _⟩
  · have HR : Hid (Pl.wrdR s = (match Pl.intR s with | .error f => .error f | .ok (S, N) => .ok (3, S, N))) := by show Pl.wrdR s = _; unfold Pl.wrdR; rw [if_pos hd]; rfl
    go_enter Tryz.func64, Tryz.ntmps64
    go_wp2_with (go_at_call 73; refine (isDigit_any _ _).mono ?_; rintro e u1 ⟨rfl, ek⟩; rw [ek]; clear ek; rw [Pl.byt_get s 0 hpos, hd])
    refine (readInteger_is s hpos hd hs _ (HE.out.on (below_allocL w _))).mono ?_
    rintro e u2 ⟨hi, g2⟩
    have Q2 : Hid (u2.heap[w.heap.size]? = some (.cells #[.int .i64 0, .string ⟨#[]⟩, .int .i64 0, .int .i64 0, .int .i64 0] 56 (0, 0))) := (g2.block w.heap.size (by simp)).trans (heap_alloc_new w _)
    have B2 : Hid (Below w.heap.size w u2) := (below_allocL w _).trans (g2.mono (by simp))
    clear g2
    unfold IntI at hi
    cases hq : Pl.intR s with
    | error f =>
      rw [hq] at hi
      subst hi
      have HR2 : Hid (Pl.wrdR s = .error f) := by show Pl.wrdR s = _; rw [HR.out, hq]
      clear HR hq
      go_wp2_with (refine wpList_store_row rfl 56 _ _ rfl w.heap.size #[.int .i64 0, .string ⟨#[]⟩, .int .i64 0, .int .i64 0, .int .i64 0] ?hx ?hy 56 #[.int .i64 0, .string ⟨#[]⟩, .int .i64 0, .int .i64 0, .int .i64 0] ?hg ?hi ?ho ?h1 ?_; (case hx => rfl); (case hy => rfl); (case hg => exact Q2.out); (case hi => kernel_rfl); (case ho => kernel_rfl); (case h1 => kernel_rfl))
      refine bodyPost_ret (v := .tuple #[.agg #[.int .i64 0, .string ⟨#[]⟩, .int .i64 0, .int .i64 0, .int .i64 0], .int .i64 f]) ?hr ?hdf ?hQQ
      case hr =>
        refine results_ctL Tryz.results64 _ _ (w.heap.size) 56 #[.int .i64 0, .string ⟨#[]⟩, .int .i64 0, .int .i64 0, .int .i64 0] (0, 0) _ (.int .i64 f) ?hp ?hq ?hg Tryz.underlying56 ?hd ?hi
        case hp => rfl
        case hq => rfl
        case hg => exact setRow_heap _ _ _ _ _ _ Q2.out
        case hd => rfl
        case hi => kernel_rfl
      case hdf => rfl
      case hQQ => exact ⟨wrdi_no HR2.out, below_setRow B2.out (Nat.le_refl _) _⟩
    | ok q =>
      obtain ⟨S, n⟩ := q
      rw [hq] at hi
      subst hi
      have HR2 : Hid (Pl.wrdR s = .ok (3, S, n)) := by show Pl.wrdR s = _; rw [HR.out, hq]
      clear HR hq
      go_wp2_with (refine wpList_store_row rfl 56 _ _ rfl w.heap.size #[.int .i64 3, .string S, .int .i64 n, .int .i64 0, .int .i64 0] ?hx ?hy 56 #[.int .i64 0, .string ⟨#[]⟩, .int .i64 0, .int .i64 0, .int .i64 0] ?hg ?hi ?ho ?h1 ?_; (case hx => rfl); (case hy => rfl); (case hg => exact Q2.out); (case hi => kernel_rfl); (case ho => kernel_rfl); (case h1 => kernel_rfl))
      refine bodyPost_ret (v := .tuple #[.agg #[.int .i64 3, .string S, .int .i64 n, .int .i64 0, .int .i64 0], .int .i64 0]) ?hr ?hdf ?hQQ
      case hr =>
        refine results_ctL Tryz.results64 _ _ (w.heap.size) 56 #[.int .i64 3, .string S, .int .i64 n, .int .i64 0, .int .i64 0] (0, 0) _ (.int .i64 0) ?hp ?hq ?hg Tryz.underlying56 ?hd ?hi
        case hp => rfl
        case hq => rfl
        case hg => exact setRow_heap _ _ _ _ _ _ Q2.out
        case hd => rfl
        case hi => kernel_rfl
      case hdf => rfl
      case hQQ => exact ⟨wrdi_ok HR2.out, below_setRow B2.out (Nat.le_refl _) _⟩
end Go.Proofs.YteadglnenaiaaaaGreatDoor.W
