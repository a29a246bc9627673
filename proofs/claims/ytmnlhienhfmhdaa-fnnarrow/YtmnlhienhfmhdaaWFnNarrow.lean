import Derived.Test.YtmnlhienhfmhdaaDraw
namespace Go.Proofs.Ytmnlhienhfmhdaa.Pl
theorem wd_sg_wd (n : Int) : wd (sg n) = wd n := by unfold wd sg; omega
theorem nr_bd (k n : Int) : 0 ≤ nr k n ∧ nr k n ≤ 4294967295 := by
  unfold nr; split
  · exact wd_bd _
  · split
    · omega
    · split
      · exact wd_bd _
      · split
        · omega
        · split
          · exact wd_bd _
          · omega
theorem nr1 (n : Int) : nr 1 (nr 1 n) = nr 1 n ∧ nr 1 n % 256 = wd n % 256 := by
  show wd (i8 (wd (i8 n))) = wd (i8 n) ∧ wd (i8 n) % 256 = wd n % 256; unfold wd i8; omega
theorem nr2 (n : Int) : nr 2 (nr 2 n) = nr 2 n ∧ nr 2 n % 256 = wd n % 256 := by
  show n % 256 % 256 = n % 256 ∧ n % 256 % 256 = wd n % 256; unfold wd; omega
theorem nr3 (n : Int) : nr 3 (nr 3 n) = nr 3 n ∧ nr 3 n % 65536 = wd n % 65536 := by
  show wd (i16 (wd (i16 n))) = wd (i16 n) ∧ wd (i16 n) % 65536 = wd n % 65536; unfold wd i16; omega
theorem nr4 (n : Int) : nr 4 (nr 4 n) = nr 4 n ∧ nr 4 n % 65536 = wd n % 65536 := by
  show n % 65536 % 65536 = n % 65536 ∧ n % 65536 % 65536 = wd n % 65536; unfold wd; omega
theorem nr5 (n : Int) : nr 5 n = wd n := rfl
theorem nr55 (n : Int) : nr 5 (nr 5 n) = nr 5 n := by show wd (wd n) = wd n; unfold wd; omega
end Go.Proofs.Ytmnlhienhfmhdaa.Pl
namespace Go.Proofs.Ytmnlhienhfmhdaa.W
open Go.RowKit
set_option maxHeartbeats 400000 in
theorem drawNarrow_any (w : World) (a : Option Addr) (len cap : Nat) (h : IsBytes w a len cap) : Calls Try.prog 30 #[.slice a len cap] w fun e w' => ∃ k n : Int, e = .returned (.tuple #[.int .i64 k, .int .i64 n]) ∧ Below w.heap.size w w' := by
  have HH : Hid (IsBytes w a len cap) := h
  clear h
  go_enter Try.func30, Try.ntmps30
  go_wp2_with fail
  refine (open_any _ _ _ _ HH.out).mono ?_
  rintro e w1 ⟨rfl, R1, B1⟩
  have H1 : Hid (RdOk w1 w.heap.size) := R1
  clear R1
  go_wp2_with fail
  refine (next_any _ _ H1.out).mono ?_
  rintro e w2 ⟨m, rfl, hm, R2, B2⟩
  have H2 : Hid (RdOk w2 w.heap.size) := R2
  clear R2
  go_wp2_with fail
  refine (num_any _ _ H2.out).mono ?_
  rintro e w3 ⟨n, rfl, R3, B3⟩
  clear R3
  go_wp2_with fail
  go_ret2
  exact ⟨_, _, rfl, (B1.trans B2).trans B3⟩
def law (k : Nat) (w : World) (a0 : Option Addr) (len0 cap0 : Nat) : Prop := Calls Try.prog k #[.slice a0 len0 cap0] w fun e w' => e = .returned (.bool true) ∧ Below w.heap.size w w'
set_option maxHeartbeats 1000000 in
theorem fnNarrow_walk (a0 : Option Addr) (len0 cap0 : Nat) (w : World) (h : IsBytes w a0 len0 cap0) :
    Calls Try.prog 10 #[.slice a0 len0 cap0] w fun e w' => e = .returned (.bool true) ∧ Below w.heap.size w w' := by
  have h1 := h.1
  have h2 := h.2.1
  unfold maxLen at h2
  have HH : Hid (IsBytes w a0 len0 cap0) := h
  clear h
  by_cases hl : 1048576 < len0
  · go_enter Try.func10, Try.ntmps10
    go_wp2
    go_ret
    exact ⟨rfl, Below.refl _ _⟩
  · go_enter Try.func10, Try.ntmps10
    go_wp2_with fail
    refine (drawNarrow_any _ _ _ _ HH.out).mono ?_
    rintro e w1 ⟨k, n, rfl, B1⟩
    have hw := Pl.wd_sg_wd n
    have hn := Pl.nr_bd k n
    have hwd := Pl.wd_bd n
    rcases Pl.kind_cases k with rfl | rfl | rfl | rfl | rfl | ⟨e1, e2, e3, e4, e5⟩
    · obtain ⟨p1, p2⟩ := Pl.nr1 n
      have hks : Pl.ks 1 = 1 := rfl
      have hkb : Pl.kb 1 = true := rfl
      go_wp2_with (first | (go_at_call 25; refine (specNarrow_any _ _ _).mono ?_; rintro e w' ⟨rfl, rfl⟩) | (go_at_call 26; refine (implNarrow_any _ _ _).mono ?_; rintro e w' ⟨rfl, rfl⟩) | (go_at_call 20; refine (implSigned_any _ _).mono ?_; rintro e w' ⟨rfl, rfl⟩) | (go_at_call 16; refine (implWord_any _ _).mono ?_; rintro e w' ⟨rfl, rfl⟩) | (go_at_call 15; refine (specWord_any _ _).mono ?_; rintro e w' ⟨rfl, rfl⟩) | (go_at_call 18; refine (implKindSize_any _ _).mono ?_; rintro e w' ⟨rfl, rfl⟩))
      go_quiet ((go_at_call 16; exact Calls.quiet_of_same (implWord_any _ _)))
      go_wp2
      go_ret
      exact ⟨rfl, below_drewN B1 _⟩
    · obtain ⟨p1, p2⟩ := Pl.nr2 n
      have hks : Pl.ks 2 = 1 := rfl
      have hkb : Pl.kb 2 = true := rfl
      go_wp2_with (first | (go_at_call 25; refine (specNarrow_any _ _ _).mono ?_; rintro e w' ⟨rfl, rfl⟩) | (go_at_call 26; refine (implNarrow_any _ _ _).mono ?_; rintro e w' ⟨rfl, rfl⟩) | (go_at_call 20; refine (implSigned_any _ _).mono ?_; rintro e w' ⟨rfl, rfl⟩) | (go_at_call 16; refine (implWord_any _ _).mono ?_; rintro e w' ⟨rfl, rfl⟩) | (go_at_call 15; refine (specWord_any _ _).mono ?_; rintro e w' ⟨rfl, rfl⟩) | (go_at_call 18; refine (implKindSize_any _ _).mono ?_; rintro e w' ⟨rfl, rfl⟩))
      go_quiet ((go_at_call 16; exact Calls.quiet_of_same (implWord_any _ _)))
      go_wp2
      go_ret
      exact ⟨rfl, below_drewN B1 _⟩
    · obtain ⟨p1, p2⟩ := Pl.nr3 n
      have hks : Pl.ks 3 = 2 := rfl
      have hkb : Pl.kb 3 = true := rfl
      go_wp2_with (first | (go_at_call 25; refine (specNarrow_any _ _ _).mono ?_; rintro e w' ⟨rfl, rfl⟩) | (go_at_call 26; refine (implNarrow_any _ _ _).mono ?_; rintro e w' ⟨rfl, rfl⟩) | (go_at_call 20; refine (implSigned_any _ _).mono ?_; rintro e w' ⟨rfl, rfl⟩) | (go_at_call 16; refine (implWord_any _ _).mono ?_; rintro e w' ⟨rfl, rfl⟩) | (go_at_call 15; refine (specWord_any _ _).mono ?_; rintro e w' ⟨rfl, rfl⟩) | (go_at_call 18; refine (implKindSize_any _ _).mono ?_; rintro e w' ⟨rfl, rfl⟩))
      go_quiet ((go_at_call 16; exact Calls.quiet_of_same (implWord_any _ _)))
      go_wp2
      go_ret
      exact ⟨rfl, below_drewN B1 _⟩
    · obtain ⟨p1, p2⟩ := Pl.nr4 n
      have hks : Pl.ks 4 = 2 := rfl
      have hkb : Pl.kb 4 = true := rfl
      go_wp2_with (first | (go_at_call 25; refine (specNarrow_any _ _ _).mono ?_; rintro e w' ⟨rfl, rfl⟩) | (go_at_call 26; refine (implNarrow_any _ _ _).mono ?_; rintro e w' ⟨rfl, rfl⟩) | (go_at_call 20; refine (implSigned_any _ _).mono ?_; rintro e w' ⟨rfl, rfl⟩) | (go_at_call 16; refine (implWord_any _ _).mono ?_; rintro e w' ⟨rfl, rfl⟩) | (go_at_call 15; refine (specWord_any _ _).mono ?_; rintro e w' ⟨rfl, rfl⟩) | (go_at_call 18; refine (implKindSize_any _ _).mono ?_; rintro e w' ⟨rfl, rfl⟩))
      go_quiet ((go_at_call 16; exact Calls.quiet_of_same (implWord_any _ _)))
      go_wp2
      go_ret
      exact ⟨rfl, below_drewN B1 _⟩
    · have p1 := Pl.nr55 n
      have p2 := Pl.nr5 n
      have p3 : Pl.nr 5 (Pl.wd n) = Pl.wd n := by rw [← p2]; exact p1
      have hks : Pl.ks 5 = 4 := rfl
      have hkb : Pl.kb 5 = true := rfl
      clear p1
      go_wp2_with (first | (go_at_call 25; refine (specNarrow_any _ _ _).mono ?_; rintro e w' ⟨rfl, rfl⟩) | (go_at_call 26; refine (implNarrow_any _ _ _).mono ?_; rintro e w' ⟨rfl, rfl⟩) | (go_at_call 20; refine (implSigned_any _ _).mono ?_; rintro e w' ⟨rfl, rfl⟩) | (go_at_call 16; refine (implWord_any _ _).mono ?_; rintro e w' ⟨rfl, rfl⟩) | (go_at_call 15; refine (specWord_any _ _).mono ?_; rintro e w' ⟨rfl, rfl⟩) | (go_at_call 18; refine (implKindSize_any _ _).mono ?_; rintro e w' ⟨rfl, rfl⟩))
      go_quiet ((go_at_call 16; exact Calls.quiet_of_same (implWord_any _ _)))
      go_wp2
      go_ret
      exact ⟨rfl, below_drewN B1 _⟩
    · have hks := (Pl.ks_none k e1 e2 e3 e4 e5).symm
      have hkb := (Pl.kb_none k e1 e2 e3 e4 e5).symm
      go_wp2_with (first | (go_at_call 25; refine (specNarrow_any _ _ _).mono ?_; rintro e w' ⟨rfl, rfl⟩) | (go_at_call 26; refine (implNarrow_any _ _ _).mono ?_; rintro e w' ⟨rfl, rfl⟩) | (go_at_call 20; refine (implSigned_any _ _).mono ?_; rintro e w' ⟨rfl, rfl⟩) | (go_at_call 16; refine (implWord_any _ _).mono ?_; rintro e w' ⟨rfl, rfl⟩) | (go_at_call 15; refine (specWord_any _ _).mono ?_; rintro e w' ⟨rfl, rfl⟩) | (go_at_call 18; refine (implKindSize_any _ _).mono ?_; rintro e w' ⟨rfl, rfl⟩))
      go_ret
      exact ⟨rfl, B1⟩
end Go.Proofs.Ytmnlhienhfmhdaa.W
