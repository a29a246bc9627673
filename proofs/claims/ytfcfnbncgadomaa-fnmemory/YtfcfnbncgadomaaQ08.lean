import Derived.Test.YtfcfnbncgadomaaQ04
import Derived.Deep.QuietTactic
import Derived.BigQuiet
import Derived.Deep.RegionWith
import Derived.Deep.Cut
import Derived.Deep.DeepCutAuto
import Derived.Test.YtfcfnbncgadomaaQ06
import Derived.Test.YtfcfnbncgadomaaQ07
import Derived.Test.YtfcfnbncgadomaaQ01
set_option linter.unusedVariables false
set_option linter.unusedSimpArgs false
namespace Go.Proofs.Ytfcfnbncgadomaa.Pl
open Go.RowKit
theorem bits_eq (n : Int) (a b : Nat) (hb : b ≤ 31) : bits .and .i64 (n / 2 ^ a) (wrap64 (wrap64 (2 ^ b) - 1)) = n / pw a % pw b := by
  have p1 := pw_pos b
  have p2 : pw b ≤ 2147483648 := pw_mono hb
  unfold pw at p1 p2
  have e1 : wrap64 (2 ^ b) = 2 ^ b := by
    generalize (2 : Int) ^ b = x at *
    unfold wrap64; omega
  have e2 : wrap64 (2 ^ b - 1) = 2 ^ b - 1 := by
    generalize (2 : Int) ^ b = x at *
    unfold wrap64; omega
  rw [e1, e2, mask64 _ b (by omega)]
  rfl
end Go.Proofs.Ytfcfnbncgadomaa.Pl
namespace Go.Proofs.Ytfcfnbncgadomaa.W
open Go.RowKit
end Go.Proofs.Ytfcfnbncgadomaa.W
namespace Go.Proofs.Ytfcfnbncgadomaa.Pl
/-- what Imm adds to a word, form by form -/
def imw : Nat → Int → Int
  | 1, im => (im / Pl.pw 0 % Pl.pw 0 * 1 + im / Pl.pw 0 % Pl.pw 0 * 1 + im / Pl.pw 0 % Pl.pw 0 * 1 + im / Pl.pw 0 % Pl.pw 0 * 1 : Int)
  | 2, im => (im / Pl.pw 0 % Pl.pw 12 * 1048576 + im / Pl.pw 0 % Pl.pw 0 * 1 + im / Pl.pw 0 % Pl.pw 0 * 1 + im / Pl.pw 0 % Pl.pw 0 * 1 : Int)
  | 3, im => (im / Pl.pw 0 % Pl.pw 5 * 1048576 + im / Pl.pw 0 % Pl.pw 0 * 1 + im / Pl.pw 0 % Pl.pw 0 * 1 + im / Pl.pw 0 % Pl.pw 0 * 1 : Int)
  | 4, im => (im / Pl.pw 5 % Pl.pw 7 * 33554432 + im / Pl.pw 0 % Pl.pw 5 * 128 + im / Pl.pw 0 % Pl.pw 0 * 1 + im / Pl.pw 0 % Pl.pw 0 * 1 : Int)
  | 5, im => (im / Pl.pw 12 % Pl.pw 1 * 2147483648 + im / Pl.pw 5 % Pl.pw 6 * 33554432 + im / Pl.pw 1 % Pl.pw 4 * 256 + im / Pl.pw 11 % Pl.pw 1 * 128 : Int)
  | 6, im => (im / Pl.pw 0 % Pl.pw 20 * 4096 + im / Pl.pw 0 % Pl.pw 0 * 1 + im / Pl.pw 0 % Pl.pw 0 * 1 + im / Pl.pw 0 % Pl.pw 0 * 1 : Int)
  | 7, im => (im / Pl.pw 20 % Pl.pw 1 * 2147483648 + im / Pl.pw 1 % Pl.pw 10 * 2097152 + im / Pl.pw 11 % Pl.pw 1 * 1048576 + im / Pl.pw 12 % Pl.pw 8 * 4096 : Int)
  | 8, im => (im / Pl.pw 0 % Pl.pw 0 * 1 + im / Pl.pw 0 % Pl.pw 0 * 1 + im / Pl.pw 0 % Pl.pw 0 * 1 + im / Pl.pw 0 % Pl.pw 0 * 1 : Int)
  | _, _ => 0
end Go.Proofs.Ytfcfnbncgadomaa.Pl
namespace Go.Proofs.Ytfcfnbncgadomaa.W
open Go.RowKit
theorem vint {k : IntKind} {a b : Int} (h : a = b) : Value.int k a = Value.int k b := by rw [h]
def Im1 (im : Int) (v i : Value) : Prop := (i = .int .i64 0 ∧ v = .int .i64 (0 : Int)) ∨ (i = .int .i64 1 ∧ v = .int .i64 (im / Pl.pw 0 % Pl.pw 0 * 1 : Int)) ∨ (i = .int .i64 2 ∧ v = .int .i64 (im / Pl.pw 0 % Pl.pw 0 * 1 + im / Pl.pw 0 % Pl.pw 0 * 1 : Int)) ∨ (i = .int .i64 3 ∧ v = .int .i64 (im / Pl.pw 0 % Pl.pw 0 * 1 + im / Pl.pw 0 % Pl.pw 0 * 1 + im / Pl.pw 0 % Pl.pw 0 * 1 : Int)) ∨ (i = .int .i64 4 ∧ v = .int .i64 (im / Pl.pw 0 % Pl.pw 0 * 1 + im / Pl.pw 0 % Pl.pw 0 * 1 + im / Pl.pw 0 % Pl.pw 0 * 1 + im / Pl.pw 0 % Pl.pw 0 * 1 : Int))
def Im2 (im : Int) (v i : Value) : Prop := (i = .int .i64 0 ∧ v = .int .i64 (0 : Int)) ∨ (i = .int .i64 1 ∧ v = .int .i64 (im / Pl.pw 0 % Pl.pw 12 * 1048576 : Int)) ∨ (i = .int .i64 2 ∧ v = .int .i64 (im / Pl.pw 0 % Pl.pw 12 * 1048576 + im / Pl.pw 0 % Pl.pw 0 * 1 : Int)) ∨ (i = .int .i64 3 ∧ v = .int .i64 (im / Pl.pw 0 % Pl.pw 12 * 1048576 + im / Pl.pw 0 % Pl.pw 0 * 1 + im / Pl.pw 0 % Pl.pw 0 * 1 : Int)) ∨ (i = .int .i64 4 ∧ v = .int .i64 (im / Pl.pw 0 % Pl.pw 12 * 1048576 + im / Pl.pw 0 % Pl.pw 0 * 1 + im / Pl.pw 0 % Pl.pw 0 * 1 + im / Pl.pw 0 % Pl.pw 0 * 1 : Int))
def Im3 (im : Int) (v i : Value) : Prop := (i = .int .i64 0 ∧ v = .int .i64 (0 : Int)) ∨ (i = .int .i64 1 ∧ v = .int .i64 (im / Pl.pw 0 % Pl.pw 5 * 1048576 : Int)) ∨ (i = .int .i64 2 ∧ v = .int .i64 (im / Pl.pw 0 % Pl.pw 5 * 1048576 + im / Pl.pw 0 % Pl.pw 0 * 1 : Int)) ∨ (i = .int .i64 3 ∧ v = .int .i64 (im / Pl.pw 0 % Pl.pw 5 * 1048576 + im / Pl.pw 0 % Pl.pw 0 * 1 + im / Pl.pw 0 % Pl.pw 0 * 1 : Int)) ∨ (i = .int .i64 4 ∧ v = .int .i64 (im / Pl.pw 0 % Pl.pw 5 * 1048576 + im / Pl.pw 0 % Pl.pw 0 * 1 + im / Pl.pw 0 % Pl.pw 0 * 1 + im / Pl.pw 0 % Pl.pw 0 * 1 : Int))
def Im4 (im : Int) (v i : Value) : Prop := (i = .int .i64 0 ∧ v = .int .i64 (0 : Int)) ∨ (i = .int .i64 1 ∧ v = .int .i64 (im / Pl.pw 5 % Pl.pw 7 * 33554432 : Int)) ∨ (i = .int .i64 2 ∧ v = .int .i64 (im / Pl.pw 5 % Pl.pw 7 * 33554432 + im / Pl.pw 0 % Pl.pw 5 * 128 : Int)) ∨ (i = .int .i64 3 ∧ v = .int .i64 (im / Pl.pw 5 % Pl.pw 7 * 33554432 + im / Pl.pw 0 % Pl.pw 5 * 128 + im / Pl.pw 0 % Pl.pw 0 * 1 : Int)) ∨ (i = .int .i64 4 ∧ v = .int .i64 (im / Pl.pw 5 % Pl.pw 7 * 33554432 + im / Pl.pw 0 % Pl.pw 5 * 128 + im / Pl.pw 0 % Pl.pw 0 * 1 + im / Pl.pw 0 % Pl.pw 0 * 1 : Int))
end Go.Proofs.Ytfcfnbncgadomaa.W
namespace Go.Proofs.Ytfcfnbncgadomaa.W
open Go.RowKit
def Im5 (im : Int) (v i : Value) : Prop := (i = .int .i64 0 ∧ v = .int .i64 (0 : Int)) ∨ (i = .int .i64 1 ∧ v = .int .i64 (im / Pl.pw 12 % Pl.pw 1 * 2147483648 : Int)) ∨ (i = .int .i64 2 ∧ v = .int .i64 (im / Pl.pw 12 % Pl.pw 1 * 2147483648 + im / Pl.pw 5 % Pl.pw 6 * 33554432 : Int)) ∨ (i = .int .i64 3 ∧ v = .int .i64 (im / Pl.pw 12 % Pl.pw 1 * 2147483648 + im / Pl.pw 5 % Pl.pw 6 * 33554432 + im / Pl.pw 1 % Pl.pw 4 * 256 : Int)) ∨ (i = .int .i64 4 ∧ v = .int .i64 (im / Pl.pw 12 % Pl.pw 1 * 2147483648 + im / Pl.pw 5 % Pl.pw 6 * 33554432 + im / Pl.pw 1 % Pl.pw 4 * 256 + im / Pl.pw 11 % Pl.pw 1 * 128 : Int))
def Im6 (im : Int) (v i : Value) : Prop := (i = .int .i64 0 ∧ v = .int .i64 (0 : Int)) ∨ (i = .int .i64 1 ∧ v = .int .i64 (im / Pl.pw 0 % Pl.pw 20 * 4096 : Int)) ∨ (i = .int .i64 2 ∧ v = .int .i64 (im / Pl.pw 0 % Pl.pw 20 * 4096 + im / Pl.pw 0 % Pl.pw 0 * 1 : Int)) ∨ (i = .int .i64 3 ∧ v = .int .i64 (im / Pl.pw 0 % Pl.pw 20 * 4096 + im / Pl.pw 0 % Pl.pw 0 * 1 + im / Pl.pw 0 % Pl.pw 0 * 1 : Int)) ∨ (i = .int .i64 4 ∧ v = .int .i64 (im / Pl.pw 0 % Pl.pw 20 * 4096 + im / Pl.pw 0 % Pl.pw 0 * 1 + im / Pl.pw 0 % Pl.pw 0 * 1 + im / Pl.pw 0 % Pl.pw 0 * 1 : Int))
def Im7 (im : Int) (v i : Value) : Prop := (i = .int .i64 0 ∧ v = .int .i64 (0 : Int)) ∨ (i = .int .i64 1 ∧ v = .int .i64 (im / Pl.pw 20 % Pl.pw 1 * 2147483648 : Int)) ∨ (i = .int .i64 2 ∧ v = .int .i64 (im / Pl.pw 20 % Pl.pw 1 * 2147483648 + im / Pl.pw 1 % Pl.pw 10 * 2097152 : Int)) ∨ (i = .int .i64 3 ∧ v = .int .i64 (im / Pl.pw 20 % Pl.pw 1 * 2147483648 + im / Pl.pw 1 % Pl.pw 10 * 2097152 + im / Pl.pw 11 % Pl.pw 1 * 1048576 : Int)) ∨ (i = .int .i64 4 ∧ v = .int .i64 (im / Pl.pw 20 % Pl.pw 1 * 2147483648 + im / Pl.pw 1 % Pl.pw 10 * 2097152 + im / Pl.pw 11 % Pl.pw 1 * 1048576 + im / Pl.pw 12 % Pl.pw 8 * 4096 : Int))
def Im8 (im : Int) (v i : Value) : Prop := (i = .int .i64 0 ∧ v = .int .i64 (0 : Int)) ∨ (i = .int .i64 1 ∧ v = .int .i64 (im / Pl.pw 0 % Pl.pw 0 * 1 : Int)) ∨ (i = .int .i64 2 ∧ v = .int .i64 (im / Pl.pw 0 % Pl.pw 0 * 1 + im / Pl.pw 0 % Pl.pw 0 * 1 : Int)) ∨ (i = .int .i64 3 ∧ v = .int .i64 (im / Pl.pw 0 % Pl.pw 0 * 1 + im / Pl.pw 0 % Pl.pw 0 * 1 + im / Pl.pw 0 % Pl.pw 0 * 1 : Int)) ∨ (i = .int .i64 4 ∧ v = .int .i64 (im / Pl.pw 0 % Pl.pw 0 * 1 + im / Pl.pw 0 % Pl.pw 0 * 1 + im / Pl.pw 0 % Pl.pw 0 * 1 + im / Pl.pw 0 % Pl.pw 0 * 1 : Int))
end Go.Proofs.Ytfcfnbncgadomaa.W
namespace Go.Proofs.Ytfcfnbncgadomaa.Pl
theorem cc_bd : ∀ k : Nat, k < 48 → ∀ i : Nat, i < 4 → 0 ≤ cc k i ∧ cc k i ≤ 127 := by decide +kernel
def cw (k : Nat) : Int := cc k 0 + cc k 1 * 4096 + cc k 2 * 33554432 + cc k 3 * 1048576
/-- the word of an instruction -/
def enc (k : Nat) (rd r1 r2 im : Int) : Int := cw k + imw (fmN k) im + rd * 128 + r1 * 32768 + r2 * 1048576
end Go.Proofs.Ytfcfnbncgadomaa.Pl
namespace Go.Proofs.Ytfcfnbncgadomaa.W
open Go.RowKit
theorem kept_cells {w u : World} {cs : Array Value} {t : TypeId} (hb : Below (w.alloc (.cells cs t)).heap.size (w.alloc (.cells cs t)) u) (i : Nat) : u.cell? ⟨w.heap.size, i, none⟩ = cs[i]? :=
  cell_of_row u _ i cs t (0, 0) (kept_row hb)
end Go.Proofs.Ytfcfnbncgadomaa.W
namespace Go.Proofs.Ytfcfnbncgadomaa.Pl
theorem pw0 : pw 0 = 1 := by decide
theorem pw1 : pw 1 = 2 := by decide
theorem pw4 : pw 4 = 16 := by decide
theorem pw5 : pw 5 = 32 := by decide
theorem pw6 : pw 6 = 64 := by decide
theorem pw7 : pw 7 = 128 := by decide
theorem pw8 : pw 8 = 256 := by decide
theorem pw10 : pw 10 = 1024 := by decide
theorem pw11 : pw 11 = 2048 := by decide
theorem pw12 : pw 12 = 4096 := by decide
theorem pw20 : pw 20 = 1048576 := by decide
theorem rg_bd {r : Int} {u : Bool} (h : rg r u = true) : 0 ≤ r ∧ r ≤ 31 ∧ (u = true ∨ r = 0) := by unfold rg at h; exact of_decide_eq_true h
theorem imo_bd {f : Nat} {im : Int} (h : imo f im = true) : lo f ≤ im ∧ im ≤ hi f := by
  unfold imo at h; simp only [Bool.and_eq_true, decide_eq_true_eq] at h; exact h.1
theorem okF_parts {f : Nat} {rd r1 r2 im : Int} (h : okF f rd r1 r2 im = true) : rg rd (us f 0) = true ∧ rg r1 (us f 1) = true ∧ rg r2 (us f 2) = true ∧ imo f im = true := by
  unfold okF at h; simp only [Bool.and_eq_true] at h; exact ⟨h.1.1.1, h.1.1.2, h.1.2, h.2⟩
theorem lohi : ∀ f : Nat, f < 9 → -1048576 ≤ lo f ∧ hi f ≤ 1048575 := by decide +kernel
theorem imw_bd (f : Nat) (h1 : 1 ≤ f) (h2 : f ≤ 8) (im : Int) : 0 ≤ imw f im ∧ imw f im ≤ 8589934592 := by
  rcases form_cases f h1 h2 with rfl | rfl | rfl | rfl | rfl | rfl | rfl | rfl <;> (unfold imw; simp only [pw0, pw1, pw4, pw5, pw6, pw7, pw8, pw10, pw11, pw12, pw20]; omega)
theorem cc_zero : ∀ k : Nat, k < 43 → 1 ≤ k → cc k 3 = 0 ∧ (fmN k = 2 ∨ fmN k = 4 ∨ fmN k = 5 → cc k 2 = 0) := by decide +kernel
theorem fm_back1 (k : Nat) (h : k < 48) (h1 : 1 ≤ k) : (fmN k = 1 → k ≤ 18) ∧ (fmN k = 2 → (19 ≤ k ∧ k ≤ 24) ∨ (28 ≤ k ∧ k ≤ 33)) ∧ (fmN k = 3 → 25 ≤ k ∧ k ≤ 27) ∧ (fmN k = 4 → 34 ≤ k ∧ k ≤ 36) := by
  obtain ⟨a, c, b, d, e, f, g, i, j⟩ := fm_ranges k h
  omega
theorem fm_back2 (k : Nat) (h : k < 48) (h1 : 1 ≤ k) : (fmN k = 5 → 37 ≤ k ∧ k ≤ 42) ∧ (fmN k = 6 → k = 43 ∨ k = 44) ∧ (fmN k = 7 → k = 45) ∧ (fmN k = 8 → k = 46 ∨ k = 47) := by
  obtain ⟨a, c, b, d, e, f, g, i, j⟩ := fm_ranges k h
  omega
theorem cw43 : cw 43 = 55 := by decide +kernel
theorem cw44 : cw 44 = 23 := by decide +kernel
theorem cw45 : cw 45 = 111 := by decide +kernel
theorem cw46 : cw 46 = 115 := by decide +kernel
theorem cw47 : cw 47 = 1048691 := by decide +kernel
theorem wd_part (im : Int) : wd im = im % 4294967296 := rfl
end Go.Proofs.Ytfcfnbncgadomaa.Pl
namespace Go.Proofs.Ytfcfnbncgadomaa.W
open Go.RowKit
theorem specEnc_yes (k : Nat) (h1 : 1 ≤ k) (h2 : k ≤ 47) (rd r1 r2 im : Int) (h : iok k rd r1 r2 im = true) (w : World) :
    Calls Try.prog 85 #[.agg #[.int .i64 k, .int .i64 rd, .int .i64 r1, .int .i64 r2, .int .i64 im]] w fun e w' => e = .returned (.tuple #[.int .i64 (Pl.enc k rd r1 r2 im), .bool true]) ∧ Below w.heap.size w w' := by
  have hok : Pl.okF (Pl.fmN k) rd r1 r2 im = true := by
    have e : iok (k : Int) rd r1 r2 im = Pl.okF (Pl.fmN k) rd r1 r2 im := by simp [iok]; intro; omega
    rw [← e]; exact h
  obtain ⟨g0, g1, g2, g3⟩ := Pl.okF_parts hok
  obtain ⟨a1, a2, a3⟩ := Pl.rg_bd g0
  obtain ⟨b1, b2, b3⟩ := Pl.rg_bd g1
  obtain ⟨c1, c2, c3⟩ := Pl.rg_bd g2
  obtain ⟨i1, i2⟩ := Pl.imo_bd g3
  obtain ⟨f1, f2, _⟩ := fm_at k h1 h2
  obtain ⟨x1, x2⟩ := Pl.lohi (Pl.fmN k) (by omega)
  obtain ⟨y1, y2, y3, y4⟩ := Pl.fm_back1 k (by omega) h1
  obtain ⟨y5, y6, y7, y8⟩ := Pl.fm_back2 k (by omega) h1
  have fin : ∀ v : Int, v = Pl.enc k rd r1 r2 im → (Calls Try.prog 85 #[.agg #[.int .i64 k, .int .i64 rd, .int .i64 r1, .int .i64 r2, .int .i64 im]] w fun e w' => e = .returned (.tuple #[.int .i64 v, .bool true]) ∧ Below w.heap.size w w') → Calls Try.prog 85 #[.agg #[.int .i64 k, .int .i64 rd, .int .i64 r1, .int .i64 r2, .int .i64 im]] w fun e w' => e = .returned (.tuple #[.int .i64 (Pl.enc k rd r1 r2 im), .bool true]) ∧ Below w.heap.size w w' := fun v hv hc => by rw [← hv]; exact hc
  have hcase := Pl.form_cases (Pl.fmN k) f1 f2
  rcases hcase with e | e | e | e | e | e | e | e
  · have hk := y1 e
    obtain ⟨z3, _⟩ := Pl.cc_zero k (by omega) h1
    refine fin _ ?_ (specEnc_1 k h1 (by omega) e ⟨h1, hk⟩ rd r1 r2 im h w ⟨a1, a2⟩ ⟨b1, b2⟩ ⟨c1, c2⟩ (by omega))
    unfold Pl.enc Pl.cw; rw [e, z3]; unfold Pl.imw; simp only [Pl.pw0]; omega
  · have hk := y2 e
    obtain ⟨z3, z2⟩ := Pl.cc_zero k (by omega) h1
    refine fin _ ?_ (specEnc_2 k h1 (by omega) e hk rd r1 r2 im h w ⟨a1, a2⟩ ⟨b1, b2⟩ ⟨c1, c2⟩ (by omega))
    unfold Pl.enc Pl.cw; rw [e, z3, z2 (.inl e)]; unfold Pl.imw; simp only [Pl.wd_part, Pl.pw0, Pl.pw12]; omega
  · have hk := y3 e
    obtain ⟨z3, _⟩ := Pl.cc_zero k (by omega) h1
    rw [e] at i1 i2
    have i1' : 0 ≤ im := i1
    have i2' : im ≤ 31 := i2
    refine fin _ ?_ (specEnc_3 k h1 (by omega) e hk rd r1 r2 im h w ⟨a1, a2⟩ ⟨b1, b2⟩ ⟨c1, c2⟩ (by omega) i1')
    unfold Pl.enc Pl.cw; rw [e, z3]; unfold Pl.imw; simp only [Pl.pw0, Pl.pw5]; omega
  · have hk := y4 e
    obtain ⟨z3, z2⟩ := Pl.cc_zero k (by omega) h1
    refine fin _ ?_ (specEnc_4 k h1 (by omega) e hk rd r1 r2 im h w ⟨a1, a2⟩ ⟨b1, b2⟩ ⟨c1, c2⟩ (by omega))
    unfold Pl.enc Pl.cw; rw [e, z3, z2 (.inr (.inl e))]; unfold Pl.imw; simp only [Pl.wd_part, Pl.pw0, Pl.pw5, Pl.pw7]; omega
  · have hk := y5 e
    obtain ⟨z3, z2⟩ := Pl.cc_zero k (by omega) h1
    refine fin _ ?_ (specEnc_5 k h1 (by omega) e hk rd r1 r2 im h w ⟨a1, a2⟩ ⟨b1, b2⟩ ⟨c1, c2⟩ (by omega))
    unfold Pl.enc Pl.cw; rw [e, z3, z2 (.inr (.inr e))]; unfold Pl.imw; simp only [Pl.wd_part, Pl.pw1, Pl.pw4, Pl.pw5, Pl.pw6, Pl.pw11, Pl.pw12]; omega
  · rw [e] at i1 i2 b3
    have i1' : 0 ≤ im := i1
    have i2' : im ≤ 1048575 := i2
    have r1z : r1 = 0 := by rcases b3 with b3 | b3; · cases b3
                            · exact b3
    rcases y6 e with rfl | rfl
    · refine fin _ ?_ (specEnc_k43 rd r1 r2 im h w ⟨a1, a2⟩ ⟨c1, c2⟩ (by omega) i1')
      unfold Pl.enc; rw [Pl.cw43, e]; unfold Pl.imw; simp only [Pl.pw0, Pl.pw20]; omega
    · refine fin _ ?_ (specEnc_k44 rd r1 r2 im h w ⟨a1, a2⟩ ⟨c1, c2⟩ (by omega) i1')
      unfold Pl.enc; rw [Pl.cw44, e]; unfold Pl.imw; simp only [Pl.pw0, Pl.pw20]; omega
  · rw [e] at b3
    have r1z : r1 = 0 := by rcases b3 with b3 | b3; · cases b3
                            · exact b3
    obtain rfl := y7 e
    refine fin _ ?_ (specEnc_k45 rd r1 r2 im h w ⟨a1, a2⟩ ⟨c1, c2⟩ (by omega))
    unfold Pl.enc; rw [Pl.cw45, e]; unfold Pl.imw; simp only [Pl.wd_part, Pl.pw1, Pl.pw8, Pl.pw10, Pl.pw11, Pl.pw12, Pl.pw20]; omega
  · rw [e] at i1 i2 a3 b3 c3
    have i1' : 0 ≤ im := i1
    have i2' : im ≤ 0 := i2
    have rdz : rd = 0 := by rcases a3 with a3 | a3; · cases a3
                            · exact a3
    have r1z : r1 = 0 := by rcases b3 with b3 | b3; · cases b3
                            · exact b3
    have r2z : r2 = 0 := by rcases c3 with c3 | c3; · cases c3
                            · exact c3
    rcases y8 e with rfl | rfl
    · refine fin _ ?_ (specEnc_k46 rd r1 r2 im h w ⟨a1, a2⟩ ⟨c1, c2⟩ (by omega))
      unfold Pl.enc; rw [Pl.cw46, e]; unfold Pl.imw; simp only [Pl.pw0]; omega
    · refine fin _ ?_ (specEnc_k47 rd r1 r2 im h w ⟨a1, a2⟩ ⟨c1, c2⟩ (by omega))
      unfold Pl.enc; rw [Pl.cw47, e]; unfold Pl.imw; simp only [Pl.pw0]; omega
end Go.Proofs.Ytfcfnbncgadomaa.W
namespace Go.Proofs.Ytfcfnbncgadomaa.Pl
/-- the fixed parts that a word shows to a form -/
def rf (f : Nat) (w : Int) : Nat → Int
  | 0 => w % 128
  | 1 => if f = 6 ∨ f = 7 then 0 else w / 4096 % 8
  | 2 => if f = 1 ∨ f = 3 ∨ f = 8 then w / 33554432 % 128 else 0
  | 3 => if f = 8 then w / 1048576 % 32 else 0
  | _ => 0
def fits (k : Nat) (w : Int) : Bool := decide (cc k 0 = rf (fmN k) w 0) && decide (cc k 1 = rf (fmN k) w 1) && decide (cc k 2 = rf (fmN k) w 2) && decide (cc k 3 = rf (fmN k) w 3)
theorem fits_iff (k : Nat) (w : Int) : fits k w = true ↔ cc k 0 = rf (fmN k) w 0 ∧ cc k 1 = rf (fmN k) w 1 ∧ cc k 2 = rf (fmN k) w 2 ∧ cc k 3 = rf (fmN k) w 3 := by
  simp only [fits, Bool.and_eq_true, decide_eq_true_eq, and_assoc]
def b1 (f : Nat) : Bool := !(f == 6 || f == 7)
def b2 (f : Nat) : Bool := f == 1 || f == 3 || f == 8
def b3 (f : Nat) : Bool := f == 8
def clash (j k : Nat) : Bool := cc j 0 != cc k 0 || (b1 (fmN j) && b1 (fmN k) && cc j 1 != cc k 1) || (b2 (fmN j) && b2 (fmN k) && cc j 2 != cc k 2) || (b3 (fmN j) && b3 (fmN k) && cc j 3 != cc k 3)
theorem clash_all : ((List.range 48).all fun j => (List.range 48).all fun k => j == 0 || k == 0 || j == k || clash j k) = true := by decide +kernel
theorem fits_one {j k : Nat} (hj : 1 ≤ j) (hj' : j ≤ 47) (hk : 1 ≤ k) (hk' : k ≤ 47) {w : Int} (h1 : fits j w = true) (h2 : fits k w = true) : j = k := by
  have := clash_all
  rw [List.all_eq_true] at this
  have := this j (List.mem_range.mpr (by omega))
  rw [List.all_eq_true] at this
  have := this k (List.mem_range.mpr (by omega))
  rw [fits_iff] at h1 h2
  obtain ⟨x0, x1, x2, x3⟩ := h1
  obtain ⟨y0, y1, y2, y3⟩ := h2
  simp only [clash, b1, b2, b3, x0, x1, x2, x3, y0, y1, y2, y3, rf, Bool.or_eq_true, Bool.and_eq_true, bne_iff_ne, beq_iff_eq, Bool.not_eq_true', Bool.or_eq_false_iff, beq_eq_false_iff_ne] at this
  rcases this with ((h | h) | h) | h
  · omega
  · omega
  · exact h
  · exfalso
    rcases h with ((h | ⟨⟨p, q⟩, h⟩) | ⟨⟨p, q⟩, h⟩) | ⟨⟨p, q⟩, h⟩
    · exact h rfl
    · rw [if_neg (by omega), if_neg (by omega)] at h; exact h rfl
    · rw [if_pos (by omega), if_pos (by omega)] at h; exact h rfl
    · rw [if_pos (by omega), if_pos (by omega)] at h; exact h rfl
theorem cc_more : ∀ k : Nat, k < 48 → cc k 1 ≤ 7 ∧ cc k 3 ≤ 31 := by decide +kernel
theorem cc_forms : ((List.range 48).all fun k => k == 0 || ((b1 (fmN k) || cc k 1 == 0) && (b2 (fmN k) || cc k 2 == 0) && (b3 (fmN k) || cc k 3 == 0))) = true := by decide +kernel
theorem us_none : ∀ f : Nat, f < 9 → (f = 4 ∨ f = 5 ∨ f = 8 → us f 0 = false) ∧ (f = 6 ∨ f = 7 ∨ f = 8 → us f 1 = false) ∧ (f = 2 ∨ f = 3 ∨ f = 6 ∨ f = 7 ∨ f = 8 → us f 2 = false) := by decide +kernel
theorem enc_fits (k : Nat) (h1 : 1 ≤ k) (h2 : k ≤ 47) (rd r1 r2 im : Int) (hok : okF (fmN k) rd r1 r2 im = true) :
    fits k (enc k rd r1 r2 im) = true ∧ 0 ≤ enc k rd r1 r2 im ∧ enc k rd r1 r2 im ≤ 4294967295 := by
  obtain ⟨g0, g1, g2, g3⟩ := okF_parts hok
  obtain ⟨a1, a2, a3⟩ := rg_bd g0
  obtain ⟨b1, b2, b3⟩ := rg_bd g1
  obtain ⟨c1, c2, c3⟩ := rg_bd g2
  obtain ⟨i1, i2⟩ := imo_bd g3
  obtain ⟨f1, f2, _⟩ := fm_cases k (by omega) h1
  obtain ⟨u1, u2, u3⟩ := us_none (fmN k) (by omega)
  have z := cc_forms
  rw [List.all_eq_true] at z
  have z := z k (List.mem_range.mpr (by omega))
  simp only [Pl.b1, Pl.b2, Pl.b3, Bool.or_eq_true, Bool.and_eq_true, beq_iff_eq, Bool.not_eq_true', Bool.or_eq_false_iff, beq_eq_false_iff_ne] at z
  obtain ⟨m1, m3⟩ := cc_more k (by omega)
  obtain ⟨p0, q0⟩ := cc_bd' k (by omega) 0 (by omega)
  obtain ⟨p1, q1⟩ := cc_bd' k (by omega) 1 (by omega)
  obtain ⟨p2, q2⟩ := cc_bd' k (by omega) 2 (by omega)
  obtain ⟨p3, q3⟩ := cc_bd' k (by omega) 3 (by omega)
  rw [fits_iff]
  unfold enc cw
  generalize cc k 0 = C0 at *
  generalize cc k 1 = C1 at *
  generalize cc k 2 = C2 at *
  generalize cc k 3 = C3 at *
  generalize fmN k = f at *
  have hcase := form_cases f f1 f2
  have sa : us f 0 = false → rd = 0 := fun e => by rcases a3 with t | t; · rw [e] at t; cases t
                                                   · exact t
  have sb : us f 1 = false → r1 = 0 := fun e => by rcases b3 with t | t; · rw [e] at t; cases t
                                                   · exact t
  have sc : us f 2 = false → r2 = 0 := fun e => by rcases c3 with t | t; · rw [e] at t; cases t
                                                   · exact t
  have ta := fun h => sa (u1 h)
  have tb := fun h => sb (u2 h)
  have tc := fun h => sc (u3 h)
  clear sa sb sc u1 u2 u3 a3 b3 c3 g0 g1 g2 g3 hok
  rcases hcase with e | e | e | e | e | e | e | e <;> subst e <;> simp [rf, imw, lo, hi, pw0, pw1, pw4, pw5, pw6, pw7, pw8, pw10, pw11, pw12, pw20] at * <;> first | omega | skip
  have t1 : 0 ≤ im / 4096 % 2 ∧ im / 4096 % 2 ≤ 1 := by omega
  have t2 : 0 ≤ im / 32 % 64 ∧ im / 32 % 64 ≤ 63 := by omega
  have t3 : 0 ≤ im / 2 % 16 ∧ im / 2 % 16 ≤ 15 := by omega
  have t4 : 0 ≤ im / 2048 % 2 ∧ im / 2048 % 2 ≤ 1 := by omega
  clear i1 i2
  generalize im / 4096 % 2 = A at *
  generalize im / 32 % 64 = B at *
  generalize im / 2 % 16 = C at *
  generalize im / 2048 % 2 = D at *
  obtain ⟨rfl, rfl⟩ : rd = 0 ∧ C2 = 0 := by omega
  obtain rfl : C3 = 0 := by omega
  refine ⟨⟨?_, ?_⟩, ?_, ?_⟩ <;> omega
end Go.Proofs.Ytfcfnbncgadomaa.Pl
namespace Go.Proofs.Ytfcfnbncgadomaa.W
open Go.RowKit
theorem keep_drew {U : World} {g m : Nat} {o : Obj} (h : U.heap[g]? = some o) : (U.drewN m).heap[g]? = some o := h
theorem keep_alloc {U : World} {g : Nat} {o p : Obj} (h : U.heap[g]? = some o) (hg : g < U.heap.size) : (U.alloc p).heap[g]? = some o := (Below.heap_alloc U p g hg).trans h
theorem keep_other {U : World} {g b i : Nat} {o : Obj} {v : Value} (h : U.heap[g]? = some o) (hg : g ≠ b) : (U.setCell ⟨b, i, none⟩ v).heap[g]? = some o := (Below.heap_setCell U ⟨b, i, none⟩ v g hg).trans h
theorem row4 {U : World} {g : Nat} {t : TypeId} {a b c d x0 x1 x2 x3 : Value} (h : U.heap[g]? = some (.cells #[a, b, c, d] t (0, 0))) : ((((U.setCell ⟨g, 0, none⟩ x0).setCell ⟨g, 1, none⟩ x1).setCell ⟨g, 2, none⟩ x2).setCell ⟨g, 3, none⟩ x3).heap[g]? = some (.cells #[x0, x1, x2, x3] t (0, 0)) :=
  heap_setCell_same _ _ _ _ _ _ (heap_setCell_same _ _ _ _ _ _ (heap_setCell_same _ _ _ _ _ _ (heap_setCell_same _ _ _ _ _ _ h)))
theorem byte4 {a0 a1 a2 a3 b0 b1 b2 b3 : Int} (h0 : a0 = b0) (h1 : a1 = b1) (h2 : a2 = b2) (h3 : a3 = b3) : Value.agg #[.int .u8 a0, .int .u8 a1, .int .u8 a2, .int .u8 a3] = Value.agg #[.int .u8 b0, .int .u8 b1, .int .u8 b2, .int .u8 b3] := by rw [h0, h1, h2, h3]
theorem ret_of {v u : Value} (h : v = u) : Ending.returned v = Ending.returned u := by rw [h]
theorem pw3 : Pl.pw 3 = 8 := by decide
theorem pw25 : Pl.pw 25 = 33554432 := by decide
end Go.Proofs.Ytfcfnbncgadomaa.W
namespace Go.Proofs.Ytfcfnbncgadomaa.Pl
/-- what Imm is read as, form by form -/
def rim : Nat → Int → Int
  | 1, n => (n / Pl.pw 0 % Pl.pw 0 * 1 + n / Pl.pw 0 % Pl.pw 0 * 1 + n / Pl.pw 0 % Pl.pw 0 * 1 + n / Pl.pw 0 % Pl.pw 0 * 1 : Int)
  | 2, n => (n / Pl.pw 20 % Pl.pw 12 * 1 + n / Pl.pw 0 % Pl.pw 0 * 1 + n / Pl.pw 0 % Pl.pw 0 * 1 + n / Pl.pw 0 % Pl.pw 0 * 1 : Int)
  | 3, n => (n / Pl.pw 20 % Pl.pw 5 * 1 + n / Pl.pw 0 % Pl.pw 0 * 1 + n / Pl.pw 0 % Pl.pw 0 * 1 + n / Pl.pw 0 % Pl.pw 0 * 1 : Int)
  | 4, n => (n / Pl.pw 25 % Pl.pw 7 * 32 + n / Pl.pw 7 % Pl.pw 5 * 1 + n / Pl.pw 0 % Pl.pw 0 * 1 + n / Pl.pw 0 % Pl.pw 0 * 1 : Int)
  | 5, n => (n / Pl.pw 31 % Pl.pw 1 * 4096 + n / Pl.pw 25 % Pl.pw 6 * 32 + n / Pl.pw 8 % Pl.pw 4 * 2 + n / Pl.pw 7 % Pl.pw 1 * 2048 : Int)
  | 6, n => (n / Pl.pw 12 % Pl.pw 20 * 1 + n / Pl.pw 0 % Pl.pw 0 * 1 + n / Pl.pw 0 % Pl.pw 0 * 1 + n / Pl.pw 0 % Pl.pw 0 * 1 : Int)
  | 7, n => (n / Pl.pw 31 % Pl.pw 1 * 1048576 + n / Pl.pw 21 % Pl.pw 10 * 2 + n / Pl.pw 20 % Pl.pw 1 * 2048 + n / Pl.pw 12 % Pl.pw 8 * 4096 : Int)
  | 8, n => (n / Pl.pw 0 % Pl.pw 0 * 1 + n / Pl.pw 0 % Pl.pw 0 * 1 + n / Pl.pw 0 % Pl.pw 0 * 1 + n / Pl.pw 0 % Pl.pw 0 * 1 : Int)
  | _, _ => 0
def gIm (f : Nat) (n : Int) : Int := if rim f n > hi f then rim f n - (hi f + st f - lo f) else rim f n
end Go.Proofs.Ytfcfnbncgadomaa.Pl
namespace Go.Proofs.Ytfcfnbncgadomaa.W
open Go.RowKit
def Rm1 (n : Int) (v i : Value) : Prop := (i = .int .i64 0 ∧ v = .int .i64 (0 : Int)) ∨ (i = .int .i64 1 ∧ v = .int .i64 (n / Pl.pw 0 % Pl.pw 0 * 1 : Int)) ∨ (i = .int .i64 2 ∧ v = .int .i64 (n / Pl.pw 0 % Pl.pw 0 * 1 + n / Pl.pw 0 % Pl.pw 0 * 1 : Int)) ∨ (i = .int .i64 3 ∧ v = .int .i64 (n / Pl.pw 0 % Pl.pw 0 * 1 + n / Pl.pw 0 % Pl.pw 0 * 1 + n / Pl.pw 0 % Pl.pw 0 * 1 : Int)) ∨ (i = .int .i64 4 ∧ v = .int .i64 (n / Pl.pw 0 % Pl.pw 0 * 1 + n / Pl.pw 0 % Pl.pw 0 * 1 + n / Pl.pw 0 % Pl.pw 0 * 1 + n / Pl.pw 0 % Pl.pw 0 * 1 : Int))
def Rm2 (n : Int) (v i : Value) : Prop := (i = .int .i64 0 ∧ v = .int .i64 (0 : Int)) ∨ (i = .int .i64 1 ∧ v = .int .i64 (n / Pl.pw 20 % Pl.pw 12 * 1 : Int)) ∨ (i = .int .i64 2 ∧ v = .int .i64 (n / Pl.pw 20 % Pl.pw 12 * 1 + n / Pl.pw 0 % Pl.pw 0 * 1 : Int)) ∨ (i = .int .i64 3 ∧ v = .int .i64 (n / Pl.pw 20 % Pl.pw 12 * 1 + n / Pl.pw 0 % Pl.pw 0 * 1 + n / Pl.pw 0 % Pl.pw 0 * 1 : Int)) ∨ (i = .int .i64 4 ∧ v = .int .i64 (n / Pl.pw 20 % Pl.pw 12 * 1 + n / Pl.pw 0 % Pl.pw 0 * 1 + n / Pl.pw 0 % Pl.pw 0 * 1 + n / Pl.pw 0 % Pl.pw 0 * 1 : Int))
def Rm3 (n : Int) (v i : Value) : Prop := (i = .int .i64 0 ∧ v = .int .i64 (0 : Int)) ∨ (i = .int .i64 1 ∧ v = .int .i64 (n / Pl.pw 20 % Pl.pw 5 * 1 : Int)) ∨ (i = .int .i64 2 ∧ v = .int .i64 (n / Pl.pw 20 % Pl.pw 5 * 1 + n / Pl.pw 0 % Pl.pw 0 * 1 : Int)) ∨ (i = .int .i64 3 ∧ v = .int .i64 (n / Pl.pw 20 % Pl.pw 5 * 1 + n / Pl.pw 0 % Pl.pw 0 * 1 + n / Pl.pw 0 % Pl.pw 0 * 1 : Int)) ∨ (i = .int .i64 4 ∧ v = .int .i64 (n / Pl.pw 20 % Pl.pw 5 * 1 + n / Pl.pw 0 % Pl.pw 0 * 1 + n / Pl.pw 0 % Pl.pw 0 * 1 + n / Pl.pw 0 % Pl.pw 0 * 1 : Int))
def Rm4 (n : Int) (v i : Value) : Prop := (i = .int .i64 0 ∧ v = .int .i64 (0 : Int)) ∨ (i = .int .i64 1 ∧ v = .int .i64 (n / Pl.pw 25 % Pl.pw 7 * 32 : Int)) ∨ (i = .int .i64 2 ∧ v = .int .i64 (n / Pl.pw 25 % Pl.pw 7 * 32 + n / Pl.pw 7 % Pl.pw 5 * 1 : Int)) ∨ (i = .int .i64 3 ∧ v = .int .i64 (n / Pl.pw 25 % Pl.pw 7 * 32 + n / Pl.pw 7 % Pl.pw 5 * 1 + n / Pl.pw 0 % Pl.pw 0 * 1 : Int)) ∨ (i = .int .i64 4 ∧ v = .int .i64 (n / Pl.pw 25 % Pl.pw 7 * 32 + n / Pl.pw 7 % Pl.pw 5 * 1 + n / Pl.pw 0 % Pl.pw 0 * 1 + n / Pl.pw 0 % Pl.pw 0 * 1 : Int))
def Rm5 (n : Int) (v i : Value) : Prop := (i = .int .i64 0 ∧ v = .int .i64 (0 : Int)) ∨ (i = .int .i64 1 ∧ v = .int .i64 (n / Pl.pw 31 % Pl.pw 1 * 4096 : Int)) ∨ (i = .int .i64 2 ∧ v = .int .i64 (n / Pl.pw 31 % Pl.pw 1 * 4096 + n / Pl.pw 25 % Pl.pw 6 * 32 : Int)) ∨ (i = .int .i64 3 ∧ v = .int .i64 (n / Pl.pw 31 % Pl.pw 1 * 4096 + n / Pl.pw 25 % Pl.pw 6 * 32 + n / Pl.pw 8 % Pl.pw 4 * 2 : Int)) ∨ (i = .int .i64 4 ∧ v = .int .i64 (n / Pl.pw 31 % Pl.pw 1 * 4096 + n / Pl.pw 25 % Pl.pw 6 * 32 + n / Pl.pw 8 % Pl.pw 4 * 2 + n / Pl.pw 7 % Pl.pw 1 * 2048 : Int))
def Rm6 (n : Int) (v i : Value) : Prop := (i = .int .i64 0 ∧ v = .int .i64 (0 : Int)) ∨ (i = .int .i64 1 ∧ v = .int .i64 (n / Pl.pw 12 % Pl.pw 20 * 1 : Int)) ∨ (i = .int .i64 2 ∧ v = .int .i64 (n / Pl.pw 12 % Pl.pw 20 * 1 + n / Pl.pw 0 % Pl.pw 0 * 1 : Int)) ∨ (i = .int .i64 3 ∧ v = .int .i64 (n / Pl.pw 12 % Pl.pw 20 * 1 + n / Pl.pw 0 % Pl.pw 0 * 1 + n / Pl.pw 0 % Pl.pw 0 * 1 : Int)) ∨ (i = .int .i64 4 ∧ v = .int .i64 (n / Pl.pw 12 % Pl.pw 20 * 1 + n / Pl.pw 0 % Pl.pw 0 * 1 + n / Pl.pw 0 % Pl.pw 0 * 1 + n / Pl.pw 0 % Pl.pw 0 * 1 : Int))
def Rm7 (n : Int) (v i : Value) : Prop := (i = .int .i64 0 ∧ v = .int .i64 (0 : Int)) ∨ (i = .int .i64 1 ∧ v = .int .i64 (n / Pl.pw 31 % Pl.pw 1 * 1048576 : Int)) ∨ (i = .int .i64 2 ∧ v = .int .i64 (n / Pl.pw 31 % Pl.pw 1 * 1048576 + n / Pl.pw 21 % Pl.pw 10 * 2 : Int)) ∨ (i = .int .i64 3 ∧ v = .int .i64 (n / Pl.pw 31 % Pl.pw 1 * 1048576 + n / Pl.pw 21 % Pl.pw 10 * 2 + n / Pl.pw 20 % Pl.pw 1 * 2048 : Int)) ∨ (i = .int .i64 4 ∧ v = .int .i64 (n / Pl.pw 31 % Pl.pw 1 * 1048576 + n / Pl.pw 21 % Pl.pw 10 * 2 + n / Pl.pw 20 % Pl.pw 1 * 2048 + n / Pl.pw 12 % Pl.pw 8 * 4096 : Int))
def Rm8 (n : Int) (v i : Value) : Prop := (i = .int .i64 0 ∧ v = .int .i64 (0 : Int)) ∨ (i = .int .i64 1 ∧ v = .int .i64 (n / Pl.pw 0 % Pl.pw 0 * 1 : Int)) ∨ (i = .int .i64 2 ∧ v = .int .i64 (n / Pl.pw 0 % Pl.pw 0 * 1 + n / Pl.pw 0 % Pl.pw 0 * 1 : Int)) ∨ (i = .int .i64 3 ∧ v = .int .i64 (n / Pl.pw 0 % Pl.pw 0 * 1 + n / Pl.pw 0 % Pl.pw 0 * 1 + n / Pl.pw 0 % Pl.pw 0 * 1 : Int)) ∨ (i = .int .i64 4 ∧ v = .int .i64 (n / Pl.pw 0 % Pl.pw 0 * 1 + n / Pl.pw 0 % Pl.pw 0 * 1 + n / Pl.pw 0 % Pl.pw 0 * 1 + n / Pl.pw 0 % Pl.pw 0 * 1 : Int))
end Go.Proofs.Ytfcfnbncgadomaa.W
namespace Go.Proofs.Ytfcfnbncgadomaa.Pl
/-- the fields that a word has in a form -/
def fRd (f : Nat) (n : Int) : Int := if us f 0 then n / pw 7 % pw 5 else 0
def fR1 (f : Nat) (n : Int) : Int := if us f 1 then n / pw 15 % pw 5 else 0
def fR2 (f : Nat) (n : Int) : Int := if us f 2 then n / pw 20 % pw 5 else 0
end Go.Proofs.Ytfcfnbncgadomaa.Pl
namespace Go.Proofs.Ytfcfnbncgadomaa.W
open Go.RowKit
theorem calls_at5 {P : Program} {f : Nat} {args : Array Value} {W : World} {Q : Ending → World → Prop} (h : ∀ U, U = W → Calls P f args U Q) : Calls P f args W Q := h W rfl
theorem below_setRow5 {B : Nat} {a b : World} (h : Below B a b) {g : Nat} (hp : B ≤ g) (cs : Array Value) : Below B a (b.setRow g cs) :=
  ⟨h.os, h.tape, h.output, by simpa using h.size, fun k hk => (setRow_other b g k cs (by omega)).trans (h.block k hk)⟩
theorem row_put5 {u : World} {g : Nat} {cs cs' : Array Value} {t : TypeId} (q : u.heap[g]? = some (.cells cs t)) (j : Nat) (x : Value) (e : cs.setIfInBounds j x = cs') : (u.setCell ⟨g, j, none⟩ x).heap[g]? = some (.cells cs' t) := by
  rw [← e]; exact heap_setCell_same u g j cs t x q
end Go.Proofs.Ytfcfnbncgadomaa.W
namespace Go.Proofs.Ytfcfnbncgadomaa.Pl
/-- the word is that of this Op with the fields that it has -/
def hit (k : Nat) (n : Int) : Bool :=
  okF (fmN k) (fRd (fmN k) n) (fR1 (fmN k) n) (fR2 (fmN k) n) (gIm (fmN k) n) && decide (enc k (fRd (fmN k) n) (fR1 (fmN k) n) (fR2 (fmN k) n) (gIm (fmN k) n) = n)
theorem hit_iff (k : Nat) (n : Int) : hit k n = true ↔ okF (fmN k) (fRd (fmN k) n) (fR1 (fmN k) n) (fR2 (fmN k) n) (gIm (fmN k) n) = true ∧ enc k (fRd (fmN k) n) (fR1 (fmN k) n) (fR2 (fmN k) n) (gIm (fmN k) n) = n := by
  unfold hit
  rw [Bool.and_eq_true, decide_eq_true_eq]
theorem hit_fits {k : Nat} (h1 : 1 ≤ k) (h2 : k ≤ 47) {n : Int} (h : hit k n = true) : fits k n = true ∧ 0 ≤ n ∧ n ≤ 4294967295 := by
  obtain ⟨a, b⟩ := (hit_iff k n).1 h
  have := enc_fits k h1 h2 _ _ _ _ a
  rw [b] at this
  exact this
/-- the Op of a word, 0 when it is no instruction -/
def dec (n : Int) : Nat := ((List.range 48).find? fun k => decide (1 ≤ k) && hit k n).getD 0
theorem dec_none {n : Int} (h : ∀ k, 1 ≤ k → k ≤ 47 → hit k n = false) : dec n = 0 := by
  unfold dec
  rw [List.find?_eq_none.2]
  · rfl
  · intro k hk
    have hk' : k < 48 := List.mem_range.1 hk
    by_cases h1 : 1 ≤ k
    · rw [h k h1 (by omega)]; simp
    · simp; omega
theorem dec_hit {k : Nat} {n : Int} (h1 : 1 ≤ k) (h2 : k ≤ 47) (h : hit k n = true) : dec n = k := by
  unfold dec
  cases hf : (List.range 48).find? fun k => decide (1 ≤ k) && hit k n with
  | none =>
    have := List.find?_eq_none.1 hf k (List.mem_range.2 (by omega))
    simp [h, h1] at this
  | some j =>
    have hp := List.find?_some hf
    have hm := List.mem_range.1 (List.mem_of_find?_eq_some hf)
    simp only [Bool.and_eq_true, decide_eq_true_eq] at hp
    show j = k
    exact fits_one hp.1 (by omega) h1 h2 (hit_fits hp.1 (by omega) hp.2).1 (hit_fits h1 h2 h).1
def dRd (n : Int) : Int := if dec n = 0 then 0 else fRd (fmN (dec n)) n
def dR1 (n : Int) : Int := if dec n = 0 then 0 else fR1 (fmN (dec n)) n
def dR2 (n : Int) : Int := if dec n = 0 then 0 else fR2 (fmN (dec n)) n
def dIm (n : Int) : Int := if dec n = 0 then 0 else gIm (fmN (dec n)) n
/-- the instruction that is read -/
def decV (n : Int) : Array Value := #[.int .i64 (dec n : Int), .int .i64 (dRd n), .int .i64 (dR1 n), .int .i64 (dR2 n), .int .i64 (dIm n)]
theorem decV_none {n : Int} (h : dec n = 0) : decV n = #[.int .i64 0, .int .i64 0, .int .i64 0, .int .i64 0, .int .i64 0] := by
  unfold decV dRd dR1 dR2 dIm
  rw [h]
  rfl
theorem decV_hit {k : Nat} {n : Int} (h1 : 1 ≤ k) (h : dec n = k) : decV n = #[.int .i64 (k : Int), .int .i64 (fRd (fmN k) n), .int .i64 (fR1 (fmN k) n), .int .i64 (fR2 (fmN k) n), .int .i64 (gIm (fmN k) n)] := by
  unfold decV dRd dR1 dR2 dIm
  rw [h, if_neg (by omega), if_neg (by omega), if_neg (by omega), if_neg (by omega)]
end Go.Proofs.Ytfcfnbncgadomaa.Pl
namespace Go.Proofs.Ytfcfnbncgadomaa.W
open Go.RowKit
theorem results_cell_tmp {P : Program} {fn : Func} {p q : Tmp} {ty : TypeId} (h : fn.results = #[.cell p ty, .tmp q]) (tmps : Array Value) (w : World) (g : Nat) (t : TypeId) (cs : Array Value) (fr : Nat × Nat) (d : TypeDesc) (v : Value)
    (hp : tmps.getD p undef = .pointer (some ⟨g, 0, none⟩)) (hq : tmps.getD q undef = v) (hg : w.heap[g]? = some (.cells cs t fr))
    (hu : P.underlying ty = some d) (hd : (match d with | .struct _ | .array _ _ => true | _ => false) = true) (hi : (P.info? ty).map (·.size) = some cs.size) :
    (results fn tmps).run P w = .ok (.tuple #[.agg cs, v]) w := by
  have hp' : tmps[p]?.getD undef = .pointer (some ⟨g, 0, none⟩) := by simpa using hp
  have hq' : tmps[q]?.getD undef = v := by simpa using hq
  simp [results, h, hp', hq', asAddr, run_loadVar_row w g t ty cs fr d hg hu hd hi]
theorem iok_eq (k : Nat) (h1 : 1 ≤ k) (h2 : k ≤ 47) (rd r1 r2 im : Int) : iok (k : Int) rd r1 r2 im = Pl.okF (Pl.fmN k) rd r1 r2 im := by
  have e : decide (1 ≤ (k : Int) ∧ (k : Int) ≤ 47) = true := decide_eq_true (by omega)
  unfold iok
  rw [e, Bool.true_and, Int.toNat_natCast]
end Go.Proofs.Ytfcfnbncgadomaa.W
namespace Go.Proofs.Ytfcfnbncgadomaa.Pl
theorem pw15 : pw 15 = 32768 := by decide
theorem pw20' : pw 20 = 1048576 := by decide
theorem pw21 : pw 21 = 2097152 := by decide
theorem pw25 : pw 25 = 33554432 := by decide
theorem pw31 : pw 31 = 2147483648 := by decide
theorem us_tab : us 1 0 = true ∧ us 1 1 = true ∧ us 1 2 = true ∧ us 2 0 = true ∧ us 2 1 = true ∧ us 2 2 = false ∧ us 3 0 = true ∧ us 3 1 = true ∧ us 3 2 = false ∧ us 4 0 = false ∧ us 4 1 = true ∧ us 4 2 = true ∧ us 5 0 = false ∧ us 5 1 = true ∧ us 5 2 = true ∧ us 6 0 = true ∧ us 6 1 = false ∧ us 6 2 = false ∧ us 7 0 = true ∧ us 7 1 = false ∧ us 7 2 = false ∧ us 8 0 = false ∧ us 8 1 = false ∧ us 8 2 = false := by decide
theorem step_even {im : Int} (h : (im.tmod 2 == 0) = true) : im % 2 = 0 := by
  have h' : im.tmod 2 = 0 := by simpa using h
  rcases tmod_cases im 2 with ⟨a, b⟩ | ⟨a, b⟩ <;> omega
/-- the fields of a word that was made are those it was made of -/
theorem enc_back (k : Nat) (h1 : 1 ≤ k) (h2 : k ≤ 47) (rd r1 r2 im : Int) (hok : okF (fmN k) rd r1 r2 im = true) :
    fRd (fmN k) (enc k rd r1 r2 im) = rd ∧ fR1 (fmN k) (enc k rd r1 r2 im) = r1 ∧ fR2 (fmN k) (enc k rd r1 r2 im) = r2 ∧ gIm (fmN k) (enc k rd r1 r2 im) = im := by
  obtain ⟨g0, g1, g2, g3⟩ := okF_parts hok
  obtain ⟨a1, a2, a3⟩ := rg_bd g0
  obtain ⟨b1, b2, b3⟩ := rg_bd g1
  obtain ⟨c1, c2, c3⟩ := rg_bd g2
  obtain ⟨i1, i2⟩ := imo_bd g3
  have i3 : (im.tmod (st (fmN k)) == 0) = true := by unfold imo at g3; rw [Bool.and_eq_true] at g3; exact g3.2
  obtain ⟨f1, f2, _⟩ := fm_cases k (by omega) h1
  have z := cc_forms
  rw [List.all_eq_true] at z
  have z := z k (List.mem_range.mpr (by omega))
  simp only [Pl.b1, Pl.b2, Pl.b3, Bool.or_eq_true, Bool.and_eq_true, beq_iff_eq, Bool.not_eq_true', Bool.or_eq_false_iff, beq_eq_false_iff_ne] at z
  obtain ⟨m1, m3⟩ := cc_more k (by omega)
  obtain ⟨p0, q0⟩ := cc_bd' k (by omega) 0 (by omega)
  obtain ⟨p1, q1⟩ := cc_bd' k (by omega) 1 (by omega)
  obtain ⟨p2, q2⟩ := cc_bd' k (by omega) 2 (by omega)
  obtain ⟨p3, q3⟩ := cc_bd' k (by omega) 3 (by omega)
  obtain ⟨t1, t2, t3, t4, t5, t6, t7, t8, t9, t10, t11, t12, t13, t14, t15, t16, t17, t18, t19, t20, t21, t22, t23, t24⟩ := us_tab
  unfold enc cw
  generalize cc k 0 = C0 at *
  generalize cc k 1 = C1 at *
  generalize cc k 2 = C2 at *
  generalize cc k 3 = C3 at *
  generalize fmN k = f at *
  have hcase := form_cases f f1 f2
  clear g0 g1 g2 g3 hok f1 f2
  rcases hcase with e | e | e | e | e | e | e | e <;> subst e
  all_goals
    simp only [fRd, fR1, fR2, gIm, rim, imw, lo, hi, st, t1, t2, t3, t4, t5, t6, t7, t8, t9, t10, t11, t12, t13, t14, t15, t16, t17, t18, t19, t20, t21, t22, t23, t24, pw0, pw1, pw4, pw5, pw6, pw7, pw8, pw10, pw11, pw12, pw15, pw20', pw21, pw25, pw31, if_true, if_false, Bool.false_eq_true, true_or, false_or, or_false, Int.ediv_one, Int.emod_one, Int.mul_one, Int.add_zero, Int.zero_add, Int.zero_mul] at a3 b3 c3 i1 i2 i3 ⊢
    simp at z
  · refine ⟨by omega, by omega, by omega, ?_⟩
    split <;> omega
  · refine ⟨by omega, by omega, by omega, ?_⟩
    split <;> omega
  · refine ⟨by omega, by omega, by omega, ?_⟩
    split <;> omega
  · obtain ⟨A, hA⟩ : ∃ A, A = im / 32 % 128 := ⟨_, rfl⟩
    obtain ⟨B, hB⟩ : ∃ B, B = im % 32 := ⟨_, rfl⟩
    have bA : 0 ≤ A ∧ A ≤ 127 := by omega
    have bB : 0 ≤ B ∧ B ≤ 31 := by omega
    have rel1 : (A ≤ 63 ∧ im = A * 32 + B) ∨ (64 ≤ A ∧ im = A * 32 + B - 4096) := by omega
    rw [← hA, ← hB]
    clear hA hB
    obtain ⟨e2, e3⟩ : C2 = 0 ∧ C3 = 0 := by omega
    rw [e2, e3, a3]
    obtain ⟨N, hN⟩ : ∃ N, N = C0 + C1 * 4096 + 0 * 33554432 + 0 * 1048576 + (A * 33554432 + B * 128) + 0 * 128 + r1 * 32768 + r2 * 1048576 := ⟨_, rfl⟩
    rw [← hN]
    have n1 : N / 33554432 % 128 = A := by omega
    have n2 : N / 128 % 32 = B := by omega
    have n3 : N / 32768 % 32 = r1 := by omega
    have n4 : N / 1048576 % 32 = r2 := by omega
    rw [n1, n2, n3, n4]
    clear hN n1 n2 n3 n4
    refine ⟨rfl, rfl, rfl, ?_⟩
    split <;> omega
  · have hev := step_even i3
    obtain ⟨A, hA⟩ : ∃ A, A = im / 4096 % 2 := ⟨_, rfl⟩
    obtain ⟨B, hB⟩ : ∃ B, B = im / 32 % 64 := ⟨_, rfl⟩
    obtain ⟨C, hC⟩ : ∃ C, C = im / 2 % 16 := ⟨_, rfl⟩
    obtain ⟨D, hD⟩ : ∃ D, D = im / 2048 % 2 := ⟨_, rfl⟩
    have bA : 0 ≤ A ∧ A ≤ 1 := by omega
    have bB : 0 ≤ B ∧ B ≤ 63 := by omega
    have bC : 0 ≤ C ∧ C ≤ 15 := by omega
    have bD : 0 ≤ D ∧ D ≤ 1 := by omega
    have rel1 : (A = 0 ∧ im = D * 2048 + B * 32 + C * 2) ∨ (A = 1 ∧ im = D * 2048 + B * 32 + C * 2 - 4096) := by omega
    rw [← hA, ← hB, ← hC, ← hD]
    clear hA hB hC hD i3 hev
    obtain ⟨e2, e3⟩ : C2 = 0 ∧ C3 = 0 := by omega
    rw [e2, e3, a3]
    obtain ⟨N, hN⟩ : ∃ N, N = C0 + C1 * 4096 + 0 * 33554432 + 0 * 1048576 + (A * 2147483648 + B * 33554432 + C * 256 + D * 128) + 0 * 128 + r1 * 32768 + r2 * 1048576 := ⟨_, rfl⟩
    rw [← hN]
    have n1 : N / 2147483648 % 2 = A := by omega
    have n2 : N / 33554432 % 64 = B := by omega
    have n3 : N / 256 % 16 = C := by omega
    have n4 : N / 128 % 2 = D := by omega
    have n5 : N / 32768 % 32 = r1 := by omega
    have n6 : N / 1048576 % 32 = r2 := by omega
    rw [n1, n2, n3, n4, n5, n6]
    clear hN n1 n2 n3 n4 n5 n6
    refine ⟨rfl, rfl, rfl, ?_⟩
    split <;> omega
  · refine ⟨by omega, by omega, by omega, ?_⟩
    split <;> omega
  · have hev := step_even i3
    obtain ⟨A, hA⟩ : ∃ A, A = im / 1048576 % 2 := ⟨_, rfl⟩
    obtain ⟨B, hB⟩ : ∃ B, B = im / 2 % 1024 := ⟨_, rfl⟩
    obtain ⟨C, hC⟩ : ∃ C, C = im / 2048 % 2 := ⟨_, rfl⟩
    obtain ⟨D, hD⟩ : ∃ D, D = im / 4096 % 256 := ⟨_, rfl⟩
    have bA : 0 ≤ A ∧ A ≤ 1 := by omega
    have bB : 0 ≤ B ∧ B ≤ 1023 := by omega
    have bC : 0 ≤ C ∧ C ≤ 1 := by omega
    have bD : 0 ≤ D ∧ D ≤ 255 := by omega
    have rel1 : (A = 0 ∧ im = D * 4096 + C * 2048 + B * 2) ∨ (A = 1 ∧ im = D * 4096 + C * 2048 + B * 2 - 1048576) := by omega
    rw [← hA, ← hB, ← hC, ← hD]
    clear hA hB hC hD i3 hev
    obtain ⟨e1, e2, e3⟩ : C1 = 0 ∧ C2 = 0 ∧ C3 = 0 := by omega
    rw [e1, e2, e3, b3, c3]
    obtain ⟨N, hN⟩ : ∃ N, N = C0 + 0 * 4096 + 0 * 33554432 + 0 * 1048576 + (A * 2147483648 + B * 2097152 + C * 1048576 + D * 4096) + rd * 128 + 0 * 32768 + 0 * 1048576 := ⟨_, rfl⟩
    rw [← hN]
    have n1 : N / 2147483648 % 2 = A := by omega
    have n2 : N / 2097152 % 1024 = B := by omega
    have n3 : N / 1048576 % 2 = C := by omega
    have n4 : N / 4096 % 256 = D := by omega
    have n5 : N / 128 % 32 = rd := by omega
    rw [n1, n2, n3, n4, n5]
    clear hN n1 n2 n3 n4 n5
    refine ⟨rfl, rfl, rfl, ?_⟩
    split <;> omega
  · refine ⟨by omega, by omega, by omega, ?_⟩
    split <;> omega
/-- a word that was made is read as what it was made of -/
theorem dec_enc (k : Nat) (h1 : 1 ≤ k) (h2 : k ≤ 47) (rd r1 r2 im : Int) (hok : okF (fmN k) rd r1 r2 im = true) :
    dec (enc k rd r1 r2 im) = k ∧ decV (enc k rd r1 r2 im) = #[.int .i64 (k : Int), .int .i64 rd, .int .i64 r1, .int .i64 r2, .int .i64 im] := by
  obtain ⟨e1, e2, e3, e4⟩ := enc_back k h1 h2 rd r1 r2 im hok
  have hh : hit k (enc k rd r1 r2 im) = true := by
    rw [hit_iff, e1, e2, e3, e4]
    exact ⟨hok, rfl⟩
  have hd := dec_hit h1 h2 hh
  exact ⟨hd, by rw [decV_hit h1 hd, e1, e2, e3, e4]⟩
/-- what is read is made of the same word -/
theorem enc_dec {n : Int} (h : dec n ≠ 0) : 1 ≤ dec n ∧ dec n ≤ 47 ∧ okF (fmN (dec n)) (dRd n) (dR1 n) (dR2 n) (dIm n) = true ∧ enc (dec n) (dRd n) (dR1 n) (dR2 n) (dIm n) = n := by
  cases hf : (List.range 48).find? fun k => decide (1 ≤ k) && hit k n with
  | none => exact absurd (by unfold dec; rw [hf]; rfl) h
  | some j =>
    have hp := List.find?_some hf
    have hm := List.mem_range.1 (List.mem_of_find?_eq_some hf)
    simp only [Bool.and_eq_true, decide_eq_true_eq] at hp
    have hd : dec n = j := dec_hit hp.1 (by omega) hp.2
    obtain ⟨g1, g2⟩ := (hit_iff j n).1 hp.2
    unfold dRd dR1 dR2 dIm
    rw [hd, if_neg (by omega), if_neg (by omega), if_neg (by omega), if_neg (by omega)]
    exact ⟨hp.1, by omega, g1, g2⟩
end Go.Proofs.Ytfcfnbncgadomaa.Pl
