import Derived.Test.YtgpmplcamdophaaDoorRows2
namespace Go.Proofs.YtgpmplcamdophaaDoor.Pl
/-- which fields a form uses; what Imm may be; where its parts stand -/
def us : Nat → Nat → Bool
  | 1, 0 => true
  | 1, 1 => true
  | 1, 2 => true
  | 2, 0 => true
  | 2, 1 => true
  | 3, 0 => true
  | 3, 1 => true
  | 4, 1 => true
  | 4, 2 => true
  | 5, 1 => true
  | 5, 2 => true
  | 6, 0 => true
  | 7, 0 => true
  | _, _ => false
def lo : Nat → Int
  | 2 => -2048
  | 4 => -2048
  | 5 => -4096
  | 7 => -1048576
  | _ => 0
def hi : Nat → Int
  | 2 => 2047
  | 3 => 31
  | 4 => 2047
  | 5 => 4094
  | 6 => 1048575
  | 7 => 1048574
  | _ => 0
def st : Nat → Int
  | 5 => 2
  | 7 => 2
  | _ => 1
def pt : Nat → List Int
  | 2 => [0, 12, 20, 0, 0, 0, 0, 0, 0, 0, 0, 0]
  | 3 => [0, 5, 20, 0, 0, 0, 0, 0, 0, 0, 0, 0]
  | 4 => [5, 7, 25, 0, 5, 7, 0, 0, 0, 0, 0, 0]
  | 5 => [12, 1, 31, 5, 6, 25, 1, 4, 8, 11, 1, 7]
  | 6 => [0, 20, 12, 0, 0, 0, 0, 0, 0, 0, 0, 0]
  | 7 => [20, 1, 31, 1, 10, 21, 11, 1, 20, 12, 8, 12]
  | _ => [0, 0, 0, 0, 0, 0, 0, 0, 0, 0, 0, 0]
def pts : Nat → Int
  | 1 => 7
  | 2 => 11
  | 3 => 11
  | 4 => 14
  | 5 => 14
  | 6 => 9
  | 7 => 9
  | _ => 0
def pa (f i : Nat) : Int := (pt f).getD i 0
def ruleV (f : Nat) : Array Value := #[.bool (us f 0), .bool (us f 1), .bool (us f 2), .int .i64 (lo f), .int .i64 (hi f), .int .i64 (st f), .int .i64 (pa f 0), .int .i64 (pa f 1), .int .i64 (pa f 2), .int .i64 (pa f 3), .int .i64 (pa f 4), .int .i64 (pa f 5), .int .i64 (pa f 6), .int .i64 (pa f 7), .int .i64 (pa f 8), .int .i64 (pa f 9), .int .i64 (pa f 10), .int .i64 (pa f 11)]
def fmN (k : Nat) : Nat := (fm k).toNat
def rg (r : Int) (u : Bool) : Bool := decide (0 ≤ r ∧ r ≤ 31 ∧ (u = true ∨ r = 0))
def imo (f : Nat) (im : Int) : Bool := decide (lo f ≤ im) && decide (im ≤ hi f) && im.tmod (st f) == 0
def okF (f : Nat) (rd r1 r2 im : Int) : Bool := rg rd (us f 0) && rg r1 (us f 1) && rg r2 (us f 2) && imo f im
theorem fm_cases : ∀ k : Nat, k < 48 → 1 ≤ k → 1 ≤ fmN k ∧ fmN k ≤ 8 ∧ fm k = (fmN k : Int) := by decide +kernel
theorem st_cases (f : Nat) : st f = 1 ∨ st f = 2 := by
  unfold st; split <;> simp
theorem form_cases (f : Nat) (h1 : 1 ≤ f) (h2 : f ≤ 8) : f = 1 ∨ f = 2 ∨ f = 3 ∨ f = 4 ∨ f = 5 ∨ f = 6 ∨ f = 7 ∨ f = 8 := by omega
theorem pts_bit : ∀ f : Nat, f < 9 → ∀ j : Nat, j < 3 → pts f / pw j % 2 = if us f j then 1 else 0 := by decide +kernel
theorem pts_bd : ∀ f : Nat, f < 9 → 0 ≤ pts f ∧ pts f ≤ 14 := by decide +kernel
end Go.Proofs.YtgpmplcamdophaaDoor.Pl
