import Derived.Test.YtgopdicmmglakaaDecF
set_option linter.unusedVariables false
namespace Go.Proofs.Ytgopdicmmglakaa.Pl
/-- the word is that of this Op with the fields that it has -/
def hit (k : Nat) (n : Int) : Bool :=
  okF (fmN k) (fRd (fmN k) n) (fR1 (fmN k) n) (fR2 (fmN k) n) (gIm (fmN k) n) && decide (enc k (fRd (fmN k) n) (fR1 (fmN k) n) (fR2 (fmN k) n) (gIm (fmN k) n) = n)
theorem hit_iff (k : Nat) (n : Int) : hit k n = true ↔ okF (fmN k) (fRd (fmN k) n) (fR1 (fmN k) n) (fR2 (fmN k) n) (gIm (fmN k) n) = true ∧ enc k (fRd (fmN k) n) (fR1 (fmN k) n) (fR2 (fmN k) n) (gIm (fmN k) n) = n := by
  unfold hit
  rw [Bool.and_eq_true, decide_eq_true_eq]
theorem hit_fits {k : Nat} (h1 : 1 ≤ k) (h2 : k ≤ 47) {n : Int} (h : hit k n = true) : fits k n = true ∧ 0 ≤ n ∧ n ≤ 4294967295 := by
  obtain ⟨a, b⟩ := (hit_iff k n).1 h
  have := enc_fits k h1 h2 _ _ _ _ a
  rw [b] at this
  exact this
/-- the Op of a word, 0 when it is no instruction -/
def dec (n : Int) : Nat := ((List.range 48).find? fun k => decide (1 ≤ k) && hit k n).getD 0
theorem dec_none {n : Int} (h : ∀ k, 1 ≤ k → k ≤ 47 → hit k n = false) : dec n = 0 := by
  unfold dec
  rw [List.find?_eq_none.2]
  · rfl
  · intro k hk
    have hk' : k < 48 := List.mem_range.1 hk
    by_cases h1 : 1 ≤ k
    · rw [h k h1 (by omega)]; simp
    · simp; omega
theorem dec_hit {k : Nat} {n : Int} (h1 : 1 ≤ k) (h2 : k ≤ 47) (h : hit k n = true) : dec n = k := by
  unfold dec
  cases hf : (List.range 48).find? fun k => decide (1 ≤ k) && hit k n with
  | none =>
    have := List.find?_eq_none.1 hf k (List.mem_range.2 (by omega))
    simp [h, h1] at this
  | some j =>
    have hp := List.find?_some hf
    have hm := List.mem_range.1 (List.mem_of_find?_eq_some hf)
    simp only [Bool.and_eq_true, decide_eq_true_eq] at hp
    show j = k
    exact fits_one hp.1 (by omega) h1 h2 (hit_fits hp.1 (by omega) hp.2).1 (hit_fits h1 h2 h).1
def dRd (n : Int) : Int := if dec n = 0 then 0 else fRd (fmN (dec n)) n
def dR1 (n : Int) : Int := if dec n = 0 then 0 else fR1 (fmN (dec n)) n
def dR2 (n : Int) : Int := if dec n = 0 then 0 else fR2 (fmN (dec n)) n
def dIm (n : Int) : Int := if dec n = 0 then 0 else gIm (fmN (dec n)) n
/-- the instruction that is read -/
def decV (n : Int) : Array Value := #[.int .i64 (dec n : Int), .int .i64 (dRd n), .int .i64 (dR1 n), .int .i64 (dR2 n), .int .i64 (dIm n)]
theorem decV_none {n : Int} (h : dec n = 0) : decV n = #[.int .i64 0, .int .i64 0, .int .i64 0, .int .i64 0, .int .i64 0] := by
  unfold decV dRd dR1 dR2 dIm
  rw [h]
  rfl
theorem decV_hit {k : Nat} {n : Int} (h1 : 1 ≤ k) (h : dec n = k) : decV n = #[.int .i64 (k : Int), .int .i64 (fRd (fmN k) n), .int .i64 (fR1 (fmN k) n), .int .i64 (fR2 (fmN k) n), .int .i64 (gIm (fmN k) n)] := by
  unfold decV dRd dR1 dR2 dIm
  rw [h, if_neg (by omega), if_neg (by omega), if_neg (by omega), if_neg (by omega)]
end Go.Proofs.Ytgopdicmmglakaa.Pl
namespace Go.Proofs.Ytgopdicmmglakaa.W
open Go.RowKit
theorem results_cell_tmp {P : Program} {fn : Func} {p q : Tmp} {ty : TypeId} (h : fn.results = #[.cell p ty, .tmp q]) (tmps : Array Value) (w : World) (g : Nat) (t : TypeId) (cs : Array Value) (fr : Nat × Nat) (d : TypeDesc) (v : Value)
    (hp : tmps.getD p undef = .pointer (some ⟨g, 0, none⟩)) (hq : tmps.getD q undef = v) (hg : w.heap[g]? = some (.cells cs t fr))
    (hu : P.underlying ty = some d) (hd : (match d with | .struct _ | .array _ _ => true | _ => false) = true) (hi : (P.info? ty).map (·.size) = some cs.size) :
    (results fn tmps).run P w = .ok (.tuple #[.agg cs, v]) w := by
  have hp' : tmps[p]?.getD undef = .pointer (some ⟨g, 0, none⟩) := by simpa using hp
  have hq' : tmps[q]?.getD undef = v := by simpa using hq
  simp [results, h, hp', hq', asAddr, run_loadVar_row w g t ty cs fr d hg hu hd hi]
theorem iok_eq (k : Nat) (h1 : 1 ≤ k) (h2 : k ≤ 47) (rd r1 r2 im : Int) : iok (k : Int) rd r1 r2 im = Pl.okF (Pl.fmN k) rd r1 r2 im := by
  have e : decide (1 ≤ (k : Int) ∧ (k : Int) ≤ 47) = true := decide_eq_true (by omega)
  unfold iok
  rw [e, Bool.true_and, Int.toNat_natCast]
end Go.Proofs.Ytgopdicmmglakaa.W
