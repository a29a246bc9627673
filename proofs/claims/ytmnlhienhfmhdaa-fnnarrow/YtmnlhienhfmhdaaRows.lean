/-
  No cell of these rows narrows 'for every input' (looked for: loops, veiled, ifaces, maps, wideKeys, modest, calm, conditions, laid).
  DERIVED. THE GIVEN ROWS OF THIS SEAT. 12 by the template 'for every input the law returns true; each argument reads behind the call as it read before'; 0 by the template 'total and deterministic' (their statements: YtmnlhienhfmhdaaTotals.lean).
  GIVEN WITH THE SEED: the statements are not yours to turn. If you find one false, say at which input.
  Laid BY PROGRAM, IN A SANDBOX (cutbox-rows.mjs): the forced cells as the released guide's own fill.sh prints them over the translation 0e7ad8d03afe57d7… (all of the seat's roots in one cut). By AI agents, Wed Nov 11 2026. No macro, syntax, notation, axiom, sorry.
-/
import Derived.Test.YtmnlhienhfmhdaaChecked
import GoSem.Claim
import GoSem.ClaimJoined
import GoSem.ClaimMapViews
import Derived.JoinedTies
import Derived.KernelRfl
namespace Go.Proofs.Ytmnlhienhfmhdaa
/- THE CELL 'sum', in the pinned program and in every row, IS THE sha256 OF THE DUMP (.gsa) THAT YtmnlhienhfmhdaaProg.lean LOADS. Nothing in Lean hashes anything: it is a label: what it is worth is what the hold of that sum in a sandbox is worth. -/
noncomputable def Try.pinned : Pinned := { name := "ytmnlhienhfmhdaa", sum := "0e7ad8d03afe57d7e3b1aa8c854be0cf4fdc2bb02b0b3614fb1cf359b8715a1c", checked := Try.checked }
namespace Rows
def none {H : Type} : Left H := { results := [], args := [] }

/-- 'laws.FnExactWord': WHATEVER THE INPUT: true; the input reads as it did. -/
def fnExactWordSpec : ChangeSpec := { name := "fnExactWord", fn := fun _ => fun
  | [d] => { results := [.lit (.bool true)], args := [d] }
  | _ => none }
def fnExactWordRow : OpenClaim := { program := "ytmnlhienhfmhdaa", sum := "0e7ad8d03afe57d7e3b1aa8c854be0cf4fdc2bb02b0b3614fb1cf359b8715a1c", func := "loop.example/s01681/laws.FnExactWord", spec := "fnExactWord", plainKeys := false, apart := false }
def FnExactWordSaid : Prop := fnExactWordRow.holds Try.pinned (OpenSpec.ofChange fnExactWordSpec)

/-- ITS FALSE NEIGHBOUR: 'it returns false'. Refute it at one input. -/
def fnExactWordWrong : ChangeSpec := { name := "fnExactWord", fn := fun _ => fun
  | [d] => { results := [.lit (.bool false)], args := [d] }
  | _ => none }
def FnExactWordWrongFalsely : Prop := fnExactWordRow.holds Try.pinned (OpenSpec.ofChange fnExactWordWrong)

/-- 'laws.FnExactKindSize': WHATEVER THE INPUT: true; the input reads as it did. -/
def fnExactKindSizeSpec : ChangeSpec := { name := "fnExactKindSize", fn := fun _ => fun
  | [d] => { results := [.lit (.bool true)], args := [d] }
  | _ => none }
def fnExactKindSizeRow : OpenClaim := { program := "ytmnlhienhfmhdaa", sum := "0e7ad8d03afe57d7e3b1aa8c854be0cf4fdc2bb02b0b3614fb1cf359b8715a1c", func := "loop.example/s01681/laws.FnExactKindSize", spec := "fnExactKindSize", plainKeys := false, apart := false }
def FnExactKindSizeSaid : Prop := fnExactKindSizeRow.holds Try.pinned (OpenSpec.ofChange fnExactKindSizeSpec)

/-- ITS FALSE NEIGHBOUR: 'it returns false'. Refute it at one input. -/
def fnExactKindSizeWrong : ChangeSpec := { name := "fnExactKindSize", fn := fun _ => fun
  | [d] => { results := [.lit (.bool false)], args := [d] }
  | _ => none }
def FnExactKindSizeWrongFalsely : Prop := fnExactKindSizeRow.holds Try.pinned (OpenSpec.ofChange fnExactKindSizeWrong)

/-- 'laws.FnExactSigned': WHATEVER THE INPUT: true; the input reads as it did. -/
def fnExactSignedSpec : ChangeSpec := { name := "fnExactSigned", fn := fun _ => fun
  | [d] => { results := [.lit (.bool true)], args := [d] }
  | _ => none }
def fnExactSignedRow : OpenClaim := { program := "ytmnlhienhfmhdaa", sum := "0e7ad8d03afe57d7e3b1aa8c854be0cf4fdc2bb02b0b3614fb1cf359b8715a1c", func := "loop.example/s01681/laws.FnExactSigned", spec := "fnExactSigned", plainKeys := false, apart := false }
def FnExactSignedSaid : Prop := fnExactSignedRow.holds Try.pinned (OpenSpec.ofChange fnExactSignedSpec)

/-- ITS FALSE NEIGHBOUR: 'it returns false'. Refute it at one input. -/
def fnExactSignedWrong : ChangeSpec := { name := "fnExactSigned", fn := fun _ => fun
  | [d] => { results := [.lit (.bool false)], args := [d] }
  | _ => none }
def FnExactSignedWrongFalsely : Prop := fnExactSignedRow.holds Try.pinned (OpenSpec.ofChange fnExactSignedWrong)

/-- 'laws.FnExactOpName': WHATEVER THE INPUT: true; the input reads as it did. -/
def fnExactOpNameSpec : ChangeSpec := { name := "fnExactOpName", fn := fun _ => fun
  | [d] => { results := [.lit (.bool true)], args := [d] }
  | _ => none }
def fnExactOpNameRow : OpenClaim := { program := "ytmnlhienhfmhdaa", sum := "0e7ad8d03afe57d7e3b1aa8c854be0cf4fdc2bb02b0b3614fb1cf359b8715a1c", func := "loop.example/s01681/laws.FnExactOpName", spec := "fnExactOpName", plainKeys := false, apart := false }
def FnExactOpNameSaid : Prop := fnExactOpNameRow.holds Try.pinned (OpenSpec.ofChange fnExactOpNameSpec)

/-- ITS FALSE NEIGHBOUR: 'it returns false'. Refute it at one input. -/
def fnExactOpNameWrong : ChangeSpec := { name := "fnExactOpName", fn := fun _ => fun
  | [d] => { results := [.lit (.bool false)], args := [d] }
  | _ => none }
def FnExactOpNameWrongFalsely : Prop := fnExactOpNameRow.holds Try.pinned (OpenSpec.ofChange fnExactOpNameWrong)

/-- 'laws.FnExactOpNumber': WHATEVER THE INPUT: true; the input reads as it did. -/
def fnExactOpNumberSpec : ChangeSpec := { name := "fnExactOpNumber", fn := fun _ => fun
  | [d] => { results := [.lit (.bool true)], args := [d] }
  | _ => none }
def fnExactOpNumberRow : OpenClaim := { program := "ytmnlhienhfmhdaa", sum := "0e7ad8d03afe57d7e3b1aa8c854be0cf4fdc2bb02b0b3614fb1cf359b8715a1c", func := "loop.example/s01681/laws.FnExactOpNumber", spec := "fnExactOpNumber", plainKeys := false, apart := false }
def FnExactOpNumberSaid : Prop := fnExactOpNumberRow.holds Try.pinned (OpenSpec.ofChange fnExactOpNumberSpec)

/-- ITS FALSE NEIGHBOUR: 'it returns false'. Refute it at one input. -/
def fnExactOpNumberWrong : ChangeSpec := { name := "fnExactOpNumber", fn := fun _ => fun
  | [d] => { results := [.lit (.bool false)], args := [d] }
  | _ => none }
def FnExactOpNumberWrongFalsely : Prop := fnExactOpNumberRow.holds Try.pinned (OpenSpec.ofChange fnExactOpNumberWrong)

/-- 'laws.FnExactNarrow': WHATEVER THE INPUT: true; the input reads as it did. -/
def fnExactNarrowSpec : ChangeSpec := { name := "fnExactNarrow", fn := fun _ => fun
  | [d1, d2] => { results := [.lit (.bool true)], args := [d1, d2] }
  | _ => none }
def fnExactNarrowRow : OpenClaim := { program := "ytmnlhienhfmhdaa", sum := "0e7ad8d03afe57d7e3b1aa8c854be0cf4fdc2bb02b0b3614fb1cf359b8715a1c", func := "loop.example/s01681/laws.FnExactNarrow", spec := "fnExactNarrow", plainKeys := false, apart := false }
def FnExactNarrowSaid : Prop := fnExactNarrowRow.holds Try.pinned (OpenSpec.ofChange fnExactNarrowSpec)

/-- ITS FALSE NEIGHBOUR: 'it returns false'. Refute it at one input. -/
def fnExactNarrowWrong : ChangeSpec := { name := "fnExactNarrow", fn := fun _ => fun
  | [d1, d2] => { results := [.lit (.bool false)], args := [d1, d2] }
  | _ => none }
def FnExactNarrowWrongFalsely : Prop := fnExactNarrowRow.holds Try.pinned (OpenSpec.ofChange fnExactNarrowWrong)

/-- 'laws.FnExactInstOk': WHATEVER THE INPUT: true; the input reads as it did. -/
def fnExactInstOkSpec : ChangeSpec := { name := "fnExactInstOk", fn := fun _ => fun
  | [d] => { results := [.lit (.bool true)], args := [d] }
  | _ => none }
def fnExactInstOkRow : OpenClaim := { program := "ytmnlhienhfmhdaa", sum := "0e7ad8d03afe57d7e3b1aa8c854be0cf4fdc2bb02b0b3614fb1cf359b8715a1c", func := "loop.example/s01681/laws.FnExactInstOk", spec := "fnExactInstOk", plainKeys := false, apart := false }
def FnExactInstOkSaid : Prop := fnExactInstOkRow.holds Try.pinned (OpenSpec.ofChange fnExactInstOkSpec)

/-- ITS FALSE NEIGHBOUR: 'it returns false'. Refute it at one input. -/
def fnExactInstOkWrong : ChangeSpec := { name := "fnExactInstOk", fn := fun _ => fun
  | [d] => { results := [.lit (.bool false)], args := [d] }
  | _ => none }
def FnExactInstOkWrongFalsely : Prop := fnExactInstOkRow.holds Try.pinned (OpenSpec.ofChange fnExactInstOkWrong)

/-- 'laws.FnNarrow': WHATEVER THE INPUT: true; the input reads as it did. -/
def fnNarrowSpec : ChangeSpec := { name := "fnNarrow", fn := fun _ => fun
  | [d] => { results := [.lit (.bool true)], args := [d] }
  | _ => none }
def fnNarrowRow : OpenClaim := { program := "ytmnlhienhfmhdaa", sum := "0e7ad8d03afe57d7e3b1aa8c854be0cf4fdc2bb02b0b3614fb1cf359b8715a1c", func := "loop.example/s01681/laws.FnNarrow", spec := "fnNarrow", plainKeys := false, apart := false }
def FnNarrowSaid : Prop := fnNarrowRow.holds Try.pinned (OpenSpec.ofChange fnNarrowSpec)

/-- ITS FALSE NEIGHBOUR: 'it returns false'. Refute it at one input. -/
def fnNarrowWrong : ChangeSpec := { name := "fnNarrow", fn := fun _ => fun
  | [d] => { results := [.lit (.bool false)], args := [d] }
  | _ => none }
def FnNarrowWrongFalsely : Prop := fnNarrowRow.holds Try.pinned (OpenSpec.ofChange fnNarrowWrong)

/-- 'laws.FnExactAlu': WHATEVER THE INPUT: true; the input reads as it did. -/
def fnExactAluSpec : ChangeSpec := { name := "fnExactAlu", fn := fun _ => fun
  | [d1, d2, d3] => { results := [.lit (.bool true)], args := [d1, d2, d3] }
  | _ => none }
def fnExactAluRow : OpenClaim := { program := "ytmnlhienhfmhdaa", sum := "0e7ad8d03afe57d7e3b1aa8c854be0cf4fdc2bb02b0b3614fb1cf359b8715a1c", func := "loop.example/s01681/laws.FnExactAlu", spec := "fnExactAlu", unfollowed := true, recurses := true, plainKeys := false, apart := false }
def FnExactAluSaid : Prop := fnExactAluRow.holds Try.pinned (OpenSpec.ofChange fnExactAluSpec)

/-- ITS FALSE NEIGHBOUR: 'it returns false'. Refute it at one input. -/
def fnExactAluWrong : ChangeSpec := { name := "fnExactAlu", fn := fun _ => fun
  | [d1, d2, d3] => { results := [.lit (.bool false)], args := [d1, d2, d3] }
  | _ => none }
def FnExactAluWrongFalsely : Prop := fnExactAluRow.holds Try.pinned (OpenSpec.ofChange fnExactAluWrong)

/-- 'laws.FnAlu': WHATEVER THE INPUT: true; the input reads as it did. -/
def fnAluSpec : ChangeSpec := { name := "fnAlu", fn := fun _ => fun
  | [d] => { results := [.lit (.bool true)], args := [d] }
  | _ => none }
def fnAluRow : OpenClaim := { program := "ytmnlhienhfmhdaa", sum := "0e7ad8d03afe57d7e3b1aa8c854be0cf4fdc2bb02b0b3614fb1cf359b8715a1c", func := "loop.example/s01681/laws.FnAlu", spec := "fnAlu", unfollowed := true, recurses := true, plainKeys := false, apart := false }
def FnAluSaid : Prop := fnAluRow.holds Try.pinned (OpenSpec.ofChange fnAluSpec)

/-- ITS FALSE NEIGHBOUR: 'it returns false'. Refute it at one input. -/
def fnAluWrong : ChangeSpec := { name := "fnAlu", fn := fun _ => fun
  | [d] => { results := [.lit (.bool false)], args := [d] }
  | _ => none }
def FnAluWrongFalsely : Prop := fnAluRow.holds Try.pinned (OpenSpec.ofChange fnAluWrong)

/-- 'laws.FnExactEncodeInst': WHATEVER THE INPUT: true; the input reads as it did. -/
def fnExactEncodeInstSpec : ChangeSpec := { name := "fnExactEncodeInst", fn := fun _ => fun
  | [d] => { results := [.lit (.bool true)], args := [d] }
  | _ => none }
def fnExactEncodeInstRow : OpenClaim := { program := "ytmnlhienhfmhdaa", sum := "0e7ad8d03afe57d7e3b1aa8c854be0cf4fdc2bb02b0b3614fb1cf359b8715a1c", func := "loop.example/s01681/laws.FnExactEncodeInst", spec := "fnExactEncodeInst", plainKeys := false, apart := false }
def FnExactEncodeInstSaid : Prop := fnExactEncodeInstRow.holds Try.pinned (OpenSpec.ofChange fnExactEncodeInstSpec)

/-- ITS FALSE NEIGHBOUR: 'it returns false'. Refute it at one input. -/
def fnExactEncodeInstWrong : ChangeSpec := { name := "fnExactEncodeInst", fn := fun _ => fun
  | [d] => { results := [.lit (.bool false)], args := [d] }
  | _ => none }
def FnExactEncodeInstWrongFalsely : Prop := fnExactEncodeInstRow.holds Try.pinned (OpenSpec.ofChange fnExactEncodeInstWrong)

/-- 'laws.FnExactDecodeInst': WHATEVER THE INPUT: true; the input reads as it did. -/
def fnExactDecodeInstSpec : ChangeSpec := { name := "fnExactDecodeInst", fn := fun _ => fun
  | [d] => { results := [.lit (.bool true)], args := [d] }
  | _ => none }
def fnExactDecodeInstRow : OpenClaim := { program := "ytmnlhienhfmhdaa", sum := "0e7ad8d03afe57d7e3b1aa8c854be0cf4fdc2bb02b0b3614fb1cf359b8715a1c", func := "loop.example/s01681/laws.FnExactDecodeInst", spec := "fnExactDecodeInst", plainKeys := false, apart := false }
def FnExactDecodeInstSaid : Prop := fnExactDecodeInstRow.holds Try.pinned (OpenSpec.ofChange fnExactDecodeInstSpec)

/-- ITS FALSE NEIGHBOUR: 'it returns false'. Refute it at one input. -/
def fnExactDecodeInstWrong : ChangeSpec := { name := "fnExactDecodeInst", fn := fun _ => fun
  | [d] => { results := [.lit (.bool false)], args := [d] }
  | _ => none }
def FnExactDecodeInstWrongFalsely : Prop := fnExactDecodeInstRow.holds Try.pinned (OpenSpec.ofChange fnExactDecodeInstWrong)

/- THE SECOND FORM. 'bulk': how many values and letters a reading holds, each counted each time it is reached (what is shared counts as often as it is met; a slice's spare places count too). A statement '..UptoSaid' is the law's where the arguments, and the package variables that the reading takes, are together of bulk at most 1048576: NARROWER than '..Said'. Prove '..Said' where nothing that the law and all that it calls make is longer than what came in: it says more and counts as full. Else prove '..UptoSaid'. A law counts once. -/
mutual
def uptoBulk {H : Type} : DataW H → Nat
  | .lit (.string bytes) => bytes.length + 1
  | .lit _ => 1
  | .nil => 1
  | .ptr d => uptoBulk d + 1
  | .slice elems spare => uptoBulkAll elems + uptoBulkAll spare + 1
  | .agg parts => uptoBulkAll parts + 1
  | .iface _ d => uptoBulk d + 1
  | .map entries => uptoBulkEntries entries + 1
  | .held _ => 1
def uptoBulkAll {H : Type} : List (DataW H) → Nat
  | [] => 0
  | d :: r => uptoBulk d + uptoBulkAll r
def uptoBulkEntries {H : Type} : List (Lit × DataW H) → Nat
  | [] => 0
  | x :: r => uptoBulkEntry x + uptoBulkEntries r
def uptoBulkEntry {H : Type} : Lit × DataW H → Nat
  | (.string bytes, d) => bytes.length + uptoBulk d + 1
  | (_, d) => uptoBulk d + 1
 end
def uptoSmall : (H : Type) → List (DataW H) → Bool := fun _ ds => decide (uptoBulkAll ds ≤ 1048576)
def OpenSpec.upto (s : _root_.Go.ChangeSpec) : _root_.Go.OpenSpec := { _root_.Go.OpenSpec.ofChange s with cond := some uptoSmall }

/-- 'laws.FnExactWord', WHERE WHAT IT READS IS OF BULK AT MOST 1048576: true; the input reads as it did. -/
def fnExactWordUptoRow : OpenClaim := { program := "ytmnlhienhfmhdaa", sum := "0e7ad8d03afe57d7e3b1aa8c854be0cf4fdc2bb02b0b3614fb1cf359b8715a1c", func := "loop.example/s01681/laws.FnExactWord", spec := "fnExactWord", plainKeys := false, apart := false, narrowed := true }
def FnExactWordUptoSaid : Prop := fnExactWordUptoRow.holds Try.pinned (OpenSpec.upto fnExactWordSpec)

/-- 'laws.FnExactKindSize', WHERE WHAT IT READS IS OF BULK AT MOST 1048576: true; the input reads as it did. -/
def fnExactKindSizeUptoRow : OpenClaim := { program := "ytmnlhienhfmhdaa", sum := "0e7ad8d03afe57d7e3b1aa8c854be0cf4fdc2bb02b0b3614fb1cf359b8715a1c", func := "loop.example/s01681/laws.FnExactKindSize", spec := "fnExactKindSize", plainKeys := false, apart := false, narrowed := true }
def FnExactKindSizeUptoSaid : Prop := fnExactKindSizeUptoRow.holds Try.pinned (OpenSpec.upto fnExactKindSizeSpec)

/-- 'laws.FnExactSigned', WHERE WHAT IT READS IS OF BULK AT MOST 1048576: true; the input reads as it did. -/
def fnExactSignedUptoRow : OpenClaim := { program := "ytmnlhienhfmhdaa", sum := "0e7ad8d03afe57d7e3b1aa8c854be0cf4fdc2bb02b0b3614fb1cf359b8715a1c", func := "loop.example/s01681/laws.FnExactSigned", spec := "fnExactSigned", plainKeys := false, apart := false, narrowed := true }
def FnExactSignedUptoSaid : Prop := fnExactSignedUptoRow.holds Try.pinned (OpenSpec.upto fnExactSignedSpec)

/-- 'laws.FnExactOpName', WHERE WHAT IT READS IS OF BULK AT MOST 1048576: true; the input reads as it did. -/
def fnExactOpNameUptoRow : OpenClaim := { program := "ytmnlhienhfmhdaa", sum := "0e7ad8d03afe57d7e3b1aa8c854be0cf4fdc2bb02b0b3614fb1cf359b8715a1c", func := "loop.example/s01681/laws.FnExactOpName", spec := "fnExactOpName", plainKeys := false, apart := false, narrowed := true }
def FnExactOpNameUptoSaid : Prop := fnExactOpNameUptoRow.holds Try.pinned (OpenSpec.upto fnExactOpNameSpec)

/-- 'laws.FnExactOpNumber', WHERE WHAT IT READS IS OF BULK AT MOST 1048576: true; the input reads as it did. -/
def fnExactOpNumberUptoRow : OpenClaim := { program := "ytmnlhienhfmhdaa", sum := "0e7ad8d03afe57d7e3b1aa8c854be0cf4fdc2bb02b0b3614fb1cf359b8715a1c", func := "loop.example/s01681/laws.FnExactOpNumber", spec := "fnExactOpNumber", plainKeys := false, apart := false, narrowed := true }
def FnExactOpNumberUptoSaid : Prop := fnExactOpNumberUptoRow.holds Try.pinned (OpenSpec.upto fnExactOpNumberSpec)

/-- 'laws.FnExactNarrow', WHERE WHAT IT READS IS OF BULK AT MOST 1048576: true; the input reads as it did. -/
def fnExactNarrowUptoRow : OpenClaim := { program := "ytmnlhienhfmhdaa", sum := "0e7ad8d03afe57d7e3b1aa8c854be0cf4fdc2bb02b0b3614fb1cf359b8715a1c", func := "loop.example/s01681/laws.FnExactNarrow", spec := "fnExactNarrow", plainKeys := false, apart := false, narrowed := true }
def FnExactNarrowUptoSaid : Prop := fnExactNarrowUptoRow.holds Try.pinned (OpenSpec.upto fnExactNarrowSpec)

/-- 'laws.FnExactInstOk', WHERE WHAT IT READS IS OF BULK AT MOST 1048576: true; the input reads as it did. -/
def fnExactInstOkUptoRow : OpenClaim := { program := "ytmnlhienhfmhdaa", sum := "0e7ad8d03afe57d7e3b1aa8c854be0cf4fdc2bb02b0b3614fb1cf359b8715a1c", func := "loop.example/s01681/laws.FnExactInstOk", spec := "fnExactInstOk", plainKeys := false, apart := false, narrowed := true }
def FnExactInstOkUptoSaid : Prop := fnExactInstOkUptoRow.holds Try.pinned (OpenSpec.upto fnExactInstOkSpec)

/-- 'laws.FnNarrow', WHERE WHAT IT READS IS OF BULK AT MOST 1048576: true; the input reads as it did. -/
def fnNarrowUptoRow : OpenClaim := { program := "ytmnlhienhfmhdaa", sum := "0e7ad8d03afe57d7e3b1aa8c854be0cf4fdc2bb02b0b3614fb1cf359b8715a1c", func := "loop.example/s01681/laws.FnNarrow", spec := "fnNarrow", plainKeys := false, apart := false, narrowed := true }
def FnNarrowUptoSaid : Prop := fnNarrowUptoRow.holds Try.pinned (OpenSpec.upto fnNarrowSpec)

/-- 'laws.FnExactAlu', WHERE WHAT IT READS IS OF BULK AT MOST 1048576: true; the input reads as it did. -/
def fnExactAluUptoRow : OpenClaim := { program := "ytmnlhienhfmhdaa", sum := "0e7ad8d03afe57d7e3b1aa8c854be0cf4fdc2bb02b0b3614fb1cf359b8715a1c", func := "loop.example/s01681/laws.FnExactAlu", spec := "fnExactAlu", unfollowed := true, recurses := true, plainKeys := false, apart := false, narrowed := true }
def FnExactAluUptoSaid : Prop := fnExactAluUptoRow.holds Try.pinned (OpenSpec.upto fnExactAluSpec)

/-- 'laws.FnAlu', WHERE WHAT IT READS IS OF BULK AT MOST 1048576: true; the input reads as it did. -/
def fnAluUptoRow : OpenClaim := { program := "ytmnlhienhfmhdaa", sum := "0e7ad8d03afe57d7e3b1aa8c854be0cf4fdc2bb02b0b3614fb1cf359b8715a1c", func := "loop.example/s01681/laws.FnAlu", spec := "fnAlu", unfollowed := true, recurses := true, plainKeys := false, apart := false, narrowed := true }
def FnAluUptoSaid : Prop := fnAluUptoRow.holds Try.pinned (OpenSpec.upto fnAluSpec)

/-- 'laws.FnExactEncodeInst', WHERE WHAT IT READS IS OF BULK AT MOST 1048576: true; the input reads as it did. -/
def fnExactEncodeInstUptoRow : OpenClaim := { program := "ytmnlhienhfmhdaa", sum := "0e7ad8d03afe57d7e3b1aa8c854be0cf4fdc2bb02b0b3614fb1cf359b8715a1c", func := "loop.example/s01681/laws.FnExactEncodeInst", spec := "fnExactEncodeInst", plainKeys := false, apart := false, narrowed := true }
def FnExactEncodeInstUptoSaid : Prop := fnExactEncodeInstUptoRow.holds Try.pinned (OpenSpec.upto fnExactEncodeInstSpec)

/-- 'laws.FnExactDecodeInst', WHERE WHAT IT READS IS OF BULK AT MOST 1048576: true; the input reads as it did. -/
def fnExactDecodeInstUptoRow : OpenClaim := { program := "ytmnlhienhfmhdaa", sum := "0e7ad8d03afe57d7e3b1aa8c854be0cf4fdc2bb02b0b3614fb1cf359b8715a1c", func := "loop.example/s01681/laws.FnExactDecodeInst", spec := "fnExactDecodeInst", plainKeys := false, apart := false, narrowed := true }
def FnExactDecodeInstUptoSaid : Prop := fnExactDecodeInstUptoRow.holds Try.pinned (OpenSpec.upto fnExactDecodeInstSpec)

end Rows
end Go.Proofs.Ytmnlhienhfmhdaa
