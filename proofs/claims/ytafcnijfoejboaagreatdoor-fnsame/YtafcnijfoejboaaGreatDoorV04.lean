import Derived.WalkKit
import Derived.Below
import Derived.Laws.ResultCell
import Derived.Laws.Tables
import Derived.Deep.WholeRow
import Derived.Great.Walk
import Derived.Test.YtafcnijfoejboaaGreatDoorV00
namespace Go.Proofs.YtafcnijfoejboaaGreatDoor.Kit
open Go
end Go.Proofs.YtafcnijfoejboaaGreatDoor.Kit
namespace Go.Proofs.YtafcnijfoejboaaGreatDoor.Pl
def rows : List (List UInt8 × Int × List Int) := [
  ([], 0, [0, 0, 0, 0]),
  ([97, 100, 100], 1, [51, 0, 0, 0]),
  ([115, 117, 98], 1, [51, 0, 32, 0]),
  ([115, 108, 108], 1, [51, 1, 0, 0]),
  ([115, 108, 116], 1, [51, 2, 0, 0]),
  ([115, 108, 116, 117], 1, [51, 3, 0, 0]),
  ([120, 111, 114], 1, [51, 4, 0, 0]),
  ([115, 114, 108], 1, [51, 5, 0, 0]),
  ([115, 114, 97], 1, [51, 5, 32, 0]),
  ([111, 114], 1, [51, 6, 0, 0]),
  ([97, 110, 100], 1, [51, 7, 0, 0]),
  ([109, 117, 108], 1, [51, 0, 1, 0]),
  ([109, 117, 108, 104], 1, [51, 1, 1, 0]),
  ([109, 117, 108, 104, 115, 117], 1, [51, 2, 1, 0]),
  ([109, 117, 108, 104, 117], 1, [51, 3, 1, 0]),
  ([100, 105, 118], 1, [51, 4, 1, 0]),
  ([100, 105, 118, 117], 1, [51, 5, 1, 0]),
  ([114, 101, 109], 1, [51, 6, 1, 0]),
  ([114, 101, 109, 117], 1, [51, 7, 1, 0]),
  ([97, 100, 100, 105], 2, [19, 0, 0, 0]),
  ([115, 108, 116, 105], 2, [19, 2, 0, 0]),
  ([115, 108, 116, 105, 117], 2, [19, 3, 0, 0]),
  ([120, 111, 114, 105], 2, [19, 4, 0, 0]),
  ([111, 114, 105], 2, [19, 6, 0, 0]),
  ([97, 110, 100, 105], 2, [19, 7, 0, 0]),
  ([115, 108, 108, 105], 3, [19, 1, 0, 0]),
  ([115, 114, 108, 105], 3, [19, 5, 0, 0]),
  ([115, 114, 97, 105], 3, [19, 5, 32, 0]),
  ([108, 98], 2, [3, 0, 0, 0]),
  ([108, 104], 2, [3, 1, 0, 0]),
  ([108, 119], 2, [3, 2, 0, 0]),
  ([108, 98, 117], 2, [3, 4, 0, 0]),
  ([108, 104, 117], 2, [3, 5, 0, 0]),
  ([106, 97, 108, 114], 2, [103, 0, 0, 0]),
  ([115, 98], 4, [35, 0, 0, 0]),
  ([115, 104], 4, [35, 1, 0, 0]),
  ([115, 119], 4, [35, 2, 0, 0]),
  ([98, 101, 113], 5, [99, 0, 0, 0]),
  ([98, 110, 101], 5, [99, 1, 0, 0]),
  ([98, 108, 116], 5, [99, 4, 0, 0]),
  ([98, 103, 101], 5, [99, 5, 0, 0]),
  ([98, 108, 116, 117], 5, [99, 6, 0, 0]),
  ([98, 103, 101, 117], 5, [99, 7, 0, 0]),
  ([108, 117, 105], 6, [55, 0, 0, 0]),
  ([97, 117, 105, 112, 99], 6, [23, 0, 0, 0]),
  ([106, 97, 108], 7, [111, 0, 0, 0]),
  ([101, 99, 97, 108, 108], 8, [115, 0, 0, 0]),
  ([101, 98, 114, 101, 97, 107], 8, [115, 0, 0, 1])]

end Go.Proofs.YtafcnijfoejboaaGreatDoor.Pl
namespace Go.Proofs.YtafcnijfoejboaaGreatDoor.W
open Go.RowKit
end Go.Proofs.YtafcnijfoejboaaGreatDoor.W
namespace Go.Proofs.YtafcnijfoejboaaGreatDoor.Pl
def nm (k : Nat) : ByteArray := ⟨(rows.getD k ([], 0, [])).1.toArray⟩
def cc (k i : Nat) : Int := (rows.getD k ([], 0, [])).2.2.getD i 0
def names : Array Value := (rows.map fun r => Value.string ⟨r.1.toArray⟩).toArray
end Go.Proofs.YtafcnijfoejboaaGreatDoor.Pl
namespace Go.Proofs.YtafcnijfoejboaaGreatDoor.W
open Go.RowKit
end Go.Proofs.YtafcnijfoejboaaGreatDoor.W
namespace Go.Proofs.YtafcnijfoejboaaGreatDoor.Pl
def lo : Nat → Int
  | 2 => -2048
  | 4 => -2048
  | 5 => -4096
  | 7 => -1048576
  | _ => 0
def hi : Nat → Int
  | 2 => 2047
  | 3 => 31
  | 4 => 2047
  | 5 => 4094
  | 6 => 1048575
  | 7 => 1048574
  | _ => 0
def pt : Nat → List Int
  | 2 => [0, 12, 20, 0, 0, 0, 0, 0, 0, 0, 0, 0]
  | 3 => [0, 5, 20, 0, 0, 0, 0, 0, 0, 0, 0, 0]
  | 4 => [5, 7, 25, 0, 5, 7, 0, 0, 0, 0, 0, 0]
  | 5 => [12, 1, 31, 5, 6, 25, 1, 4, 8, 11, 1, 7]
  | 6 => [0, 20, 12, 0, 0, 0, 0, 0, 0, 0, 0, 0]
  | 7 => [20, 1, 31, 1, 10, 21, 11, 1, 20, 12, 8, 12]
  | _ => [0, 0, 0, 0, 0, 0, 0, 0, 0, 0, 0, 0]
def pa (f i : Nat) : Int := (pt f).getD i 0
end Go.Proofs.YtafcnijfoejboaaGreatDoor.Pl
namespace Go.Proofs.YtafcnijfoejboaaGreatDoor.W
open Go.RowKit
end Go.Proofs.YtafcnijfoejboaaGreatDoor.W
namespace Go.Proofs.YtafcnijfoejboaaGreatDoor.W
open Go.RowKit
end Go.Proofs.YtafcnijfoejboaaGreatDoor.W
namespace Go.Proofs.YtafcnijfoejboaaGreatDoor.W
open Go.RowKit
end Go.Proofs.YtafcnijfoejboaaGreatDoor.W
namespace Go.Proofs.YtafcnijfoejboaaGreatDoor.W
open Go.RowKit
end Go.Proofs.YtafcnijfoejboaaGreatDoor.W
namespace Go.Proofs.YtafcnijfoejboaaGreatDoor.W
open Go.RowKit
end Go.Proofs.YtafcnijfoejboaaGreatDoor.W
namespace Go.Proofs.YtafcnijfoejboaaGreatDoor.W
open Go.RowKit
end Go.Proofs.YtafcnijfoejboaaGreatDoor.W
namespace Go.Proofs.YtafcnijfoejboaaGreatDoor.W
open Go.RowKit
end Go.Proofs.YtafcnijfoejboaaGreatDoor.W
namespace Go.Proofs.YtafcnijfoejboaaGreatDoor.Pl
end Go.Proofs.YtafcnijfoejboaaGreatDoor.Pl
namespace Go.Proofs.YtafcnijfoejboaaGreatDoor.W
open Go.RowKit
end Go.Proofs.YtafcnijfoejboaaGreatDoor.W
namespace Go.Proofs.YtafcnijfoejboaaGreatDoor.Pl
end Go.Proofs.YtafcnijfoejboaaGreatDoor.Pl
namespace Go.Proofs.YtafcnijfoejboaaGreatDoor.W
open Go.RowKit
end Go.Proofs.YtafcnijfoejboaaGreatDoor.W
