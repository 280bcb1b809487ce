/-
  The contracts of Int64, Normal and NormalI.
-/
import Derived.Test.YtancgkmkbgkncaaGreatDoorK8
namespace Go.Proofs.YtancgkmkbgkncaaGreatDoor
open Go.RowKit

section
variable {A : Option Addr} {n c L : Nat} {s : Bool} {z : Int} {w : World} {ds : List Nat}
end
end Go.Proofs.YtancgkmkbgkncaaGreatDoor
