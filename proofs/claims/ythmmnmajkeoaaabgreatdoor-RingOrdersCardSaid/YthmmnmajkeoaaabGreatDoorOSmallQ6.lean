/-
  SmallQ of two (six digits) of rational numbers.
-/
import Derived.Test.YthmmnmajkeoaaabGreatDoorOBox
import Derived.LoopN
namespace Go.Proofs.YthmmnmajkeoaaabGreatDoor
open Go.RowKit

section
variable {A0 A1 D0 D1 : Option Addr} {n0 n1 c0 c1 m0 m1 e0 e1 g : Nat} {s0 s1 : Bool} {w : World} {t : TypeId}
/-- Few digits. -/
def few (n0 m0 n1 m1 : Nat) : Prop := n0 ≤ 6 ∧ m0 ≤ 6 ∧ n1 ≤ 6 ∧ m1 ≤ 6
end
end Go.Proofs.YthmmnmajkeoaaabGreatDoor
