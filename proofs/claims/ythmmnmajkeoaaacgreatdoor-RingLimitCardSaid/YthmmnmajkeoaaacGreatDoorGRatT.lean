/-
  Rational numbers from the tape.
-/
import Derived.Test.YthmmnmajkeoaaacGreatDoorGRatR
import Derived.Deep.Cut
namespace Go.Proofs.YthmmnmajkeoaaacGreatDoor
open Go.RowKit

section
variable {A0 A1 A2 A3 D0 D1 D2 D3 : Option Addr} {n0 n1 n2 n3 c0 c1 c2 c3 m0 m1 m2 m3 e0 e1 e2 e3 : Nat} {s0 s1 s2 s3 : Bool} {z z' z0 z1 z2 : Int} {q q' q0 q1 q2 : Rat} {L L0 L1 L2 x x0 x1 y : Nat} {w : World}
end
end Go.Proofs.YthmmnmajkeoaaacGreatDoor
