/-
  Rational numbers from the tape.
-/
import Derived.Test.YthmmnmajkeoaaabGreatDoorORatR
import Derived.Deep.Cut
namespace Go.Proofs.YthmmnmajkeoaaabGreatDoor
open Go.RowKit

section
variable {A0 A1 A2 A3 D0 D1 D2 D3 : Option Addr} {n0 n1 n2 n3 c0 c1 c2 c3 m0 m1 m2 m3 e0 e1 e2 e3 : Nat} {s0 s1 s2 s3 : Bool} {z z' z0 z1 z2 : Int} {q q' q0 q1 q2 : Rat} {L L0 L1 L2 x x0 x1 y : Nat} {w : World}
theorem NV.tape {w' : World} {v : Value} {x L b : Nat} (h : NV w v x L) (ht : Tape w b) (hg : w.grownBy w' (some b)) : NV w' v x L := h.other ht hg
theorem NI.tape {w' : World} {v : Value} {L b : Nat} (h : NI w s0 v z L) (ht : Tape w b) (hg : w.grownBy w' (some b)) : NI w' s0 v z L := ⟨h.1.tape ht hg, h.2⟩
theorem PQ.tape {w' : World} {v u : Value} {L b : Nat} (h : PQ w s0 v u q L) (ht : Tape w b) (hg : w.grownBy w' (some b)) : PQ w' s0 v u q L := ⟨h.1.tape ht hg, h.2.tape ht hg⟩
end
end Go.Proofs.YthmmnmajkeoaaabGreatDoor
