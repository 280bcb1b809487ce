/-
  A point that need not be in normal form.
-/
import Derived.Test.YtlpgbflajcfgpaaGreatDoorT2
import Derived.Test.YtlpgbflajcfgpaaGreatDoorPhase
import Derived.Deep.Cut
namespace Go.Proofs.YtlpgbflajcfgpaaGreatDoor
open Go.RowKit

section
variable {A0 A1 A2 A3 A4 A5 A6 A7 D0 D1 D2 D3 D4 D5 D6 D7 : Option Addr} {n0 n1 n2 n3 n4 n5 n6 n7 c0 c1 c2 c3 c4 c5 c6 c7 m0 m1 m2 m3 m4 m5 m6 m7 e0 e1 e2 e3 e4 e5 e6 e7 : Nat} {s0 s1 s2 s3 s4 s5 s6 s7 : Bool} {q0 q1 q2 q3 q4 q5 q6 q7 : Rat} {z z' z0 z1 : Int} {L L0 L1 x x0 x1 y : Nat} {w : World}
theorem NQ.tape {w' : World} {v u : Value} {q : Rat} {s0 : Bool} {b : Nat} (h : NQ w s0 v u q L) (ht : Tape w b) (hg : w.grownBy w' (some b)) : NQ w' s0 v u q L := ⟨h.1.tape ht hg, h.2.tape ht hg⟩
theorem rq_zero (w : World) : RQ w false (.slice none 0 0) (.slice none 0 0) 0 6 := ⟨0, 0, ⟨0, (slice_nil w (L := 6)).rv, rfl⟩, (slice_nil w (L := 6)).rv, (Rat.mkRat_zero 0).symm⟩
end
end Go.Proofs.YtlpgbflajcfgpaaGreatDoor
