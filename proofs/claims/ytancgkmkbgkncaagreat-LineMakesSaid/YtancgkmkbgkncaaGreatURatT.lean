/-
  Rational numbers from the tape.
-/
import Derived.Test.YtancgkmkbgkncaaGreatUBox
import Derived.Test.YtancgkmkbgkncaaGreatUDivLong
import Derived.Test.YtancgkmkbgkncaaGreatUK1
import Derived.Test.YtancgkmkbgkncaaGreatUK2
import Derived.Test.YtancgkmkbgkncaaGreatUK3
import Derived.Test.YtancgkmkbgkncaaGreatUK4
import Derived.Test.YtancgkmkbgkncaaGreatUK5
import Derived.Test.YtancgkmkbgkncaaGreatUK6
import Derived.Test.YtancgkmkbgkncaaGreatUK7
import Derived.Test.YtancgkmkbgkncaaGreatUK8
import Derived.Test.YtancgkmkbgkncaaGreatUK9
import Derived.Test.YtancgkmkbgkncaaGreatUN1
import Derived.Test.YtancgkmkbgkncaaGreatUOrd
import Derived.Test.YtancgkmkbgkncaaGreatUR1
import Derived.Test.YtancgkmkbgkncaaGreatURatA
import Derived.Test.YtancgkmkbgkncaaGreatURatC
import Derived.Test.YtancgkmkbgkncaaGreatURatD
import Derived.Test.YtancgkmkbgkncaaGreatURatR
import Derived.Test.YtancgkmkbgkncaaGreatUS1
import Derived.Test.YtancgkmkbgkncaaGreatUShelf
import Derived.Deep.Cut
namespace Go.Proofs.YtancgkmkbgkncaaGreat
open Go.RowKit

section
variable   {s0 : Bool} {z z' z0 z1 z2 : Int} {q q' q0 q1 q2 : Rat} {L L0 L1 L2 x x0 x1 y : Nat} {w : World}
theorem RV.tape {w' : World} {v : Value} {x L b : Nat} (h : RV w v x L) (ht : Tape w b) (hg : w.grownBy w' (some b)) : RV w' v x L := by
  obtain ⟨A, n, c, t, h1, _⟩ := ht
  obtain ⟨ds, k1, k2, k3⟩ := h
  exact ⟨ds, Raw.keepBut k1 hg (Raw.apart k1 (cs := #[.slice A n c, .int .i64 (t : Int)]) h1 (by simp [notInt])), k2, k3⟩
theorem NV.tape {w' : World} {v : Value} {x L b : Nat} (h : NV w v x L) (ht : Tape w b) (hg : w.grownBy w' (some b)) : NV w' v x L := h.other ht hg
theorem NI.tape {w' : World} {v : Value} {L b : Nat} (h : NI w s0 v z L) (ht : Tape w b) (hg : w.grownBy w' (some b)) : NI w' s0 v z L := ⟨h.1.tape ht hg, h.2⟩
theorem RI.tape {w' : World} {v : Value} {L b : Nat} (h : RI w s0 v z L) (ht : Tape w b) (hg : w.grownBy w' (some b)) : RI w' s0 v z L := by
  obtain ⟨x, h1, h2⟩ := h; exact ⟨x, h1.tape ht hg, h2⟩
theorem PQ.tape {w' : World} {v u : Value} {L b : Nat} (h : PQ w s0 v u q L) (ht : Tape w b) (hg : w.grownBy w' (some b)) : PQ w' s0 v u q L := ⟨h.1.tape ht hg, h.2.tape ht hg⟩
theorem RQ.tape {w' : World} {v u : Value} {L b : Nat} (h : RQ w s0 v u q L) (ht : Tape w b) (hg : w.grownBy w' (some b)) : RQ w' s0 v u q L := by
  obtain ⟨z, d, h1, h2, h3⟩ := h; exact ⟨z, d, h1.tape ht hg, h2.tape ht hg, h3⟩
end
end Go.Proofs.YtancgkmkbgkncaaGreat
