/-
  Rational numbers from the tape.
-/
import Derived.Test.YtfonldogbfkpiaaGreatRatR
import Derived.Deep.Cut
namespace Go.Proofs.YtfonldogbfkpiaaGreat
open Go.RowKit

section
variable {A0 A1 A2 A3 D0 D1 D2 D3 : Option Addr} {n0 n1 n2 n3 c0 c1 c2 c3 m0 m1 m2 m3 e0 e1 e2 e3 : Nat} {s0 s1 s2 s3 : Bool} {z z' z0 z1 z2 : Int} {q q' q0 q1 q2 : Rat} {L L0 L1 L2 x x0 x1 y : Nat} {w : World}
theorem RV.tape {w' : World} {v : Value} {x L b : Nat} (h : RV w v x L) (ht : Tape w b) (hg : w.grownBy w' (some b)) : RV w' v x L := by
  obtain ⟨A, n, c, t, h1, _⟩ := ht
  obtain ⟨ds, k1, k2, k3⟩ := h
  exact ⟨ds, Raw.keepBut k1 hg (Raw.apart k1 (cs := #[.slice A n c, .int .i64 (t : Int)]) h1 (by simp [notInt])), k2, k3⟩
theorem NV.tape {w' : World} {v : Value} {x L b : Nat} (h : NV w v x L) (ht : Tape w b) (hg : w.grownBy w' (some b)) : NV w' v x L := h.other ht hg
theorem NI.tape {w' : World} {v : Value} {L b : Nat} (h : NI w s0 v z L) (ht : Tape w b) (hg : w.grownBy w' (some b)) : NI w' s0 v z L := ⟨h.1.tape ht hg, h.2⟩
theorem RI.tape {w' : World} {v : Value} {L b : Nat} (h : RI w s0 v z L) (ht : Tape w b) (hg : w.grownBy w' (some b)) : RI w' s0 v z L := by
  obtain ⟨x, h1, h2⟩ := h; exact ⟨x, h1.tape ht hg, h2⟩
theorem PQ.tape {w' : World} {v u : Value} {L b : Nat} (h : PQ w s0 v u q L) (ht : Tape w b) (hg : w.grownBy w' (some b)) : PQ w' s0 v u q L := ⟨h.1.tape ht hg, h.2.tape ht hg⟩
theorem RQ.tape {w' : World} {v u : Value} {L b : Nat} (h : RQ w s0 v u q L) (ht : Tape w b) (hg : w.grownBy w' (some b)) : RQ w' s0 v u q L := by
  obtain ⟨z, d, h1, h2, h3⟩ := h; exact ⟨z, d, h1.tape ht hg, h2.tape ht hg, h3⟩
theorem Box.stored32 {g : Nat} {t : TypeId} {a c d : Value} (h : Box w g #[a, c, d] t) (u : Value) : Box (w.setCell ⟨g, 2, none⟩ u) g #[a, c, u] t := by
  unfold Box; rw [heap_setCell_same w g 2 _ _ _ h]; simp
end
end Go.Proofs.YtfonldogbfkpiaaGreat
