/-
  Homogeneous coordinates, points and parameters of lines.
-/
import Derived.Test.YtancgkmkbgkncaaGreatUBox
import Derived.Test.YtancgkmkbgkncaaGreatUDivLong
import Derived.Test.YtancgkmkbgkncaaGreatUFormI
import Derived.Test.YtancgkmkbgkncaaGreatUIGcd
import Derived.Test.YtancgkmkbgkncaaGreatUK1
import Derived.Test.YtancgkmkbgkncaaGreatUK2
import Derived.Test.YtancgkmkbgkncaaGreatUK3
import Derived.Test.YtancgkmkbgkncaaGreatUK4
import Derived.Test.YtancgkmkbgkncaaGreatUK5
import Derived.Test.YtancgkmkbgkncaaGreatUK6
import Derived.Test.YtancgkmkbgkncaaGreatUK7
import Derived.Test.YtancgkmkbgkncaaGreatUK8
import Derived.Test.YtancgkmkbgkncaaGreatUK9
import Derived.Test.YtancgkmkbgkncaaGreatULnA
import Derived.Test.YtancgkmkbgkncaaGreatULnB
import Derived.Test.YtancgkmkbgkncaaGreatULnD
import Derived.Test.YtancgkmkbgkncaaGreatULnM
import Derived.Test.YtancgkmkbgkncaaGreatUN1
import Derived.Test.YtancgkmkbgkncaaGreatUOrd
import Derived.Test.YtancgkmkbgkncaaGreatUR1
import Derived.Test.YtancgkmkbgkncaaGreatURatA
import Derived.Test.YtancgkmkbgkncaaGreatURatC
import Derived.Test.YtancgkmkbgkncaaGreatURatD
import Derived.Test.YtancgkmkbgkncaaGreatURatR
import Derived.Test.YtancgkmkbgkncaaGreatURatS
import Derived.Test.YtancgkmkbgkncaaGreatUS1
import Derived.Test.YtancgkmkbgkncaaGreatUShelf
namespace Go.Proofs.YtancgkmkbgkncaaGreat
open Go.RowKit

section
variable {A0 : Option Addr} {n0 c0 e1 e2 : Nat} {s0 : Bool} {q0 q1 q2 q3 q4 q5 q6 q7 : Rat} {z0 z1 z2 z3 z4 z5 z6 z7 z8 z9 z10 z11 : Int} {L L0 L1 x y : Nat} {k : Int} {b : Bool} {w : World}
theorem inormal_n (h : NI w s0 (.slice A0 n0 c0) z0 L) :
    Calls Tryz.prog 110 #[.agg #[.bool s0, .slice A0 n0 c0]] w fun e w' => e = .returned (.bool true) ∧ Below w.heap.size w w' := by
  have h1 := inormal_v (s := s0) (show Raw w (.slice A0 n0 c0) (digs z0.natAbs) from h.1.1)
  have h2 : normIB s0 (digs z0.natAbs) = true := by
    unfold normIB
    rw [normB_digs, Bool.true_and, Bool.not_eq_true', h.2]
    rcases Nat.eq_zero_or_pos z0.natAbs with h0 | h0
    · rw [show decide (z0 < 0) = false from decide_eq_false (by omega), Bool.false_and]
    · rw [show ((digs z0.natAbs).length == 0) = false by rw [beq_eq_false_iff_ne]; have := digs_length_pos h0; omega, Bool.and_false]
  rwa [h2] at h1
theorem hom_dot {q q' : Rat} {u v d : Int} (h : Hom q q' u v d) (a b c : Int) : ((a * u + b * v + c * d : Int) : Rat) = ((a : Rat) * q + (b : Rat) * q' + (c : Rat)) * (d : Rat) := by
  rw [Rat.intCast_add, Rat.intCast_add, Rat.intCast_mul, Rat.intCast_mul, Rat.intCast_mul, h.2.1, h.2.2]; grind
theorem int_ne {d : Int} (h : d ≠ 0) : (d : Rat) ≠ 0 := fun h0 => h (Rat.intCast_inj.1 h0)
theorem rsg_pos_mul {r : Rat} {n d : Int} (hd : 0 < d) (h : (n : Rat) = r * (d : Rat)) : rsg r = n.sign := by
  have e : r = mkRat n d.natAbs := by
    have h1 : r = (n : Rat) / (d : Rat) := by have := int_ne (show d ≠ 0 by omega); rw [h]; grind
    rw [h1, ← Rat.divInt_eq_div, ← Rat.divInt_ofNat, show ((d.natAbs : Nat) : Int) = d by omega]
  rw [e, rsg_mk (by omega)]
theorem hom_sign {q q' : Rat} {u v d : Int} (h : Hom q q' u v d) (a b c : Int) : (a * u + b * v + c * d).sign = rsg ((a : Rat) * q + (b : Rat) * q' + (c : Rat)) := (rsg_pos_mul h.1 (hom_dot h a b c)).symm
/-- The coefficients of the line through two points, but for a positive factor. -/
def Thr (q0 q1 q2 q3 : Rat) (a b c : Int) : Prop := ∃ K : Int, 0 < K ∧ (a : Rat) = (q1 - q3) * (K : Rat) ∧ (b : Rat) = (q2 - q0) * (K : Rat) ∧ (c : Rat) = (q0 * q3 - q1 * q2) * (K : Rat)
theorem hom_thr {q0 q1 q2 q3 : Rat} {u v d u' v' d' : Int} (h : Hom q0 q1 u v d) (h' : Hom q2 q3 u' v' d') : Thr q0 q1 q2 q3 (v * d' - d * v') (d * u' - u * d') (u * v' - v * u') := by
  refine ⟨d * d', Int.mul_pos h.1 h'.1, ?_, ?_, ?_⟩
  · rw [Rat.intCast_sub, Rat.intCast_mul, Rat.intCast_mul, Rat.intCast_mul, h.2.2, h'.2.2]; grind
  · rw [Rat.intCast_sub, Rat.intCast_mul, Rat.intCast_mul, Rat.intCast_mul, h.2.1, h'.2.1]; grind
  · rw [Rat.intCast_sub, Rat.intCast_mul, Rat.intCast_mul, Rat.intCast_mul, h.2.1, h'.2.1, h.2.2, h'.2.2]; grind
theorem thr_zero {q0 q1 q2 q3 : Rat} {a b c : Int} (h : Thr q0 q1 q2 q3 a b c) : (a = 0 ∧ b = 0) ↔ (q0 = q2 ∧ q1 = q3) := by
  obtain ⟨K, hK, ea, eb, _⟩ := h
  have hk := int_ne (show K ≠ 0 by omega)
  constructor
  · rintro ⟨rfl, rfl⟩
    have e1 : (q1 - q3) * (K : Rat) = 0 := ea.symm
    have e2 : (q2 - q0) * (K : Rat) = 0 := eb.symm
    constructor
    · rcases Rat.mul_eq_zero.1 e2 with h | h
      · grind
      · exact absurd h hk
    · rcases Rat.mul_eq_zero.1 e1 with h | h
      · grind
      · exact absurd h hk
  · rintro ⟨rfl, rfl⟩
    exact ⟨Rat.intCast_inj.1 (by rw [ea]; grind), Rat.intCast_inj.1 (by rw [eb]; grind)⟩
theorem thr_pr {q0 q1 q2 q3 : Rat} {a b c a' b' c' : Int} (h : Thr q0 q1 q2 q3 a b c) (h' : Thr q0 q1 q2 q3 a' b' c') : pr a a b c = pr a' a' b' c' ∧ pr b a b c = pr b' a' b' c' ∧ pr c a b c = pr c' a' b' c' := by
  obtain ⟨K, hK, ea, eb, ec⟩ := h
  obtain ⟨K', hK', ea', eb', ec'⟩ := h'
  exact pr_rat hK hK' ea eb ec ea' eb' ec'
theorem div_one' (z : Int) : (z : Rat) / ((1 : Int) : Rat) = (z : Rat) := by rw [show ((1 : Int) : Rat) = 1 from rfl]; grind
end
end Go.Proofs.YtancgkmkbgkncaaGreat
