/-
  Homogeneous coordinates, points and parameters of lines.
-/
import Derived.Test.YtfonldogbfkpiaaGreatLnD
import Derived.Test.YtfonldogbfkpiaaGreatLnM
import Derived.Test.YtfonldogbfkpiaaGreatFormI
import Derived.Test.YtfonldogbfkpiaaGreatRatS
namespace Go.Proofs.YtfonldogbfkpiaaGreat
open Go.RowKit

section
variable {A0 A1 A2 A3 A4 A5 A6 A7 A8 A9 A10 A11 A12 A13 A14 A15 A16 A17 A18 A19 A20 A21 A22 A23 D0 D1 D2 D3 D4 D5 D6 D7 D8 D9 D10 D11 D12 D13 D14 D15 D16 D17 D18 D19 D20 D21 D22 D23 : Option Addr} {n0 n1 n2 n3 n4 n5 n6 n7 n8 n9 n10 n11 n12 n13 n14 n15 n16 n17 n18 n19 n20 n21 n22 n23 c0 c1 c2 c3 c4 c5 c6 c7 c8 c9 c10 c11 c12 c13 c14 c15 c16 c17 c18 c19 c20 c21 c22 c23 m0 m1 m2 m3 m4 m5 m6 m7 m8 m9 m10 m11 m12 m13 m14 m15 m16 m17 m18 m19 m20 m21 m22 m23 e0 e1 e2 e3 e4 e5 e6 e7 e8 e9 e10 e11 e12 e13 e14 e15 e16 e17 e18 e19 e20 e21 e22 e23 : Nat} {s0 s1 s2 s3 s4 s5 s6 s7 s8 s9 s10 s11 s12 s13 s14 s15 s16 s17 s18 s19 s20 s21 s22 s23 : Bool} {q0 q1 q2 q3 q4 q5 q6 q7 : Rat} {z0 z1 z2 z3 z4 z5 z6 z7 z8 z9 z10 z11 : Int} {L L0 L1 x y : Nat} {k : Int} {b : Bool} {w : World}
theorem inormal_n (h : NI w s0 (.slice A0 n0 c0) z0 L) :
    Calls Tryz.prog 46 #[.agg #[.bool s0, .slice A0 n0 c0]] w fun e w' => e = .returned (.bool true) ∧ Below w.heap.size w w' := by
  have h1 := inormal_v (s := s0) (show Raw w (.slice A0 n0 c0) (digs z0.natAbs) from h.1.1)
  have h2 : normIB s0 (digs z0.natAbs) = true := by
    unfold normIB
    rw [normB_digs, Bool.true_and, Bool.not_eq_true', h.2]
    rcases Nat.eq_zero_or_pos z0.natAbs with h0 | h0
    · rw [show decide (z0 < 0) = false from decide_eq_false (by omega), Bool.false_and]
    · rw [show ((digs z0.natAbs).length == 0) = false by rw [beq_eq_false_iff_ne]; have := digs_length_pos h0; omega, Bool.and_false]
  rwa [h2] at h1
theorem hom_dot {q q' : Rat} {u v d : Int} (h : Hom q q' u v d) (a b c : Int) : ((a * u + b * v + c * d : Int) : Rat) = ((a : Rat) * q + (b : Rat) * q' + (c : Rat)) * (d : Rat) := by
  rw [Rat.intCast_add, Rat.intCast_add, Rat.intCast_mul, Rat.intCast_mul, Rat.intCast_mul, h.2.1, h.2.2]; grind
theorem int_ne {d : Int} (h : d ≠ 0) : (d : Rat) ≠ 0 := fun h0 => h (Rat.intCast_inj.1 h0)
theorem hom_ne {q q' : Rat} {u v d : Int} (h : Hom q q' u v d) : (d : Rat) ≠ 0 := int_ne (by have := h.1; omega)
theorem hom_val {q q' : Rat} {u v d : Int} (h : Hom q q' u v d) (a b c : Int) : ((a * u + b * v + c * d : Int) : Rat) / (d : Rat) = (a : Rat) * q + (b : Rat) * q' + (c : Rat) := by
  rw [hom_dot h]; have := hom_ne h; grind
theorem rsg_pos_mul {r : Rat} {n d : Int} (hd : 0 < d) (h : (n : Rat) = r * (d : Rat)) : rsg r = n.sign := by
  have e : r = mkRat n d.natAbs := by
    have h1 : r = (n : Rat) / (d : Rat) := by have := int_ne (show d ≠ 0 by omega); rw [h]; grind
    rw [h1, ← Rat.divInt_eq_div, ← Rat.divInt_ofNat, show ((d.natAbs : Nat) : Int) = d by omega]
  rw [e, rsg_mk (by omega)]
theorem hom_sign {q q' : Rat} {u v d : Int} (h : Hom q q' u v d) (a b c : Int) : (a * u + b * v + c * d).sign = rsg ((a : Rat) * q + (b : Rat) * q' + (c : Rat)) := (rsg_pos_mul h.1 (hom_dot h a b c)).symm
/-- The coefficients of the line through two points, but for a positive factor. -/
def Thr (q0 q1 q2 q3 : Rat) (a b c : Int) : Prop := ∃ K : Int, 0 < K ∧ (a : Rat) = (q1 - q3) * (K : Rat) ∧ (b : Rat) = (q2 - q0) * (K : Rat) ∧ (c : Rat) = (q0 * q3 - q1 * q2) * (K : Rat)
theorem hom_thr {q0 q1 q2 q3 : Rat} {u v d u' v' d' : Int} (h : Hom q0 q1 u v d) (h' : Hom q2 q3 u' v' d') : Thr q0 q1 q2 q3 (v * d' - d * v') (d * u' - u * d') (u * v' - v * u') := by
  refine ⟨d * d', Int.mul_pos h.1 h'.1, ?_, ?_, ?_⟩
  · rw [Rat.intCast_sub, Rat.intCast_mul, Rat.intCast_mul, Rat.intCast_mul, h.2.2, h'.2.2]; grind
  · rw [Rat.intCast_sub, Rat.intCast_mul, Rat.intCast_mul, Rat.intCast_mul, h.2.1, h'.2.1]; grind
  · rw [Rat.intCast_sub, Rat.intCast_mul, Rat.intCast_mul, Rat.intCast_mul, h.2.1, h'.2.1, h.2.2, h'.2.2]; grind
theorem thr_zero {q0 q1 q2 q3 : Rat} {a b c : Int} (h : Thr q0 q1 q2 q3 a b c) : (a = 0 ∧ b = 0) ↔ (q0 = q2 ∧ q1 = q3) := by
  obtain ⟨K, hK, ea, eb, _⟩ := h
  have hk := int_ne (show K ≠ 0 by omega)
  constructor
  · rintro ⟨rfl, rfl⟩
    have e1 : (q1 - q3) * (K : Rat) = 0 := ea.symm
    have e2 : (q2 - q0) * (K : Rat) = 0 := eb.symm
    constructor
    · rcases Rat.mul_eq_zero.1 e2 with h | h
      · grind
      · exact absurd h hk
    · rcases Rat.mul_eq_zero.1 e1 with h | h
      · grind
      · exact absurd h hk
  · rintro ⟨rfl, rfl⟩
    exact ⟨Rat.intCast_inj.1 (by rw [ea]; grind), Rat.intCast_inj.1 (by rw [eb]; grind)⟩
theorem thr_pr {q0 q1 q2 q3 : Rat} {a b c a' b' c' : Int} (h : Thr q0 q1 q2 q3 a b c) (h' : Thr q0 q1 q2 q3 a' b' c') : pr a a b c = pr a' a' b' c' ∧ pr b a b c = pr b' a' b' c' ∧ pr c a b c = pr c' a' b' c' := by
  obtain ⟨K, hK, ea, eb, ec⟩ := h
  obtain ⟨K', hK', ea', eb', ec'⟩ := h'
  exact pr_rat hK hK' ea eb ec ea' eb' ec'
theorem div_one' (z : Int) : (z : Rat) / ((1 : Int) : Rat) = (z : Rat) := by rw [show ((1 : Int) : Rat) = 1 from rfl]; grind
/-- The square of the length of the direction. -/
theorem sqd_pos {a b : Int} (h : ¬ (a = 0 ∧ b = 0)) : 0 < b * b + -a * -a := by
  have h1 : 0 ≤ b * b := by rcases Int.le_total 0 b with h | h; exact Int.mul_nonneg h h; exact Int.mul_nonneg_of_nonpos_of_nonpos h h
  have h2 : 0 ≤ -a * -a := by rcases Int.le_total 0 (-a) with h | h; exact Int.mul_nonneg h h; exact Int.mul_nonneg_of_nonpos_of_nonpos h h
  rcases Decidable.em (b = 0) with hb | hb
  · have ha : a ≠ 0 := fun ha => h ⟨ha, hb⟩
    have : -a * -a ≠ 0 := Int.mul_ne_zero (by omega) (by omega)
    omega
  · have : b * b ≠ 0 := Int.mul_ne_zero hb hb
    omega
/-- The point of a line with a parameter. -/
def atX (z0 z1 z2 : Int) (q : Rat) : Rat := -((z2 : Rat) / ((z1 : Rat) * (z1 : Rat) + -(z0 : Rat) * -(z0 : Rat))) * (z0 : Rat) + q * (z1 : Rat)
def atY (z0 z1 z2 : Int) (q : Rat) : Rat := -((z2 : Rat) / ((z1 : Rat) * (z1 : Rat) + -(z0 : Rat) * -(z0 : Rat))) * (z1 : Rat) + q * -(z0 : Rat)
theorem sqd_ne {a b : Int} (h : ¬ (a = 0 ∧ b = 0)) : (b : Rat) * (b : Rat) + -(a : Rat) * -(a : Rat) ≠ 0 := by
  have h1 := int_ne (show b * b + -a * -a ≠ 0 by have := sqd_pos h; omega)
  rwa [Rat.intCast_add, Rat.intCast_mul, Rat.intCast_mul, Rat.intCast_neg] at h1
theorem at_den {z0 z1 : Int} (h : ¬ (z0 = 0 ∧ z1 = 0)) {d : Int} (hd : 0 < d) : z0 * (-z0 * d) - z1 * (z1 * d) ≠ 0 := by
  have h1 := sqd_pos h
  have h2 : z0 * (-z0 * d) - z1 * (z1 * d) = -((z1 * z1 + -z0 * -z0) * d) := by grind
  rw [h2]
  have := Int.mul_pos h1 hd
  omega
theorem at_x {z0 z1 : Int} (z2 : Int) (h : ¬ (z0 = 0 ∧ z1 = 0)) (q : Rat) : (((z1 * -((z1 * z1 + -z0 * -z0 + 0 * 0) * q.num) - z2 * (-z0 * (q.den : Int)) : Int)) : Rat) / ((z0 * (-z0 * (q.den : Int)) - z1 * (z1 * (q.den : Int)) : Int) : Rat) = atX z0 z1 z2 q := by
  have hs := sqd_ne h
  have hn := num_cast q
  have hd := den_cast_ne q
  unfold atX
  simp only [Rat.intCast_sub, Rat.intCast_mul, Rat.intCast_neg, Rat.intCast_add, Rat.intCast_natCast, hn]
  rw [show ((0 : Int) : Rat) = 0 from rfl]
  generalize (q.den : Rat) = d at *
  generalize (z0 : Rat) = a at *
  generalize (z1 : Rat) = b at *
  generalize (z2 : Rat) = c at *
  have e : a * (-a * d) - b * (b * d) = -(b * b + -a * -a) * d := by grind
  rw [e]
  generalize hm : b * b + -a * -a = m at *
  rw [show (b * -((m + 0 * 0) * (q * d)) - c * (-a * d)) = -(m * d) * (q * b) + (a * c) * d by grind]
  have hmd : -m * d ≠ 0 := by
    intro h0
    rcases Rat.mul_eq_zero.1 h0 with h1 | h1
    · exact hs (by grind)
    · exact hd h1
  clear hm e hn
  grind
theorem at_y {z0 z1 : Int} (z2 : Int) (h : ¬ (z0 = 0 ∧ z1 = 0)) (q : Rat) : (((z2 * (z1 * (q.den : Int)) - z0 * -((z1 * z1 + -z0 * -z0 + 0 * 0) * q.num) : Int)) : Rat) / ((z0 * (-z0 * (q.den : Int)) - z1 * (z1 * (q.den : Int)) : Int) : Rat) = atY z0 z1 z2 q := by
  have hs := sqd_ne h
  have hn := num_cast q
  have hd := den_cast_ne q
  unfold atY
  simp only [Rat.intCast_sub, Rat.intCast_mul, Rat.intCast_neg, Rat.intCast_add, Rat.intCast_natCast, hn]
  rw [show ((0 : Int) : Rat) = 0 from rfl]
  generalize (q.den : Rat) = d at *
  generalize (z0 : Rat) = a at *
  generalize (z1 : Rat) = b at *
  generalize (z2 : Rat) = c at *
  have e : a * (-a * d) - b * (b * d) = -(b * b + -a * -a) * d := by grind
  rw [e]
  generalize hm : b * b + -a * -a = m at *
  rw [show (c * (b * d) - a * -((m + 0 * 0) * (q * d))) = (m * d) * (q * a) + (b * c) * d by grind]
  have hmd : -m * d ≠ 0 := by
    intro h0
    rcases Rat.mul_eq_zero.1 h0 with h1 | h1
    · exact hs (by grind)
    · exact hd h1
  clear hm e hn
  grind
/-- The parameter of the nearest point. -/
def parQ (z0 z1 : Int) (q q' : Rat) : Rat := (q * (z1 : Rat) + q' * -(z0 : Rat)) / ((z1 : Rat) * (z1 : Rat) + -(z0 : Rat) * -(z0 : Rat))
theorem par_val {z0 z1 : Int} (h : ¬ (z0 = 0 ∧ z1 = 0)) {q q' : Rat} {u v d : Int} (hh : Hom q q' u v d) : ((z1 * u + -z0 * v + 0 * d : Int) : Rat) / (((z1 * z1 + -z0 * -z0 + 0 * 0) * d : Int) : Rat) = parQ z0 z1 q q' := by
  have hs := sqd_ne h
  have hd := hom_ne hh
  rw [hom_dot hh]
  unfold parQ
  simp only [Rat.intCast_mul, Rat.intCast_neg, Rat.intCast_add]
  rw [show ((0 : Int) : Rat) = 0 from rfl]
  generalize (d : Rat) = e at *
  generalize (z0 : Rat) = a at *
  generalize (z1 : Rat) = b at *
  clear hh
  generalize hm : b * b + -a * -a = m at *
  rw [show (m + 0 * 0) * e = m * e by grind]
  have hmd : m * e ≠ 0 := by
    intro h0
    rcases Rat.mul_eq_zero.1 h0 with h1 | h1
    · exact hs h1
    · exact hd h1
  clear hm
  grind
end
end Go.Proofs.YtfonldogbfkpiaaGreat
