/-
  Plain numbers: the estimate of a digit of a quotient.
-/
import Derived.Test.YtkhfadfjkmhpgaaDoorMath
namespace Go.Proofs.YtkhfadfjkmhpgaaDoor

theorem est_le {P D T p0 P0 d1 d0 D0 b q : Nat} (hP : P = (T * 4294967296 + p0) * b + P0) (hD : D = (d1 * 4294967296 + d0) * b + D0) (hP0 : P0 < b) (hp0 : p0 < 4294967296) (h : q * D ≤ P) : q * d1 ≤ T := by
  rcases Nat.lt_or_ge T (q * d1) with hlt | hge
  · exfalso
    have h1 : (T + 1) * (4294967296 * b) ≤ q * d1 * (4294967296 * b) := Nat.mul_le_mul_right _ hlt
    have h2 : q * d1 * (4294967296 * b) ≤ q * D := by
      rw [hD, Nat.mul_assoc]
      refine Nat.mul_le_mul_left q ?_
      have : (d1 * 4294967296 + d0) * b = d1 * (4294967296 * b) + d0 * b := by grind
      omega
    have h3 : P < (T + 1) * (4294967296 * b) := by
      have h4 : (T * 4294967296 + p0) * b + b ≤ (T + 1) * (4294967296 * b) := by
        have : (T + 1) * (4294967296 * b) = (T * 4294967296 + 4294967296) * b := by grind
        rw [this, show (T * 4294967296 + p0) * b + b = (T * 4294967296 + p0 + 1) * b by grind]
        exact Nat.mul_le_mul_right b (by omega)
      omega
    omega
  · exact hge
theorem est_down {P D T p0 P0 d1 d0 D0 b q r : Nat} (hP : P = (T * 4294967296 + p0) * b + P0) (hD : D = (d1 * 4294967296 + d0) * b + D0) (hP0 : P0 < b) (hq : q * d1 + r = T) (h : r * 4294967296 + p0 < q * d0) : P < q * D := by
  have h1 : T * 4294967296 + p0 + 1 ≤ q * (d1 * 4294967296 + d0) := by
    have : q * (d1 * 4294967296 + d0) = q * d1 * 4294967296 + q * d0 := by grind
    rw [this, ← hq]; omega
  have h2 : (T * 4294967296 + p0 + 1) * b ≤ q * (d1 * 4294967296 + d0) * b := Nat.mul_le_mul_right b h1
  have h3 : q * (d1 * 4294967296 + d0) * b ≤ q * D := by
    rw [hD, Nat.mul_assoc]; exact Nat.mul_le_mul_left q (Nat.le_add_right _ _)
  have h4 : (T * 4294967296 + p0 + 1) * b = (T * 4294967296 + p0) * b + b := by grind
  omega
theorem est_up {P D T p0 P0 d1 d0 D0 b q r : Nat} (hP : P = (T * 4294967296 + p0) * b + P0) (hD : D = (d1 * 4294967296 + d0) * b + D0) (hD0 : D0 < b) (hd1 : 0 < d1) (hqB : q < 4294967296) (hq : q * d1 + r = T) (h : q * d0 ≤ r * 4294967296 + p0) : q ≤ P / D + 1 := by
  have h1 : q * (d1 * 4294967296 + d0) ≤ T * 4294967296 + p0 := by
    have : q * (d1 * 4294967296 + d0) = q * d1 * 4294967296 + q * d0 := by grind
    rw [this, ← hq]; omega
  have h2 : q * (d1 * 4294967296 + d0) * b ≤ (T * 4294967296 + p0) * b := Nat.mul_le_mul_right b h1
  have hq1 : q ≤ 4294967295 := by omega
  have hD1 : D0 ≤ b := by omega
  have h3 : q * D0 ≤ 4294967295 * b := Nat.mul_le_mul hq1 hD1
  have h4 : q * D = q * (d1 * 4294967296 + d0) * b + q * D0 := by rw [hD]; grind
  have h5a : 4294967296 ≤ d1 * 4294967296 + d0 := by omega
  have h5 : 4294967296 * b ≤ (d1 * 4294967296 + d0) * b := Nat.mul_le_mul_right b h5a
  have hDpos : 0 < D := by omega
  have h6 : q * D < P + D := by omega
  have h7 := Nat.div_add_mod P D
  have h8 := Nat.mod_lt P hDpos
  have h9 : q * D < (P / D + 2) * D := by
    have : (P / D + 2) * D = D * (P / D) + D + D := by grind
    omega
  have := Nat.lt_of_mul_lt_mul_right h9
  omega
end Go.Proofs.YtkhfadfjkmhpgaaDoor
