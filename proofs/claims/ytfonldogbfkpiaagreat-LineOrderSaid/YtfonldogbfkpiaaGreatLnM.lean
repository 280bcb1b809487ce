/-
  Coefficients of lines without a common divisor.
-/
import Derived.Test.YtfonldogbfkpiaaGreatPtM
import Derived.Test.YtfonldogbfkpiaaGreatPtB
import Derived.Test.YtfonldogbfkpiaaGreatK7
namespace Go.Proofs.YtfonldogbfkpiaaGreat
open Go.RowKit

section
variable {A0 A1 A2 A3 A4 A5 A6 A7 A8 A9 A10 A11 A12 A13 A14 A15 A16 A17 A18 A19 A20 A21 A22 A23 D0 D1 D2 D3 D4 D5 D6 D7 D8 D9 D10 D11 D12 D13 D14 D15 D16 D17 D18 D19 D20 D21 D22 D23 : Option Addr} {n0 n1 n2 n3 n4 n5 n6 n7 n8 n9 n10 n11 n12 n13 n14 n15 n16 n17 n18 n19 n20 n21 n22 n23 c0 c1 c2 c3 c4 c5 c6 c7 c8 c9 c10 c11 c12 c13 c14 c15 c16 c17 c18 c19 c20 c21 c22 c23 m0 m1 m2 m3 m4 m5 m6 m7 m8 m9 m10 m11 m12 m13 m14 m15 m16 m17 m18 m19 m20 m21 m22 m23 e0 e1 e2 e3 e4 e5 e6 e7 e8 e9 e10 e11 e12 e13 e14 e15 e16 e17 e18 e19 e20 e21 e22 e23 : Nat} {s0 s1 s2 s3 s4 s5 s6 s7 s8 s9 s10 s11 s12 s13 s14 s15 s16 s17 s18 s19 s20 s21 s22 s23 : Bool} {q0 q1 q2 q3 q4 q5 q6 q7 : Rat} {z0 z1 z2 z3 z4 z5 z6 z7 z8 z9 z10 z11 : Int} {L L0 L1 x y : Nat} {k : Int} {b : Bool} {w : World}
theorem Box.pair0 {w : World} {g : Nat} {t : TypeId} {a0 a1 a2 a3 a4 a5 : Value} (h : Box w g #[a0, a1, a2, a3, a4, a5] t) (u v : Value) : Box ((w.setCell ⟨g, 0, none⟩ u).setCell ⟨g, 1, none⟩ v) g #[u, v, a2, a3, a4, a5] t := by
  have h1 : Box (w.setCell ⟨g, 0, none⟩ u) g #[u, a1, a2, a3, a4, a5] t := by unfold Box; rw [heap_setCell_same w g 0 _ _ _ h]; simp
  unfold Box; rw [heap_setCell_same _ g 1 _ _ _ h1]; simp
theorem Box.pair2 {w : World} {g : Nat} {t : TypeId} {a0 a1 a2 a3 a4 a5 : Value} (h : Box w g #[a0, a1, a2, a3, a4, a5] t) (u v : Value) : Box ((w.setCell ⟨g, 2, none⟩ u).setCell ⟨g, 3, none⟩ v) g #[a0, a1, u, v, a4, a5] t := by
  have h1 : Box (w.setCell ⟨g, 2, none⟩ u) g #[a0, a1, u, a3, a4, a5] t := by unfold Box; rw [heap_setCell_same w g 2 _ _ _ h]; simp
  unfold Box; rw [heap_setCell_same _ g 3 _ _ _ h1]; simp
theorem Box.pair4 {w : World} {g : Nat} {t : TypeId} {a0 a1 a2 a3 a4 a5 : Value} (h : Box w g #[a0, a1, a2, a3, a4, a5] t) (u v : Value) : Box ((w.setCell ⟨g, 4, none⟩ u).setCell ⟨g, 5, none⟩ v) g #[a0, a1, a2, a3, u, v] t := by
  have h1 : Box (w.setCell ⟨g, 4, none⟩ u) g #[a0, a1, a2, a3, u, a5] t := by unfold Box; rw [heap_setCell_same w g 4 _ _ _ h]; simp
  unfold Box; rw [heap_setCell_same _ g 5 _ _ _ h1]; simp
/-- The greatest common divisor of three integers. -/
def gcd3 (a b c : Int) : Nat := Nat.gcd (Nat.gcd a.natAbs b.natAbs) c.natAbs
/-- The coefficients of a valid line. -/
def VL (a b c : Int) : Prop := ¬ (a = 0 ∧ b = 0) ∧ gcd3 a b c = 1
theorem gcd3_pos {a b : Int} (c : Int) (h : ¬ (a = 0 ∧ b = 0)) : 0 < gcd3 a b c := by
  apply Nat.pos_of_ne_zero
  intro h0
  have h1 := Nat.eq_zero_of_gcd_eq_zero_left h0
  have h2 := Nat.eq_zero_of_gcd_eq_zero_left h1
  have h3 := Nat.eq_zero_of_gcd_eq_zero_right h1
  exact h ⟨by omega, by omega⟩
theorem gcd3_mul (k a b c : Int) : gcd3 (a * k) (b * k) (c * k) = gcd3 a b c * k.natAbs := by
  unfold gcd3
  rw [Int.natAbs_mul, Int.natAbs_mul, Int.natAbs_mul, Nat.gcd_mul_right, Nat.gcd_mul_right]
theorem gcd3_dvd1 (a b c : Int) : ((gcd3 a b c : Nat) : Int) ∣ a := Int.ofNat_dvd_left.2 (Nat.dvd_trans (Nat.gcd_dvd_left _ _) (Nat.gcd_dvd_left _ _))
theorem gcd3_dvd2 (a b c : Int) : ((gcd3 a b c : Nat) : Int) ∣ b := Int.ofNat_dvd_left.2 (Nat.dvd_trans (Nat.gcd_dvd_left _ _) (Nat.gcd_dvd_right _ _))
theorem gcd3_dvd3 (a b c : Int) : ((gcd3 a b c : Nat) : Int) ∣ c := Int.ofNat_dvd_left.2 (Nat.gcd_dvd_right _ _)
/-- Coefficients divided by their greatest common divisor. -/
def pr (x a b c : Int) : Int := x / ((gcd3 a b c : Nat) : Int)
theorem pr_mul {k : Int} (hk : 0 < k) (x a b c : Int) : pr (x * k) (a * k) (b * k) (c * k) = pr x a b c := by
  unfold pr
  rw [gcd3_mul, Int.natCast_mul, show ((k.natAbs : Nat) : Int) = k by omega]
  exact Int.mul_ediv_mul_of_pos_left _ _ hk
theorem pr_same {m n a b c a' b' c' : Int} (hm : 0 < m) (hn : 0 < n) (ea : a * m = a' * n) (eb : b * m = b' * n) (ec : c * m = c' * n) : pr a a b c = pr a' a' b' c' ∧ pr b a b c = pr b' a' b' c' ∧ pr c a b c = pr c' a' b' c' := by
  refine ⟨?_, ?_, ?_⟩
  · rw [← pr_mul hm a, ← pr_mul hn a', ea, eb, ec]
  · rw [← pr_mul hm b, ← pr_mul hn b', ea, eb, ec]
  · rw [← pr_mul hm c, ← pr_mul hn c', ea, eb, ec]
theorem pr_rat {K K' a b c a' b' c' : Int} {α β γ : Rat} (hK : 0 < K) (hK' : 0 < K') (ea : (a : Rat) = α * (K : Rat)) (eb : (b : Rat) = β * (K : Rat)) (ec : (c : Rat) = γ * (K : Rat)) (ea' : (a' : Rat) = α * (K' : Rat)) (eb' : (b' : Rat) = β * (K' : Rat)) (ec' : (c' : Rat) = γ * (K' : Rat)) : pr a a b c = pr a' a' b' c' ∧ pr b a b c = pr b' a' b' c' ∧ pr c a b c = pr c' a' b' c' := by
  have key : ∀ {x x' : Int} {ξ : Rat}, (x : Rat) = ξ * (K : Rat) → (x' : Rat) = ξ * (K' : Rat) → x * K' = x' * K := fun {x x' ξ} e e' => by
    have : ((x * K' : Int) : Rat) = ((x' * K : Int) : Rat) := by rw [Rat.intCast_mul, Rat.intCast_mul, e, e']; grind
    exact Rat.intCast_inj.1 this
  exact pr_same hK' hK (key ea ea') (key eb eb') (key ec ec')
theorem pr_one {a b c : Int} (h : gcd3 a b c = 1) (x : Int) : pr x a b c = x := by unfold pr; rw [h]; exact Int.ediv_one x
theorem pr_back {a b c : Int} : pr a a b c * ((gcd3 a b c : Nat) : Int) = a ∧ pr b a b c * ((gcd3 a b c : Nat) : Int) = b ∧ pr c a b c * ((gcd3 a b c : Nat) : Int) = c :=
  ⟨Int.ediv_mul_cancel (gcd3_dvd1 a b c), Int.ediv_mul_cancel (gcd3_dvd2 a b c), Int.ediv_mul_cancel (gcd3_dvd3 a b c)⟩
theorem pr_valid {a b c : Int} (h : ¬ (a = 0 ∧ b = 0)) : VL (pr a a b c) (pr b a b c) (pr c a b c) := by
  obtain ⟨e1, e2, e3⟩ := @pr_back a b c
  have hp := gcd3_pos c h
  generalize hA : pr a a b c = A at *
  generalize hB : pr b a b c = B at *
  generalize hC : pr c a b c = C at *
  have hg : gcd3 A B C * gcd3 a b c = gcd3 a b c := by
    have := gcd3_mul ((gcd3 a b c : Nat) : Int) A B C
    rw [e1, e2, e3, Int.natAbs_natCast] at this
    exact this.symm
  refine ⟨?_, ?_⟩
  · rintro ⟨rfl, rfl⟩
    exact h ⟨by omega, by omega⟩
  · exact Nat.eq_of_mul_eq_mul_right hp (by omega)
theorem qr_quo {z y zq zr : Int} (h : QR z y zq zr) (hy : 0 < y) : zq = z / y := by
  obtain ⟨h1, h2, h3⟩ := h
  have h4 : zr < y := by omega
  rw [h1, Int.add_comm, Int.mul_comm, Int.add_mul_ediv_left _ _ (by omega), Int.ediv_eq_zero_of_lt h2 h4, Int.zero_add]
end
end Go.Proofs.YtfonldogbfkpiaaGreat
