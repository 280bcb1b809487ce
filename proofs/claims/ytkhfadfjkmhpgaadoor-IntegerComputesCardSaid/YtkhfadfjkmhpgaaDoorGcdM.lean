/-
  Lehmer's steps: what the factors of euclid mean for two long numbers (Collins' condition).
-/
import Derived.Test.YtkhfadfjkmhpgaaDoorMath
namespace Go.Proofs.YtkhfadfjkmhpgaaDoor

/-- The state of euclid's loop: x and y are two elements of Euclid's sequence of x0 and y0, with their factors; s tells the sign. -/
def Eu (x0 y0 x y u1 u2 v1 v2 : Nat) (s : Bool) : Prop :=
  (s = false → x + v1 * y0 = u1 * x0 ∧ y + u2 * x0 = v2 * y0 ∧ u1 * v2 = u2 * v1 + 1) ∧
  (s = true → x + u1 * x0 = v1 * y0 ∧ y + v2 * y0 = u2 * x0 ∧ u1 * v2 + 1 = u2 * v1) ∧
  x * v2 + y * v1 = x0 ∧ y ≤ x ∧ 1 ≤ v2 ∧ v1 ≤ v2 ∧ u2 ≤ v2 ∧ u1 + u2 ≤ v1 + v2
/-- The elements R and R' of the sequence of two long numbers X and Y that the factors give. -/
def Lo (X Y R R' u0 v0 u1 v1 : Nat) (s : Bool) : Prop :=
  (s = true → R + v0 * Y = u0 * X ∧ R' + u1 * X = v1 * Y ∧ u0 * v1 = u1 * v0 + 1) ∧
  (s = false → R + u0 * X = v0 * Y ∧ R' + v1 * Y = u1 * X ∧ u0 * v1 + 1 = u1 * v0)

theorem eu_start {x0 y0 : Nat} (h : y0 ≤ x0) : Eu x0 y0 x0 y0 1 0 0 1 false := by
  refine ⟨fun _ => ⟨by omega, by omega, by omega⟩, (fun h => by simp at h), by omega, h, by omega, by omega, by omega, by omega⟩
theorem eu_step {x0 y0 x y u1 u2 v1 v2 : Nat} {s : Bool} (h : Eu x0 y0 x y u1 u2 v1 v2 s) (hy : 1 ≤ y) :
    Eu x0 y0 y (x % y) u2 (u1 + x / y * u2) v2 (v1 + x / y * v2) (!s) := by
  obtain ⟨h1, h2, h3, h4, h5, h6, h7, h8⟩ := h
  have hq : 1 ≤ x / y := (Nat.one_le_div_iff (by omega)).2 h4
  have hd := Nat.div_add_mod x y
  have hr := Nat.mod_lt x (show 0 < y by omega)
  generalize x / y = q at *
  generalize x % y = r at *
  have hv : v2 ≤ q * v2 := Nat.le_mul_of_pos_left v2 hq
  have hu : q * u2 ≤ q * v2 := Nat.mul_le_mul_left q h7
  refine ⟨?_, ?_, ?_, by omega, by omega, by omega, ?_, ?_⟩
  · intro hs
    have hs' : s = true := by cases s <;> simp_all
    obtain ⟨a, b, c⟩ := h2 hs'
    exact ⟨by omega, by grind, by grind⟩
  · intro hs
    have hs' : s = false := by cases s <;> simp_all
    obtain ⟨a, b, c⟩ := h1 hs'
    exact ⟨by omega, by grind, by grind⟩
  · grind
  · obtain ⟨d, rfl⟩ : ∃ d, v2 = u2 + d := ⟨v2 - u2, by omega⟩
    have : d ≤ q * d := Nat.le_mul_of_pos_left d hq
    rw [Nat.mul_add]
    omega
  · omega
theorem eu_bounds {x0 y0 x y u1 u2 v1 v2 : Nat} {s : Bool} (h : Eu x0 y0 x y u1 u2 v1 v2 s) (hy : v2 ≤ y) :
    v1 + v2 ≤ x0 ∧ v2 * v2 ≤ x0 ∧ v1 + x / y * v2 ≤ x0 ∧ u1 + x / y * u2 ≤ x0 := by
  have hst := eu_step h (show 1 ≤ y by obtain ⟨_, _, _, _, h5, _⟩ := h; omega)
  obtain ⟨_, _, h3', _, _, _, h7', _⟩ := hst
  obtain ⟨h1, h2, h3, h4, h5, h6, h7, h8⟩ := h
  have a1 : v2 ≤ x * v2 := Nat.le_mul_of_pos_left v2 (by omega)
  have a2 : v1 ≤ y * v1 := Nat.le_mul_of_pos_left v1 (by omega)
  have a3 : v2 * v2 ≤ x * v2 := Nat.mul_le_mul_right v2 (by omega)
  have a4 : v1 + x / y * v2 ≤ y * (v1 + x / y * v2) := Nat.le_mul_of_pos_left _ (by omega)
  exact ⟨by omega, by omega, by omega, by omega⟩
theorem collins {x0 y0 x y u1 u2 v1 v2 X Y B e f : Nat} {s : Bool} (h : Eu x0 y0 x y u1 u2 v1 v2 s) (hX : X = x0 * B + e) (hY : Y = y0 * B + f) (he : e < B) (hf : f < B)
    (hy : v2 ≤ y) (hxy : y + v1 + v2 ≤ x) : ∃ R R', Lo X Y R R' u1 v1 u2 v2 (!s) ∧ R' < R := by
  obtain ⟨h1, h2, h3, h4, h5, h6, h7, h8⟩ := h
  have m0 : v2 * B ≤ y * B := Nat.mul_le_mul_right B hy
  have m1 : (y + v1 + v2) * B ≤ x * B := Nat.mul_le_mul_right B hxy
  rw [Nat.add_mul, Nat.add_mul] at m1
  have m2 : u2 * B ≤ v2 * B := Nat.mul_le_mul_right B h7
  have m3 : u2 * e ≤ u2 * B := Nat.mul_le_mul_left u2 (by omega)
  have m4 : v1 * f ≤ v1 * B := Nat.mul_le_mul_left v1 (by omega)
  have m5 : v2 * (f + 1) ≤ v2 * B := Nat.mul_le_mul_left v2 (by omega)
  have m6 : (u1 + u2) * e ≤ (v1 + v2) * e := Nat.mul_le_mul_right e h8
  have m7 : v1 * e ≤ v1 * B := Nat.mul_le_mul_left v1 (by omega)
  have m8 : v2 * (e + 1) ≤ v2 * B := Nat.mul_le_mul_left v2 (by omega)
  rw [Nat.mul_add, Nat.mul_one] at m5 m8
  rw [Nat.add_mul, Nat.add_mul] at m6
  have a1 : u2 * X = u2 * x0 * B + u2 * e := by rw [hX, Nat.mul_add, Nat.mul_assoc]
  have a2 : v2 * Y = v2 * y0 * B + v2 * f := by rw [hY, Nat.mul_add, Nat.mul_assoc]
  have a3 : u1 * X = u1 * x0 * B + u1 * e := by rw [hX, Nat.mul_add, Nat.mul_assoc]
  have a4 : v1 * Y = v1 * y0 * B + v1 * f := by rw [hY, Nat.mul_add, Nat.mul_assoc]
  cases s
  · obtain ⟨c1, c2, c3⟩ := h1 rfl
    rw [← c2, Nat.add_mul] at a2
    rw [← c1, Nat.add_mul] at a3
    clear h1 h2 h3 c1 c2 hX hY h4
    refine ⟨u1 * X - v1 * Y, v2 * Y - u2 * X, ⟨fun _ => ⟨?_, ?_, c3⟩, fun h => by simp at h⟩, ?_⟩ <;>
    · clear c3
      generalize u1 * X = z1 at *
      generalize v1 * Y = z2 at *
      generalize v2 * Y = z3 at *
      generalize u2 * X = z4 at *
      generalize u2 * x0 * B = z5 at *
      generalize v1 * y0 * B = z6 at *
      generalize x * B = z7 at *
      generalize y * B = z8 at *
      generalize v1 * B = z9 at *
      generalize v2 * B = z10 at *
      generalize u2 * B = z11 at *
      generalize u2 * e = z12 at *
      generalize u1 * e = z13 at *
      generalize v1 * f = z14 at *
      generalize v2 * f = z15 at *
      omega
  · obtain ⟨c1, c2, c3⟩ := h2 rfl
    rw [← c2, Nat.add_mul] at a1
    rw [← c1, Nat.add_mul] at a4
    clear h1 h2 h3 c1 c2 hX hY h4
    refine ⟨v1 * Y - u1 * X, u2 * X - v2 * Y, ⟨fun h => by simp at h, fun _ => ⟨?_, ?_, c3⟩⟩, ?_⟩ <;>
    · clear c3
      generalize u1 * X = z1 at *
      generalize v1 * Y = z2 at *
      generalize v2 * Y = z3 at *
      generalize u2 * X = z4 at *
      generalize u1 * x0 * B = z5 at *
      generalize v2 * y0 * B = z6 at *
      generalize x * B = z7 at *
      generalize y * B = z8 at *
      generalize v1 * B = z9 at *
      generalize v2 * B = z10 at *
      generalize u2 * B = z11 at *
      generalize u2 * e = z12 at *
      generalize u1 * e = z13 at *
      generalize v1 * f = z14 at *
      generalize v2 * f = z15 at *
      generalize v1 * e = z16 at *
      generalize v2 * e = z17 at *
      omega
/-- What euclid knows of its factors: too few steps, or two later elements of the sequence of X and Y. -/
def Fa (X Y u0 v0 u1 v1 : Nat) (s : Bool) : Prop :=
  (v0 = 0 ∧ u1 = 1 ∧ v1 = 0 ∧ s = false) ∨ (v0 = 0 ∧ u1 = 0 ∧ v1 = 1 ∧ s = true) ∨
  (0 < v0 ∧ v0 ≤ v1 ∧ v0 < 4294967296 ∧ u0 < 4294967296 ∧ u1 < 4294967296 ∧ v1 < 4294967296 ∧ ∃ R R', Lo X Y R R' u0 v0 u1 v1 s ∧ R' < R ∧ R ≤ Y)
theorem lt32_of_sq {v x : Nat} (h : v * v ≤ x) (hx : x < 18446744073709551616) : v < 4294967296 := by
  rcases Nat.lt_or_ge v 4294967296 with h1 | h1
  · exact h1
  · have := Nat.mul_le_mul h1 h1
    omega
theorem fa_step {x0 y0 x y u0 u1 u2 v0 v1 v2 X Y B e f : Nat} {s : Bool} (h : Eu x0 y0 x y u1 u2 v1 v2 s) (hF : Fa X Y u0 v0 u1 v1 s) (hx0 : x0 < 18446744073709551616) (hX : X = x0 * B + e) (hY : Y = y0 * B + f) (he : e < B) (hf : f < B)
    (hy : v2 ≤ y) (hxy : y + v1 + v2 ≤ x) : Fa X Y u1 v1 u2 v2 (!s) := by
  obtain ⟨R, R', hL, hR⟩ := collins h hX hY he hf hy hxy
  obtain ⟨_, b2, _, _⟩ := eu_bounds h hy
  have b3 := lt32_of_sq b2 hx0
  obtain ⟨h1, h2, h3, h4, h5, h6, h7, h8⟩ := h
  rcases hF with ⟨a1, a2, a3, a4⟩ | ⟨a1, a2, a3, a4⟩ | ⟨a0, a00, a1, a2, a3, a4, P, P', hP, hP1, hP2⟩
  · subst a1 a2 a3 a4
    obtain ⟨_, _, d⟩ := h1 rfl
    exact .inr (.inl ⟨rfl, by omega, by omega, rfl⟩)
  · subst a1 a2 a3 a4
    obtain ⟨d, _, _⟩ := hL.2 rfl
    exact .inr (.inr ⟨by omega, h6, by omega, by omega, by omega, b3, R, R', hL, hR, by omega⟩)
  · refine .inr (.inr ⟨by omega, h6, a4, a3, by omega, b3, R, R', hL, hR, ?_⟩)
    cases s
    · obtain ⟨d, _, _⟩ := hL.1 rfl
      obtain ⟨_, d2, _⟩ := hP.2 rfl
      omega
    · obtain ⟨d, _, _⟩ := hL.2 rfl
      obtain ⟨_, d2, _⟩ := hP.1 rfl
      omega
theorem lo_gcd {X Y R R' u0 v0 u1 v1 : Nat} {s : Bool} (h : Lo X Y R R' u0 v0 u1 v1 s) : Nat.gcd R R' = Nat.gcd X Y := by
  have hx : v1 * R + v0 * R' = X ∧ u1 * R + u0 * R' = Y := by
    cases s
    · obtain ⟨a, b, c⟩ := h.2 rfl
      constructor <;> grind
    · obtain ⟨a, b, c⟩ := h.1 rfl
      constructor <;> grind
  have hr : Nat.gcd X Y ∣ R ∧ Nat.gcd X Y ∣ R' := by
    have d1 := Nat.gcd_dvd_left X Y
    have d2 := Nat.gcd_dvd_right X Y
    cases s
    · obtain ⟨a, b, c⟩ := h.2 rfl
      exact ⟨(Nat.dvd_add_iff_left (Nat.dvd_mul_left_of_dvd d1 u0)).2 (by rw [a]; exact Nat.dvd_mul_left_of_dvd d2 v0), (Nat.dvd_add_iff_left (Nat.dvd_mul_left_of_dvd d2 v1)).2 (by rw [b]; exact Nat.dvd_mul_left_of_dvd d1 u1)⟩
    · obtain ⟨a, b, c⟩ := h.1 rfl
      exact ⟨(Nat.dvd_add_iff_left (Nat.dvd_mul_left_of_dvd d2 v0)).2 (by rw [a]; exact Nat.dvd_mul_left_of_dvd d1 u0), (Nat.dvd_add_iff_left (Nat.dvd_mul_left_of_dvd d1 u1)).2 (by rw [b]; exact Nat.dvd_mul_left_of_dvd d2 v1)⟩
  refine Nat.dvd_antisymm (Nat.dvd_gcd ?_ ?_) (Nat.dvd_gcd hr.1 hr.2)
  · rw [← hx.1]; exact Nat.dvd_add (Nat.dvd_mul_left_of_dvd (Nat.gcd_dvd_left R R') v1) (Nat.dvd_mul_left_of_dvd (Nat.gcd_dvd_right R R') v0)
  · rw [← hx.2]; exact Nat.dvd_add (Nat.dvd_mul_left_of_dvd (Nat.gcd_dvd_left R R') u1) (Nat.dvd_mul_left_of_dvd (Nat.gcd_dvd_right R R') u0)
end Go.Proofs.YtkhfadfjkmhpgaaDoor
