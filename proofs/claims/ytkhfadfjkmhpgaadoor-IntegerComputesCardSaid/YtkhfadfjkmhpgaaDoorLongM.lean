/-
  The arithmetic of the reference's long division.
-/
import Derived.Test.YtkhfadfjkmhpgaaDoorWord
namespace Go.Proofs.YtkhfadfjkmhpgaaDoor

theorem pow_words (j : Nat) : 2 ^ (32 * j) = Bs j := by rw [Nat.pow_mul]; rfl
theorem lead_eq {R m : Nat} (h : R < Bs (m + 2)) : (digs R).getD (m + 1) 0 * 4294967296 + (digs R).getD m 0 = R / Bs m := by
  rw [digs_digit, digs_digit, show Bs (m + 1) = Bs m * 4294967296 by rw [Bs_succ, Nat.mul_comm], ← Nat.div_div_eq_div_mul]
  have h1 : R / Bs m < 4294967296 * 4294967296 := by
    rw [Nat.div_lt_iff_lt_mul (Bs_pos m), Nat.mul_assoc, ← Bs_succ, ← Bs_succ]; exact h
  generalize R / Bs m = a at *
  omega
theorem guess_ge {R j D n top q : Nat} (hq : q = R / (Bs j * D)) (ht : top * Bs n ≤ D) (hD : 0 < top) (hR : R < Bs (j + 1) * D) : q ≤ min (R / Bs (n + j) / top) 4294967295 := by
  have h1 : q * (Bs j * D) ≤ R := by rw [hq]; exact Nat.div_mul_le_self _ _
  have h2 : q ≤ R / Bs (n + j) / top := by
    rw [Nat.le_div_iff_mul_le hD, Nat.le_div_iff_mul_le (Bs_pos _), Bs_add]
    have h3 : q * Bs j * (top * Bs n) ≤ q * Bs j * D := Nat.mul_le_mul_left _ ht
    grind
  have h3 : q < 4294967296 := by
    rw [hq]
    refine Nat.div_lt_of_lt_mul ?_
    rw [Bs_succ] at hR
    grind
  omega
theorem guess_more {R b g : Nat} (h : R < b * g) : R / b < g := Nat.div_lt_of_lt_mul h
theorem guess_done {R b g : Nat} (hb : 0 < b) (h : b * g ≤ R) (h2 : R / b ≤ g) : g = R / b := by
  have : g ≤ R / b := by rw [Nat.le_div_iff_mul_le hb]; grind
  omega
theorem rest_next {X D R j : Nat} {qs : List Nat} (hX : X = Bs (j + 1) * (D * val (qs.drop (j + 1))) + R) (hj : j < qs.length) :
    X = Bs j * (D * val ((qs.set j (R / (Bs j * D))).drop j)) + (R - Bs j * D * (R / (Bs j * D))) := by
  rw [set_drop hj, val_cons]
  have h1 : Bs j * D * (R / (Bs j * D)) ≤ R := Nat.mul_div_le _ _
  generalize R / (Bs j * D) = q at *
  obtain ⟨z, hz⟩ : ∃ z, R = Bs j * D * q + z := ⟨R - Bs j * D * q, by omega⟩
  rw [hz, Nat.add_sub_cancel_left, hX, Bs_succ, hz]
  grind
theorem rest_less {D R j : Nat} (hD : 0 < D) : R - Bs j * D * (R / (Bs j * D)) < Bs j * D := by
  have h0 : 0 < Bs j * D := Nat.mul_pos (Bs_pos j) hD
  have h1 := Nat.mod_add_div R (Bs j * D)
  have h2 := Nat.mod_lt R h0
  generalize Bs j * D * (R / (Bs j * D)) = z at *
  omega
end Go.Proofs.YtkhfadfjkmhpgaaDoor
