/-
  The mathematics of Sqrt: Newton's method with the precision doubled at each step.
-/
import Derived.Test.YtpbfecbhdfnacaaDoorShorten
namespace Go.Proofs.YtpbfecbhdfnacaaDoor
open Go.RowKit

theorem sq_lt {a b : Nat} (h : a * a < b * b) : a < b := by
  rcases Nat.lt_or_ge a b with h1 | h1
  · exact h1
  · exact absurd (Nat.mul_le_mul h1 h1) (by omega)
theorem sq_le {a b : Nat} (h : a * a ≤ b * b) : a ≤ b := by
  rcases Nat.lt_or_ge b a with h1 | h1
  · exact absurd (Nat.mul_lt_mul'' h1 h1) (by omega)
  · exact h1
/-- One step of Newton's method: the root of n is known up to 1 before and after it. -/
theorem newton_lo {H c q n : Nat} (hHa : H ≤ c + 1) (h1 : 4 * (H * (c + 1)) * q ≤ n) (h3 : 2 * (H * c) * (2 * (H * c)) < n) (h4 : n < 2 * (H * (c + 2)) * (2 * (H * (c + 2)))) (_hH : 0 < H)
    {r : Nat} (hr : H * (c + 1) + q = r + 1) : r * r < n := by
  rcases Nat.lt_or_ge (r * r) n with h | h
  · exact h
  exfalso
  have hlo : 2 * (H * c) < r := sq_lt (by omega)
  have e1 : H * (c + 1) = H * c + H := by rw [Nat.mul_add, Nat.mul_one]
  have e2 : H * (c + 2) = H * c + 2 * H := by rw [Nat.mul_add]; omega
  rw [e1] at h1 hr
  rw [e2] at h4
  have hHH : H * H ≤ H * (c + 1) := Nat.mul_le_mul_left H hHa
  rw [e1] at hHH
  generalize H * c = P at *
  rcases Nat.lt_or_ge r (2 * P + 4 * H) with hu | hu
  · -- |r - 2(P+H)| < 2H, so its square is less than 4 (P + H)
    have hq : q = r + 1 - (P + H) := by omega
    obtain ⟨d, rfl⟩ : ∃ d, r = 2 * P + d := ⟨r - 2 * P, by omega⟩
    have hq2 : q = P + d + 1 - H := by omega
    have hd : d < 4 * H := by omega
    have hd0 : 0 < d := by omega
    -- 4 (P+H) q ≤ r r fails
    have hle : 4 * (P + H) * q ≤ (2 * P + d) * (2 * P + d) := by omega
    have hqi : (q : Int) = P + d + 1 - H := by omega
    have hle' : 4 * ((P : Int) + H) * q ≤ (2 * P + d) * (2 * P + d) := by exact_mod_cast hle
    rw [hqi] at hle'
    have hHH' : (H : Int) * H ≤ P + H := by exact_mod_cast hHH
    -- (2P+d)^2 - 4 (P+H)(P+d+1-H) = (d - 2H)^2 - 4 (P+H)
    have key : ((2 : Int) * P + d) * (2 * P + d) - 4 * (P + H) * (P + d + 1 - H) = (d - 2 * H) * (d - 2 * H) - 4 * (P + H) := by grind
    have hsq : ((d : Int) - 2 * H) * (d - 2 * H) < 4 * (H * H) := by
      have : ((d : Int) - 2 * H) * (d - 2 * H) = 4 * (H * H) - d * (4 * H - d) := by grind
      have h5 : 0 < (d : Int) * (4 * H - d) := Int.mul_pos (by omega) (by omega)
      omega
    omega
  · -- r is too great
    have hq : P + 3 * H + 1 ≤ q := by omega
    have h6 : 4 * (P + H) * (P + 3 * H + 1) ≤ 4 * (P + H) * q := Nat.mul_le_mul_left _ hq
    have h7 : 4 * (P + H) * (P + 3 * H + 1) < 2 * (P + 2 * H) * (2 * (P + 2 * H)) := by omega
    have e3 : 4 * (P + H) * (P + 3 * H + 1) = 4 * (P * P) + 16 * (P * H) + 12 * (H * H) + 4 * (P + H) := by grind
    have e4 : 2 * (P + 2 * H) * (2 * (P + 2 * H)) = 4 * (P * P) + 16 * (P * H) + 16 * (H * H) := by grind
    omega
theorem newton_hi {x q n : Nat} (h2 : n < 4 * x * (q + 1)) : n < (x + q + 1) * (x + q + 1) := by
  have h : ((x : Int) - (q + 1)) * (x - (q + 1)) ≥ 0 := by
    rcases Int.le_total 0 ((x : Int) - (q + 1)) with h | h
    · exact Int.mul_nonneg h h
    · have := Int.mul_nonneg (Int.neg_nonneg_of_nonpos h) (Int.neg_nonneg_of_nonpos h)
      rwa [Int.neg_mul_neg] at this
  have e : ((x : Int) + q + 1) * (x + q + 1) = ((x : Int) - (q + 1)) * (x - (q + 1)) + 4 * x * (q + 1) := by grind
  have h2' : (n : Int) < 4 * x * (q + 1) := by exact_mod_cast h2
  have : (n : Int) < ((x : Int) + q + 1) * (x + q + 1) := by omega
  exact_mod_cast this
/-- What the loop knows: a is the root of n up to 1. -/
def Near (a n : Nat) : Prop := 0 < a ∧ (a - 1) * (a - 1) < n ∧ n < (a + 1) * (a + 1)
theorem near_step {a k N : Nat} (h : Near a (N / 4 ^ (k + 1))) (hk : 2 ^ k ≤ a) :
    Near (a * 2 ^ k + N / 2 ^ (k + 2) / a) N := by
  obtain ⟨h0, h1, h2⟩ := h
  obtain ⟨c, rfl⟩ : ∃ c, a = c + 1 := ⟨a - 1, by omega⟩
  rw [Nat.add_sub_cancel] at h1
  have hH : 0 < 2 ^ k := Nat.two_pow_pos k
  have e4 : (4 : Nat) ^ (k + 1) = 2 * 2 ^ k * (2 * 2 ^ k) := by
    rw [show (4 : Nat) = 2 * 2 from rfl, Nat.mul_pow, Nat.pow_succ]; grind
  have e2 : (2 : Nat) ^ (k + 2) = 4 * 2 ^ k := by rw [Nat.pow_add]; omega
  rw [e4] at h1 h2
  rw [e2]
  generalize 2 ^ k = H at *
  have hD : 0 < 2 * H * (2 * H) := by rw [Nat.mul_pos_iff_of_pos_left] <;> omega
  have g3 : (c * c + 1) * (2 * H * (2 * H)) ≤ N := (Nat.le_div_iff_mul_le hD).1 h1
  have g4 : N < (c + 1 + 1) * (c + 1 + 1) * (2 * H * (2 * H)) := (Nat.div_lt_iff_lt_mul hD).1 h2
  rw [Nat.div_div_eq_div_mul]
  have hE : 0 < 4 * H * (c + 1) := Nat.mul_pos (by omega) (by omega)
  have hmod := Nat.div_add_mod N (4 * H * (c + 1))
  have hlt := Nat.mod_lt N hE
  generalize N / (4 * H * (c + 1)) = q at *
  have hle : 4 * (H * (c + 1)) * q ≤ N := by rw [← Nat.mul_assoc]; omega
  have hgt : N < 4 * (H * (c + 1)) * (q + 1) := by rw [← Nat.mul_assoc, Nat.mul_add]; omega
  have g3' : 2 * (H * c) * (2 * (H * c)) < N := by
    have e : (c * c + 1) * (2 * H * (2 * H)) = 2 * (H * c) * (2 * (H * c)) + 2 * H * (2 * H) := by grind
    omega
  have g4' : N < 2 * (H * (c + 2)) * (2 * (H * (c + 2))) := by
    have e : (c + 1 + 1) * (c + 1 + 1) * (2 * H * (2 * H)) = 2 * (H * (c + 2)) * (2 * (H * (c + 2))) := by grind
    omega
  have hpos : 0 < H * (c + 1) := Nat.mul_pos hH (by omega)
  rw [Nat.mul_comm (c + 1) H]
  refine ⟨by omega, ?_, newton_hi hgt⟩
  exact newton_lo hk hle g3' g4' hH (r := H * (c + 1) + q - 1) (by omega)
theorem near_code {n a c kn nx : Nat} (h : Near a (n / 2 ^ (2 * c - 2 * kn))) (h1 : kn < nx) (h2 : nx ≤ 2 * kn + 1) (h3 : nx ≤ c) (hn : 2 ^ (2 * c) ≤ n) :
    Near (a * 2 ^ (nx - kn - 1) + n / 2 ^ (2 * c - kn - nx + 1) / a) (n / 2 ^ (2 * c - 2 * nx)) := by
  obtain ⟨k, rfl⟩ : ∃ k, nx = kn + k + 1 := ⟨nx - kn - 1, by omega⟩
  have e1 : 2 * c - 2 * kn = 2 * c - 2 * (kn + k + 1) + 2 * (k + 1) := by omega
  have e2 : 2 * c - kn - (kn + k + 1) + 1 = 2 * c - 2 * (kn + k + 1) + (k + 2) := by omega
  have e3 : kn + k + 1 - kn - 1 = k := by omega
  have hbig : 2 ^ (2 * kn) ≤ n / 2 ^ (2 * c - 2 * kn) := by
    rw [Nat.le_div_iff_mul_le (Nat.two_pow_pos _), ← Nat.pow_add]
    rw [show 2 * kn + (2 * c - 2 * kn) = 2 * c by omega]; exact hn
  rw [e2, e3, Nat.pow_add 2 _ (k + 2), ← Nat.div_div_eq_div_mul]
  have ha : 2 ^ k ≤ a := by
    obtain ⟨_, _, hh⟩ := h
    have h5 : 2 ^ kn * 2 ^ kn < (a + 1) * (a + 1) := by rw [← Nat.pow_add, show kn + kn = 2 * kn by omega]; omega
    have h6 := sq_lt h5
    have h7 : 2 ^ k ≤ 2 ^ kn := Nat.pow_le_pow_right Nat.two_pos (by omega)
    omega
  refine near_step ?_ ha
  rw [Nat.div_div_eq_div_mul, show (4 : Nat) = 2 ^ 2 from rfl, ← Nat.pow_mul, ← Nat.pow_add, ← e1]
  exact h
theorem near_start {n c : Nat} (h1 : 2 ^ (2 * c) ≤ n) (h2 : n < 2 ^ (2 * c + 2)) : Near 1 (n / 2 ^ (2 * c)) := by
  refine ⟨by omega, ?_, ?_⟩
  · have := (Nat.le_div_iff_mul_le (x := 1) (y := n) (Nat.two_pow_pos (2 * c))).2 (by omega)
    omega
  · rw [Nat.div_lt_iff_lt_mul (Nat.two_pow_pos _), Nat.mul_comm]; rw [Nat.pow_add] at h2; exact h2
theorem near_end {n a : Nat} (h : Near a n) : (n < a * a → (a - 1) * (a - 1) ≤ n ∧ n < (a - 1 + 1) * (a - 1 + 1)) ∧ (a * a ≤ n → a * a ≤ n ∧ n < (a + 1) * (a + 1)) := by
  obtain ⟨h0, h1, h2⟩ := h
  exact ⟨fun h => ⟨by omega, by rw [show a - 1 + 1 = a by omega]; exact h⟩, fun h => ⟨h, h2⟩⟩
theorem near_lt {n a B : Nat} (h : Near a n) (hn : n < B * B) : a ≤ B := by
  have h3 := sq_lt (Nat.lt_trans h.2.1 hn)
  have := h.1
  omega
/-- A root is unique. -/
theorem root_unique {n r s : Nat} (h : r * r ≤ n ∧ n < (r + 1) * (r + 1)) (k : s * s ≤ n ∧ n < (s + 1) * (s + 1)) : r = s := by
  have h1 : r < s + 1 := sq_lt (by omega)
  have h2 : s < r + 1 := sq_lt (by omega)
  omega
theorem bitLen_ge : ∀ (k x : Nat), k ≤ 64 → x < 2 ^ k → 0 < x → 0 < Lib.bitLen x ∧ 2 ^ (Lib.bitLen x - 1) ≤ x
  | 0, x, _, h, h0 => by
    have : x = 0 := by simpa using h
    omega
  | k + 1, x, hk, h, h0 => by
    have h64 : x < 2 ^ 64 := Nat.lt_of_lt_of_le h (Nat.pow_le_pow_right (by omega) hk)
    have hp : 2 ^ (k + 1) = 2 * 2 ^ k := by rw [Nat.pow_succ]; omega
    rw [Lib.bitLen_half x (by omega) h64]
    refine ⟨by omega, ?_⟩
    rw [Nat.add_sub_cancel_left]
    rcases Nat.eq_zero_or_pos (x / 2) with h1 | h1
    · rw [h1]
      have e : Lib.bitLen 0 = 0 := by decide
      rw [e]; omega
    · obtain ⟨i1, i2⟩ := bitLen_ge k (x / 2) (by omega) (by omega) h1
      obtain ⟨b, hb⟩ : ∃ b, Lib.bitLen (x / 2) = b + 1 := ⟨Lib.bitLen (x / 2) - 1, by omega⟩
      rw [hb, Nat.add_sub_cancel] at i2
      rw [hb, Nat.pow_succ]
      omega
theorem bitsN_ge {x : Nat} (h : 0 < x) : 2 ^ (bitsN x - 1) ≤ x := by
  unfold bitsN
  rw [if_neg (by omega)]
  unfold topBits
  obtain ⟨m, hm⟩ : ∃ m, (digs x).length = m + 1 := ⟨(digs x).length - 1, by
    have : 0 < (digs x).length := digs_length_pos (by omega)
    omega⟩
  have ht : (digs x).getD m 0 < 4294967296 := okD_getD (okD_digs x) m
  have ht0 : 0 < (digs x).getD m 0 := by
    rcases Nat.eq_zero_or_pos ((digs x).getD m 0) with h0 | h0
    · have hv : x = val ((digs x).take m) + Bs m * (digs x).getD m 0 := by
        rw [← val_take_succ', ← hm, val_take_all (Nat.le_refl _), val_digs]
      have hl := val_lt (okD_take (okD_digs x) m)
      rw [List.length_take, hm, Nat.min_eq_left (by omega)] at hl
      rw [h0] at hv
      have h2 : (digs x).length ≤ m := digs_length_le (by omega)
      omega
    · exact h0
  obtain ⟨i1, i2⟩ := bitLen_ge 32 _ (by omega) (show (digs x).getD m 0 < 2 ^ 32 from ht) ht0
  have hv : x = val ((digs x).take m) + Bs m * (digs x).getD m 0 := by
    rw [← val_take_succ', ← hm, val_take_all (Nat.le_refl _), val_digs]
  rw [hm, Nat.add_sub_cancel]
  obtain ⟨b, hb⟩ : ∃ b, Lib.bitLen ((digs x).getD m 0) = b + 1 := ⟨Lib.bitLen ((digs x).getD m 0) - 1, by omega⟩
  rw [hb, Nat.add_sub_cancel] at i2
  rw [hb, show m * 32 + (b + 1) - 1 = 32 * m + b by omega, Nat.pow_add, ← Bs_pow]
  have : Bs m * 2 ^ b ≤ Bs m * (digs x).getD m 0 := Nat.mul_le_mul_left _ i2
  omega
/-- What the loop starts with. -/
theorem near_bits {n c : Nat} (h : 0 < n) (hc : (bitsN n - 1) / 2 = c) : 2 ^ (2 * c) ≤ n ∧ n < 2 ^ (2 * c + 2) := by
  have h1 := bitsN_ge h
  have h2 := bitsN_lt n
  have h3 : 0 < bitsN n := by
    rcases Nat.eq_zero_or_pos (bitsN n) with h0 | h0
    · rw [h0] at h2; omega
    · exact h0
  have p1 : 2 ^ (2 * c) ≤ 2 ^ (bitsN n - 1) := Nat.pow_le_pow_right (by omega) (by omega)
  have p2 : 2 ^ bitsN n ≤ 2 ^ (2 * c + 2) := Nat.pow_le_pow_right (by omega) (by omega)
  omega
end Go.Proofs.YtpbfecbhdfnacaaDoor
