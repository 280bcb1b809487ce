/-
  SqrtM, Sqrt, Common, Root, LawGcd in one text.
-/
import Derived.Test.YtpbfecbhdfnacaaDoorShorten
import Derived.Test.YtpbfecbhdfnacaaDoorMul
import Derived.Test.YtpbfecbhdfnacaaDoorRefV
import Derived.Test.YtpbfecbhdfnacaaDoorGcd
import Derived.Test.YtpbfecbhdfnacaaDoorBase
import Derived.Test.YtpbfecbhdfnacaaDoorLeft
namespace Go.Proofs.YtpbfecbhdfnacaaDoor
open Go.RowKit

theorem sq_lt {a b : Nat} (h : a * a < b * b) : a < b := by
  rcases Nat.lt_or_ge a b with h1 | h1
  · exact h1
  · exact absurd (Nat.mul_le_mul h1 h1) (by omega)
theorem sq_le {a b : Nat} (h : a * a ≤ b * b) : a ≤ b := by
  rcases Nat.lt_or_ge b a with h1 | h1
  · exact absurd (Nat.mul_lt_mul'' h1 h1) (by omega)
  · exact h1
/-- One step of Newton's method: the root of n is known up to 1 before and after it. -/
theorem newton_lo {H c q n : Nat} (hHa : H ≤ c + 1) (h1 : 4 * (H * (c + 1)) * q ≤ n) (h3 : 2 * (H * c) * (2 * (H * c)) < n) (h4 : n < 2 * (H * (c + 2)) * (2 * (H * (c + 2)))) (_hH : 0 < H)
    {r : Nat} (hr : H * (c + 1) + q = r + 1) : r * r < n := by
  rcases Nat.lt_or_ge (r * r) n with h | h
  · exact h
  exfalso
  have hlo : 2 * (H * c) < r := sq_lt (by omega)
  have e1 : H * (c + 1) = H * c + H := by rw [Nat.mul_add, Nat.mul_one]
  have e2 : H * (c + 2) = H * c + 2 * H := by rw [Nat.mul_add]; omega
  rw [e1] at h1 hr
  rw [e2] at h4
  have hHH : H * H ≤ H * (c + 1) := Nat.mul_le_mul_left H hHa
  rw [e1] at hHH
  generalize H * c = P at *
  rcases Nat.lt_or_ge r (2 * P + 4 * H) with hu | hu
  · -- |r - 2(P+H)| < 2H, so its square is less than 4 (P + H)
    have hq : q = r + 1 - (P + H) := by omega
    obtain ⟨d, rfl⟩ : ∃ d, r = 2 * P + d := ⟨r - 2 * P, by omega⟩
    have hq2 : q = P + d + 1 - H := by omega
    have hd : d < 4 * H := by omega
    have hd0 : 0 < d := by omega
    -- 4 (P+H) q ≤ r r fails
    have hle : 4 * (P + H) * q ≤ (2 * P + d) * (2 * P + d) := by omega
    have hqi : (q : Int) = P + d + 1 - H := by omega
    have hle' : 4 * ((P : Int) + H) * q ≤ (2 * P + d) * (2 * P + d) := by exact_mod_cast hle
    rw [hqi] at hle'
    have hHH' : (H : Int) * H ≤ P + H := by exact_mod_cast hHH
    -- (2P+d)^2 - 4 (P+H)(P+d+1-H) = (d - 2H)^2 - 4 (P+H)
    have key : ((2 : Int) * P + d) * (2 * P + d) - 4 * (P + H) * (P + d + 1 - H) = (d - 2 * H) * (d - 2 * H) - 4 * (P + H) := by grind
    have hsq : ((d : Int) - 2 * H) * (d - 2 * H) < 4 * (H * H) := by
      have : ((d : Int) - 2 * H) * (d - 2 * H) = 4 * (H * H) - d * (4 * H - d) := by grind
      have h5 : 0 < (d : Int) * (4 * H - d) := Int.mul_pos (by omega) (by omega)
      omega
    omega
  · -- r is too great
    have hq : P + 3 * H + 1 ≤ q := by omega
    have h6 : 4 * (P + H) * (P + 3 * H + 1) ≤ 4 * (P + H) * q := Nat.mul_le_mul_left _ hq
    have h7 : 4 * (P + H) * (P + 3 * H + 1) < 2 * (P + 2 * H) * (2 * (P + 2 * H)) := by omega
    have e3 : 4 * (P + H) * (P + 3 * H + 1) = 4 * (P * P) + 16 * (P * H) + 12 * (H * H) + 4 * (P + H) := by grind
    have e4 : 2 * (P + 2 * H) * (2 * (P + 2 * H)) = 4 * (P * P) + 16 * (P * H) + 16 * (H * H) := by grind
    omega
theorem newton_hi {x q n : Nat} (h2 : n < 4 * x * (q + 1)) : n < (x + q + 1) * (x + q + 1) := by
  have h : ((x : Int) - (q + 1)) * (x - (q + 1)) ≥ 0 := by
    rcases Int.le_total 0 ((x : Int) - (q + 1)) with h | h
    · exact Int.mul_nonneg h h
    · have := Int.mul_nonneg (Int.neg_nonneg_of_nonpos h) (Int.neg_nonneg_of_nonpos h)
      rwa [Int.neg_mul_neg] at this
  have e : ((x : Int) + q + 1) * (x + q + 1) = ((x : Int) - (q + 1)) * (x - (q + 1)) + 4 * x * (q + 1) := by grind
  have h2' : (n : Int) < 4 * x * (q + 1) := by exact_mod_cast h2
  have : (n : Int) < ((x : Int) + q + 1) * (x + q + 1) := by omega
  exact_mod_cast this
/-- What the loop knows: a is the root of n up to 1. -/
def Near (a n : Nat) : Prop := 0 < a ∧ (a - 1) * (a - 1) < n ∧ n < (a + 1) * (a + 1)
theorem near_step {a k N : Nat} (h : Near a (N / 4 ^ (k + 1))) (hk : 2 ^ k ≤ a) :
    Near (a * 2 ^ k + N / 2 ^ (k + 2) / a) N := by
  obtain ⟨h0, h1, h2⟩ := h
  obtain ⟨c, rfl⟩ : ∃ c, a = c + 1 := ⟨a - 1, by omega⟩
  rw [Nat.add_sub_cancel] at h1
  have hH : 0 < 2 ^ k := Nat.two_pow_pos k
  have e4 : (4 : Nat) ^ (k + 1) = 2 * 2 ^ k * (2 * 2 ^ k) := by
    rw [show (4 : Nat) = 2 * 2 from rfl, Nat.mul_pow, Nat.pow_succ]; grind
  have e2 : (2 : Nat) ^ (k + 2) = 4 * 2 ^ k := by rw [Nat.pow_add]; omega
  rw [e4] at h1 h2
  rw [e2]
  generalize 2 ^ k = H at *
  have hD : 0 < 2 * H * (2 * H) := by rw [Nat.mul_pos_iff_of_pos_left] <;> omega
  have g3 : (c * c + 1) * (2 * H * (2 * H)) ≤ N := (Nat.le_div_iff_mul_le hD).1 h1
  have g4 : N < (c + 1 + 1) * (c + 1 + 1) * (2 * H * (2 * H)) := (Nat.div_lt_iff_lt_mul hD).1 h2
  rw [Nat.div_div_eq_div_mul]
  have hE : 0 < 4 * H * (c + 1) := Nat.mul_pos (by omega) (by omega)
  have hmod := Nat.div_add_mod N (4 * H * (c + 1))
  have hlt := Nat.mod_lt N hE
  generalize N / (4 * H * (c + 1)) = q at *
  have hle : 4 * (H * (c + 1)) * q ≤ N := by rw [← Nat.mul_assoc]; omega
  have hgt : N < 4 * (H * (c + 1)) * (q + 1) := by rw [← Nat.mul_assoc, Nat.mul_add]; omega
  have g3' : 2 * (H * c) * (2 * (H * c)) < N := by
    have e : (c * c + 1) * (2 * H * (2 * H)) = 2 * (H * c) * (2 * (H * c)) + 2 * H * (2 * H) := by grind
    omega
  have g4' : N < 2 * (H * (c + 2)) * (2 * (H * (c + 2))) := by
    have e : (c + 1 + 1) * (c + 1 + 1) * (2 * H * (2 * H)) = 2 * (H * (c + 2)) * (2 * (H * (c + 2))) := by grind
    omega
  have hpos : 0 < H * (c + 1) := Nat.mul_pos hH (by omega)
  rw [Nat.mul_comm (c + 1) H]
  refine ⟨by omega, ?_, newton_hi hgt⟩
  exact newton_lo hk hle g3' g4' hH (r := H * (c + 1) + q - 1) (by omega)
theorem near_code {n a c kn nx : Nat} (h : Near a (n / 2 ^ (2 * c - 2 * kn))) (h1 : kn < nx) (h2 : nx ≤ 2 * kn + 1) (h3 : nx ≤ c) (hn : 2 ^ (2 * c) ≤ n) :
    Near (a * 2 ^ (nx - kn - 1) + n / 2 ^ (2 * c - kn - nx + 1) / a) (n / 2 ^ (2 * c - 2 * nx)) := by
  obtain ⟨k, rfl⟩ : ∃ k, nx = kn + k + 1 := ⟨nx - kn - 1, by omega⟩
  have e1 : 2 * c - 2 * kn = 2 * c - 2 * (kn + k + 1) + 2 * (k + 1) := by omega
  have e2 : 2 * c - kn - (kn + k + 1) + 1 = 2 * c - 2 * (kn + k + 1) + (k + 2) := by omega
  have e3 : kn + k + 1 - kn - 1 = k := by omega
  have hbig : 2 ^ (2 * kn) ≤ n / 2 ^ (2 * c - 2 * kn) := by
    rw [Nat.le_div_iff_mul_le (Nat.two_pow_pos _), ← Nat.pow_add]
    rw [show 2 * kn + (2 * c - 2 * kn) = 2 * c by omega]; exact hn
  rw [e2, e3, Nat.pow_add 2 _ (k + 2), ← Nat.div_div_eq_div_mul]
  have ha : 2 ^ k ≤ a := by
    obtain ⟨_, _, hh⟩ := h
    have h5 : 2 ^ kn * 2 ^ kn < (a + 1) * (a + 1) := by rw [← Nat.pow_add, show kn + kn = 2 * kn by omega]; omega
    have h6 := sq_lt h5
    have h7 : 2 ^ k ≤ 2 ^ kn := Nat.pow_le_pow_right Nat.two_pos (by omega)
    omega
  refine near_step ?_ ha
  rw [Nat.div_div_eq_div_mul, show (4 : Nat) = 2 ^ 2 from rfl, ← Nat.pow_mul, ← Nat.pow_add, ← e1]
  exact h
theorem near_start {n c : Nat} (h1 : 2 ^ (2 * c) ≤ n) (h2 : n < 2 ^ (2 * c + 2)) : Near 1 (n / 2 ^ (2 * c)) := by
  refine ⟨by omega, ?_, ?_⟩
  · have := (Nat.le_div_iff_mul_le (x := 1) (y := n) (Nat.two_pow_pos (2 * c))).2 (by omega)
    omega
  · rw [Nat.div_lt_iff_lt_mul (Nat.two_pow_pos _), Nat.mul_comm]; rw [Nat.pow_add] at h2; exact h2
theorem near_end {n a : Nat} (h : Near a n) : (n < a * a → (a - 1) * (a - 1) ≤ n ∧ n < (a - 1 + 1) * (a - 1 + 1)) ∧ (a * a ≤ n → a * a ≤ n ∧ n < (a + 1) * (a + 1)) := by
  obtain ⟨h0, h1, h2⟩ := h
  exact ⟨fun h => ⟨by omega, by rw [show a - 1 + 1 = a by omega]; exact h⟩, fun h => ⟨h, h2⟩⟩
theorem near_lt {n a B : Nat} (h : Near a n) (hn : n < B * B) : a ≤ B := by
  have h3 := sq_lt (Nat.lt_trans h.2.1 hn)
  have := h.1
  omega
/-- A root is unique. -/
theorem root_unique {n r s : Nat} (h : r * r ≤ n ∧ n < (r + 1) * (r + 1)) (k : s * s ≤ n ∧ n < (s + 1) * (s + 1)) : r = s := by
  have h1 : r < s + 1 := sq_lt (by omega)
  have h2 : s < r + 1 := sq_lt (by omega)
  omega
theorem bitLen_ge : ∀ (k x : Nat), k ≤ 64 → x < 2 ^ k → 0 < x → 0 < Lib.bitLen x ∧ 2 ^ (Lib.bitLen x - 1) ≤ x
  | 0, x, _, h, h0 => by
    have : x = 0 := by simpa using h
    omega
  | k + 1, x, hk, h, h0 => by
    have h64 : x < 2 ^ 64 := Nat.lt_of_lt_of_le h (Nat.pow_le_pow_right (by omega) hk)
    have hp : 2 ^ (k + 1) = 2 * 2 ^ k := by rw [Nat.pow_succ]; omega
    rw [Lib.bitLen_half x (by omega) h64]
    refine ⟨by omega, ?_⟩
    rw [Nat.add_sub_cancel_left]
    rcases Nat.eq_zero_or_pos (x / 2) with h1 | h1
    · rw [h1]
      have e : Lib.bitLen 0 = 0 := by decide
      rw [e]; omega
    · obtain ⟨i1, i2⟩ := bitLen_ge k (x / 2) (by omega) (by omega) h1
      obtain ⟨b, hb⟩ : ∃ b, Lib.bitLen (x / 2) = b + 1 := ⟨Lib.bitLen (x / 2) - 1, by omega⟩
      rw [hb, Nat.add_sub_cancel] at i2
      rw [hb, Nat.pow_succ]
      omega
theorem bitsN_ge {x : Nat} (h : 0 < x) : 2 ^ (bitsN x - 1) ≤ x := by
  unfold bitsN
  rw [if_neg (by omega)]
  unfold topBits
  obtain ⟨m, hm⟩ : ∃ m, (digs x).length = m + 1 := ⟨(digs x).length - 1, by
    have : 0 < (digs x).length := digs_length_pos (by omega)
    omega⟩
  have ht : (digs x).getD m 0 < 4294967296 := okD_getD (okD_digs x) m
  have ht0 : 0 < (digs x).getD m 0 := by
    rcases Nat.eq_zero_or_pos ((digs x).getD m 0) with h0 | h0
    · have hv : x = val ((digs x).take m) + Bs m * (digs x).getD m 0 := by
        rw [← val_take_succ', ← hm, val_take_all (Nat.le_refl _), val_digs]
      have hl := val_lt (okD_take (okD_digs x) m)
      rw [List.length_take, hm, Nat.min_eq_left (by omega)] at hl
      rw [h0] at hv
      have h2 : (digs x).length ≤ m := digs_length_le (by omega)
      omega
    · exact h0
  obtain ⟨i1, i2⟩ := bitLen_ge 32 _ (by omega) (show (digs x).getD m 0 < 2 ^ 32 from ht) ht0
  have hv : x = val ((digs x).take m) + Bs m * (digs x).getD m 0 := by
    rw [← val_take_succ', ← hm, val_take_all (Nat.le_refl _), val_digs]
  rw [hm, Nat.add_sub_cancel]
  obtain ⟨b, hb⟩ : ∃ b, Lib.bitLen ((digs x).getD m 0) = b + 1 := ⟨Lib.bitLen ((digs x).getD m 0) - 1, by omega⟩
  rw [hb, Nat.add_sub_cancel] at i2
  rw [hb, show m * 32 + (b + 1) - 1 = 32 * m + b by omega, Nat.pow_add, ← Bs_pow]
  have : Bs m * 2 ^ b ≤ Bs m * (digs x).getD m 0 := Nat.mul_le_mul_left _ i2
  omega
theorem bitsN_pos2 {x : Nat} (h : 0 < x) : 0 < bitsN x := by
  unfold bitsN topBits
  rw [if_neg (by omega)]
  have h1 := le_of_digs_length h
  have h2 := lt_of_digs_length (Nat.le_refl (digs x).length)
  have h3 := digs_length_pos h
  obtain ⟨m, hm⟩ : ∃ m, (digs x).length = m + 1 := ⟨(digs x).length - 1, by omega⟩
  rw [hm, Nat.add_sub_cancel] at h1 ⊢
  rw [hm, Bs_succ] at h2
  have h4 : 0 < (digs x).getD m 0 := by
    rw [digs_digit, Nat.mod_eq_of_lt (Nat.div_lt_of_lt_mul (by rw [Nat.mul_comm]; exact h2))]
    exact Nat.div_pos h1 (Bs_pos m)
  have h5 : (digs x).getD m 0 < 4294967296 := okD_getD (okD_digs x) m
  have h6 := Lib.bitLen_half ((digs x).getD m 0) (by omega) (by omega)
  omega
/-- What the loop starts with. -/
theorem near_bits {n c : Nat} (h : 0 < n) (hc : (bitsN n - 1) / 2 = c) : 2 ^ (2 * c) ≤ n ∧ n < 2 ^ (2 * c + 2) := by
  have h1 := bitsN_ge h
  have h2 := bitsN_lt n
  have h3 : 0 < bitsN n := by
    rcases Nat.eq_zero_or_pos (bitsN n) with h0 | h0
    · rw [h0] at h2; omega
    · exact h0
  have p1 : 2 ^ (2 * c) ≤ 2 ^ (bitsN n - 1) := Nat.pow_le_pow_right (by omega) (by omega)
  have p2 : 2 ^ bitsN n ≤ 2 ^ (2 * c + 2) := Nat.pow_le_pow_right (by omega) (by omega)
  omega
end Go.Proofs.YtpbfecbhdfnacaaDoor
namespace Go.Proofs.YtpbfecbhdfnacaaDoor
open Go.RowKit

theorem root_exists : ∀ n : Nat, ∃ r, r * r ≤ n ∧ n < (r + 1) * (r + 1)
  | 0 => ⟨0, by omega, by omega⟩
  | n + 1 => by
    obtain ⟨r, h1, h2⟩ := root_exists n
    rcases Nat.lt_or_ge (n + 1) ((r + 1) * (r + 1)) with h | h
    · exact ⟨r, by omega, h⟩
    · refine ⟨r + 1, h, ?_⟩
      have e : (r + 1 + 1) * (r + 1 + 1) = (r + 1) * (r + 1) + 2 * (r + 1) + 1 := by grind
      omega
theorem root_le {r n : Nat} (h : r * r ≤ n) : r ≤ n := by
  rcases Nat.eq_zero_or_pos r with h0 | h0
  · omega
  · exact Nat.le_trans (Nat.le_mul_of_pos_left r h0) h
section
variable {A : Option Addr} {n c X L r : Nat} {w : World}
set_option maxRecDepth 100000 in
set_option maxHeartbeats 4000000 in
theorem sqrt_v (hx : RV w (.slice A n c) X L) (hL : L ≤ 999000) (hr : r * r ≤ X ∧ X < (r + 1) * (r + 1)) :
    Calls Tryd.prog 15 #[.slice A n c] w fun e w' => ∃ B k d, e = .returned (.slice B k d) ∧ NV w' (.slice B k d) r L ∧ Below w.heap.size w w' := by
  have hrb : r < Bs L := Nat.lt_of_le_of_lt (root_le hr.1) hx.lt
  have hXb := hx.lt
  obtain ⟨ds, h1, h2, h3⟩ := hx
  have HR := Lib.hid hr
  have HRB := Lib.hid hrb
  have HX2 := Lib.hid h2
  clear hr hrb h2
  rcases Nat.eq_zero_or_pos X with rfl | hx0
  · have hr0 : r = 0 := by
      have h := HR.out.1
      have := root_le h
      omega
    subst hr0
    go_enter Tryd.func15, Tryd.ntmps15
    go_wp2_with fail
    refine (trim_is h1 HX2).mono ?_
    rintro e w' ⟨rfl, hX, rfl⟩
    rw [digs_zero]
    go_wp2_with fail
    go_ret
    exact ⟨_, _, _, rfl, ⟨num_zero _ _, HRB.out⟩, Below.refl _ _⟩
  · have hb0 : 0 < bitsN X := bitsN_pos2 hx0
    have hbl := bitsN_le hXb
    obtain ⟨m, hm⟩ : ∃ m, bitsN X = m + 1 := ⟨bitsN X - 1, by omega⟩
    obtain ⟨c0, hc0⟩ : ∃ c0, m / 2 = c0 := ⟨_, rfl⟩
    have hnb := near_bits (n := X) (c := c0) hx0 (by rw [hm, Nat.add_sub_cancel]; exact hc0)
    have HNB := Lib.hid hnb
    have hcb : c0 ≤ 16000000 := by omega
    have e1 : IntKind.i64.wrap (((m + 1 : Nat) : Int) - 1) = (m : Int) := by rw [IntKind.wrap_i64]; omega
    have e2 : IntKind.u64.wrap (m : Int) = (m : Int) := by rw [IntKind.wrap_u64]; omega
    have e3 : (m : Int) / 2 = (c0 : Int) := by omega
    have HLN := Lib.hid (fun W => Tryd.bits_Len (c0 : Int) W (by omega) (by omega))
    have hne : ¬ (digs X).length = 0 := by have := digs_length_pos hx0; omega
    have hne' : (((digs X).length : Int) == 0) = false := by rw [beq_eq_false_iff_ne]; omega
    have HM := Lib.hid hm
    have HBI := Lib.hid (fun (W : World) (hx : RV W (.slice A (digs X).length c) X L) => bits_v hx)
    rw [hm] at HBI
    clear hnb hb0 hbl hm hc0
    go_enter Tryd.func15, Tryd.ntmps15
    go_wp2_with fail
    refine (trim_is h1 HX2).mono ?_
    rintro e w' ⟨rfl, hX, rfl⟩
    have fx : NV w (.slice A (digs X).length c) X L := ⟨hX, hXb⟩
    clear hX hXb
    go_wp2_with fail
    refine (HBI.out _ fx.rv).mono ?_
    rintro e w1 ⟨rfl, hb⟩
    have H0 := hb
    replace fx := fx.below hb
    clear hb
    go_wp2_with fail
    refine (HLN.out _).mono ?_
    rintro e w2 ⟨rfl, rfl⟩
    rw [Int.toNat_natCast]
    obtain ⟨lb, hlb⟩ : ∃ lb, Lib.bitLen c0 = lb := ⟨_, rfl⟩
    obtain ⟨i1, i2⟩ := bitLen_lt 24 c0 (by omega) (by omega)
    have i3 : 0 < c0 → 2 ^ (lb - 1) ≤ c0 := fun h => by rw [← hlb]; exact (bitLen_ge 24 c0 (by omega) (by omega) h).2
    have i4 : c0 = 0 → lb = 0 := fun h => by rw [← hlb, h]; decide
    rw [hlb] at i1 i2 ⊢
    have I1 := Lib.hid i1
    have I3 := Lib.hid i3
    have I4 := Lib.hid i4
    clear i1 i3 i4 hlb
    have r1 : Raw (w1.alloc (.cells #[.int .u32 1] 60)) (.slice (some ⟨w1.heap.size, 0, none⟩) 1 1) [1] := raw_lit w1 _ _ 1 _ rfl (okD_one (by decide)) rfl (by decide) rfl
    have hd : digs 1 = [1] := by rw [digs_pos (by omega), show 1 / 4294967296 = 0 from rfl, digs_zero]
    have hN : NV (w1.alloc (.cells #[.int .u32 1] 60)) (.slice (some ⟨w1.heap.size, 0, none⟩) 1 1) 1 (L + 1) := ⟨by unfold Num; rw [hd]; exact r1, by rw [Bs_succ]; have := Bs_pos L; omega⟩
    have hb := below_alloc w1 (.cells #[.int .u32 1] 60)
    replace fx := fx.below hb
    replace H0 := H0.trans (hb.mono H0.size)
    clear hb r1 hd
    generalize w1.alloc (.cells #[.int .u32 1] 60) = w3 at fx H0 hN ⊢
    go_wp2_with fail
    go_loopw [4, 5, 6] (fun rv kv sv wr => ∃ (t R : Nat) (B5 : Option Addr) (k5 d5 : Nat), rv = .slice B5 k5 d5 ∧ kv = .int .u64 ((c0 / 2 ^ t : Nat) : Int) ∧ sv = .int .i64 ((t : Int) - 1) ∧ t ≤ lb ∧ NV wr (.slice B5 k5 d5) R (L + 1) ∧ NV wr (.slice A (digs X).length c) X L ∧ Near R (X / 2 ^ (2 * c0 - 2 * (c0 / 2 ^ t))) ∧ Below w.heap.size w wr) (fun _ _ sv _ => (intOf sv + 1).toNat)
    case atStart => exact ⟨lb, 1, _, _, _, rfl, by rw [Nat.div_eq_of_lt I1.out]; rfl, rfl, Nat.le_refl _, hN, fx, by rw [Nat.div_eq_of_lt I1.out]; exact near_start HNB.out.1 HNB.out.2, H0⟩
    case round =>
      obtain ⟨t, R, B5, k5, d5, rfl, rfl, rfl, ht, gr, gx, hnear, hbl⟩ := hrel
      have HNR := Lib.hid hnear
      clear hnear hN fx H0
      rcases Nat.eq_zero_or_pos t with rfl | ht0
      · rw [show ((0 : Nat) : Int) - 1 = -1 from rfl]
        have hend := near_end (n := X) (a := R) (by have h := HNR.out; rw [Nat.pow_zero, Nat.div_one, Nat.sub_self, Nat.pow_zero, Nat.div_one] at h; exact h)
        have hR1 : 1 ≤ R := HNR.out.1
        have HEND := Lib.hid hend
        clear hend HNR
        go_wp2_with fail
        refine (mul_v gr.rv gr.rv (by omega) (by omega)).mono ?_
        rintro e w4 ⟨B6, k6, d6, rfl, g6, hb⟩
        replace hbl := hbl.trans (hb.mono hbl.size)
        replace gr := gr.below hb
        replace gx := gx.below hb
        clear hb
        go_wp2_with fail
        refine (cmp_v g6.rv gx.rv).mono ?_
        rintro e w5 ⟨rfl, hb⟩
        replace hbl := hbl.trans (hb.mono hbl.size)
        replace gr := gr.below hb
        clear hb g6 gx
        rcases Nat.lt_or_ge X (R * R) with hlt | hge
        · have hq : cmpI (R * R) X = 1 := by unfold cmpI; rw [if_neg (by omega), if_pos (by omega)]
          rw [hq]
          have hrr : R - 1 = r := root_unique (HEND.out.1 hlt) HR.out
          have HRR := Lib.hid hrr
          clear hrr hq hlt
          have r1 : Raw (w5.alloc (.cells #[.int .u32 1] 60)) (.slice (some ⟨w5.heap.size, 0, none⟩) 1 1) [1] := raw_lit w5 _ _ 1 _ rfl (okD_one (by decide)) rfl (by decide) rfl
          have hd : digs 1 = [1] := by rw [digs_pos (by omega), show 1 / 4294967296 = 0 from rfl, digs_zero]
          have hN : NV (w5.alloc (.cells #[.int .u32 1] 60)) (.slice (some ⟨w5.heap.size, 0, none⟩) 1 1) 1 (L + 1) := ⟨by unfold Num; rw [hd]; exact r1, by rw [Bs_succ]; have := Bs_pos L; omega⟩
          have hb := below_alloc w5 (.cells #[.int .u32 1] 60)
          replace gr := gr.below hb
          replace hbl := hbl.trans (hb.mono hbl.size)
          clear hb r1 hd
          go_wp2_with fail
          refine (sub_v gr.rv hN.rv hR1).mono ?_
          rintro e w6 ⟨B7, k7, d7, rfl, g7, hb⟩
          rw [HRR.out] at g7
          replace hbl := hbl.trans (hb.mono hbl.size)
          have hfin : NV w6 (.slice B7 k7 d7) r L := ⟨g7.1, HRB.out⟩
          go_wp2_with fail
          try rw [Exit.noGoto_ret]
          go_ret
          exact ⟨_, _, _, rfl, hfin, hbl⟩
        · have hq : ¬ 0 < cmpI (R * R) X := by unfold cmpI; split
                                               · omega
                                               · rw [if_neg (by omega)]; omega
          obtain ⟨q, hqq⟩ : ∃ q, cmpI (R * R) X = q := ⟨_, rfl⟩
          rw [hqq] at hq ⊢
          have hrr : R = r := root_unique (HEND.out.2 hge) HR.out
          subst hrr
          have hfin : NV w5 (.slice B5 k5 d5) R L := ⟨gr.1, HRB.out⟩
          clear hge hqq HEND
          go_wp2_with fail
          try rw [Exit.noGoto_ret]
          go_ret
          exact ⟨_, _, _, rfl, hfin, hbl⟩
      · obtain ⟨j, rfl⟩ : ∃ j, t = j + 1 := ⟨t - 1, by omega⟩
        rw [show ((j + 1 : Nat) : Int) - 1 = (j : Int) by omega]
        obtain ⟨nx, hnx⟩ : ∃ nx, c0 / 2 ^ j = nx := ⟨_, rfl⟩
        obtain ⟨kn, hkn⟩ : ∃ kn, c0 / 2 ^ (j + 1) = kn := ⟨_, rfl⟩
        have hkn2 : kn = nx / 2 := by rw [← hkn, ← hnx, Nat.div_div_eq_div_mul, Nat.pow_succ]
        have hcp : 0 < c0 := by
          rcases Nat.eq_zero_or_pos c0 with h | h
          · have := I4.out h; omega
          · exact h
        have hnx1 : 1 ≤ nx := by
          rw [← hnx, Nat.le_div_iff_mul_le (Nat.two_pow_pos _), Nat.one_mul]
          exact Nat.le_trans (Nat.pow_le_pow_right (by omega) (by omega)) (I3.out hcp)
        have hnxc : nx ≤ c0 := by rw [← hnx]; exact Nat.div_le_self _ _
        have q1 : (c0 : Int) / 2 ^ j = (nx : Int) := by rw [← hnx]; norm_cast
        rw [hkn] at HNR ⊢
        have hstep := near_code HNR.out (show kn < nx by omega) (show nx ≤ 2 * kn + 1 by omega) hnxc HNB.out.1
        obtain ⟨a1, ha1⟩ : ∃ a, 2 * c0 - kn = a := ⟨_, rfl⟩
        obtain ⟨a2, ha2⟩ : ∃ a, a1 - nx = a := ⟨_, rfl⟩
        obtain ⟨a3, ha3⟩ : ∃ a, a2 + 1 = a := ⟨_, rfl⟩
        obtain ⟨b1, hb1⟩ : ∃ a, nx - kn = a := ⟨_, rfl⟩
        obtain ⟨b2, hb2⟩ : ∃ a, b1 - 1 = a := ⟨_, rfl⟩
        rw [ha1, ha2, ha3, hb1, hb2] at hstep
        have x1 : IntKind.u64.wrap (2 * (c0 : Int) - (kn : Int)) = (a1 : Int) := by rw [IntKind.wrap_u64]; omega
        have x2 : IntKind.u64.wrap ((a1 : Int) - (nx : Int)) = (a2 : Int) := by rw [IntKind.wrap_u64]; omega
        have x3 : IntKind.u64.wrap ((a2 : Int) + 1) = (a3 : Int) := by rw [IntKind.wrap_u64]; omega
        have x4 : IntKind.u64.wrap ((nx : Int) - (kn : Int)) = (b1 : Int) := by rw [IntKind.wrap_u64]; omega
        have x5 : IntKind.u64.wrap ((b1 : Int) - 1) = (b2 : Int) := by rw [IntKind.wrap_u64]; omega
        have hR1 : 0 < R := HNR.out.1
        have ha3b : a3 < 18446744073709551616 := by omega
        have hb2b : b2 < 1000000000 := by omega
        have HST := Lib.hid hstep
        have HNX := Lib.hid hnx
        clear hstep hnx hkn hkn2 hcp hnx1 hnxc ha1 ha2 ha3 hb1 hb2 HNR
        go_wp2_with fail
        refine (shr_v gx.rv a3 ha3b).mono ?_
        rintro e w4 ⟨B6, k6, d6, rfl, g6, hb⟩
        replace hbl := hbl.trans (hb.mono hbl.size)
        replace gr := gr.below hb
        replace gx := gx.below hb
        clear hb
        go_wp2_with fail
        refine (divmod_v g6.rv gr.rv hR1 (by omega)).mono ?_
        rintro e w5 ⟨B7, k7, d7, B8, k8, d8, rfl, g7, g8, hb⟩
        replace hbl := hbl.trans (hb.mono hbl.size)
        replace gr := gr.below hb
        replace gx := gx.below hb
        clear hb g6 g8
        have hrl := digs_length_le gr.2
        go_wp2_with fail
        refine (shl_is gr.1 (Lib.hid (val_digs R)) b2 hb2b (by omega)).mono ?_
        rintro e w6 ⟨B9, k9, d9, rfl, g9, hb⟩
        replace hbl := hbl.trans (hb.mono hbl.size)
        replace g7 := g7.below hb
        replace gx := gx.below hb
        clear hb gr hrl
        have HS := Lib.hid (show Near (R * 2 ^ b2 + X / 2 ^ a3 / R) (X / 2 ^ (2 * c0 - 2 * nx)) from HST.out)
        have hlt : R * 2 ^ b2 + X / 2 ^ a3 / R < Bs (L + 1) := by
          have hB := Bs_pos L
          have h := near_lt HST.out (B := Bs L) (Nat.lt_of_le_of_lt (Nat.div_le_self _ _) (Nat.lt_of_lt_of_le gx.2 (Nat.le_mul_of_pos_left _ hB)))
          rw [Bs_succ]; omega
        have g9' : NV w6 (.slice B9 k9 d9) (R * 2 ^ b2) (L + 1) := ⟨g9, Nat.lt_of_le_of_lt (Nat.le_add_right _ _) hlt⟩
        have HLT := Lib.hid hlt
        clear g9 hlt HST
        go_wp2_with fail
        refine (add_v g9'.rv g7.rv (by omega) (by omega)).mono ?_
        rintro e w7 ⟨B10, k10, d10, rfl, g10, hb⟩
        replace hbl := hbl.trans (hb.mono hbl.size)
        replace gx := gx.below hb
        clear hb g9' g7
        have hfin : NV w7 (.slice B10 k10 d10) (R * 2 ^ b2 + X / 2 ^ a3 / R) (L + 1) := ⟨g10.1, HLT.out⟩
        clear g10
        go_wp2_with fail
        go_roundw
        case rel => exact ⟨j, _, _, _, _, rfl, by rw [HNX.out], rfl, by omega, hfin, gx, by rw [HNX.out]; exact HS.out, hbl⟩
        case measure => simp [intOf]
end
end Go.Proofs.YtpbfecbhdfnacaaDoor
namespace Go.Proofs.YtpbfecbhdfnacaaDoor
open Go.RowKit

section
variable {A A' : Option Addr} {n n' c c' X Y L L' : Nat} {w : World}
set_option maxRecDepth 100000 in
theorem ncommon_word (hx : NV w (.slice A n c) X L) (hy : NV w (.slice A' n' c') Y L') (h1 : n ≤ 2) (h2 : n' ≤ 2) :
    Calls Tryd.prog 14 #[.slice A n c, .slice A' n' c'] w fun e w' => ∃ B k d, e = .returned (.slice B k d) ∧ NV w' (.slice B k d) (Nat.gcd X Y) (max L L') ∧ Below w.heap.size w w' := by
  have hG : Nat.gcd X Y < Bs (max L L') := gcd_lt hx.2 hy.2
  have b1 : X < 18446744073709551616 := by have := (Raw.cap hx.1).1; have h := digs_length_le_iff.1 (show (digs X).length ≤ 2 by omega); rwa [Bs_two] at h
  have b2 : Y < 18446744073709551616 := by have := (Raw.cap hy.1).1; have h := digs_length_le_iff.1 (show (digs Y).length ≤ 2 by omega); rwa [Bs_two] at h
  obtain ⟨G, hGe⟩ : ∃ G, Nat.gcd X Y = G := ⟨_, rfl⟩
  rw [hGe] at hG ⊢
  have HG := Lib.hid hG
  have HE := Lib.hid hGe
  clear hG hGe
  go_enter Tryd.func14, Tryd.ntmps14
  go_wp2_with fail
  refine (nword_small hx.1 h1).mono ?_
  rintro e w1 ⟨rfl, j1, rfl⟩
  go_wp2_with fail
  refine (nword_small (hy.below (below_drewN (Below.refl _ w) j1)).1 h2).mono ?_
  rintro e w2 ⟨rfl, j2, rfl⟩
  have H0 : Below w.heap.size w ((w.drewN j1).drewN j2) := below_drewN (below_drewN (Below.refl _ w) j1) j2
  go_wp2_with fail
  go_loopw [5, 7] (fun us vs wr => ∃ p q : Nat, us = .int .u64 p ∧ vs = .int .u64 q ∧ p < 18446744073709551616 ∧ q < 18446744073709551616 ∧ Nat.gcd p q = G ∧ Below w.heap.size w wr) (fun _ vs _ => (intOf vs).toNat)
  case atStart => exact ⟨X, Y, rfl, rfl, b1, b2, HE.out, below_drewN (Below.refl _ w) (j1 + j2)⟩
  case round =>
    obtain ⟨p, q, rfl, rfl, hp, hq, hpq, hbq⟩ := hrel
    have HPQ := Lib.hid hpq
    clear hpq H0
    rcases Nat.eq_zero_or_pos q with q0 | q0
    · subst q0
      have hpG : p = G := by rw [← HPQ.out, Nat.gcd_zero_right]
      subst hpG
      go_wp2_with fail
      refine (word_v p hp _).mono ?_
      rintro e w7 ⟨B9, k9, d9, rfl, g9, hb⟩
      have hbf := hbq.trans (hb.mono hbq.size)
      have HN : NV w7 (.slice B9 k9 d9) p (max L L') := ⟨g9.1, HG.out⟩
      go_wp2_with fail
      try rw [Exit.noGoto_ret]
      go_ret
      exact ⟨_, _, _, rfl, HN, hbf⟩
    · have q1 : ¬ (q : Int) = 0 := by omega
      have q1' : ¬ q = 0 := by omega
      have q2 : (0 : Int) < (q : Int) := by omega
      have e4 : ((p : Int) % (q : Int)) = ((p % q : Nat) : Int) := by omega
      have hry : p % q < q := Nat.mod_lt p q0
      have e6 : IntKind.u64.wrap ((p : Int) % (q : Int)) = ((p % q : Nat) : Int) := by rw [e4, IntKind.wrap_u64]; omega
      have hn : Nat.gcd q (p % q) = G := by rw [← HPQ.out, Nat.gcd_comm p, Nat.gcd_rec q p, Nat.gcd_comm]
      have HN := Lib.hid hn
      clear hn
      go_wp2_with fail
      go_region
      all_goals go_wp2_with fail
      refine ⟨⟨q, p % q, rfl, ?_, hq, by omega, HN.out, hbq.drew⟩, ?_⟩
      · rw [e4]
      · rw [e4]; simp [intOf]; omega
set_option maxRecDepth 100000 in
theorem ncommon_long (hx : NV w (.slice A n c) X L) (hy : NV w (.slice A' n' c') Y L') (hL : L ≤ 1000) (hL' : L' ≤ 1000) (h : 2 < n ∨ 2 < n') :
    Calls Tryd.prog 14 #[.slice A n c, .slice A' n' c'] w fun e w' => ∃ B k d, e = .returned (.slice B k d) ∧ NV w' (.slice B k d) (Nat.gcd X Y) (max L L') ∧ Below w.heap.size w w' := by
  have hG : Nat.gcd X Y < Bs (max L L') := gcd_lt hx.2 hy.2
  obtain ⟨G, hGe⟩ : ∃ G, Nat.gcd X Y = G := ⟨_, rfl⟩
  rw [hGe] at hG ⊢
  have HG := Lib.hid hG
  have HE := Lib.hid hGe
  clear hG hGe
  rcases Nat.lt_or_ge 2 n with h1 | h1
  · clear h
    go_enter Tryd.func14, Tryd.ntmps14
    go_wp2_with fail
    refine (nword_big h1).mono ?_
    rintro e w1 ⟨rfl, rfl⟩
    have fx := hx
    have fy := hy
    have H0 := Below.refl w1.heap.size w1
    go_wp2_with fail
    go_loopg [0, 1, 9, 10] Y (fun k xs ys _ _ wr => ∃ (R R' : Nat) (B5 : Option Addr) (k5 d5 : Nat) (B6 : Option Addr) (k6 d6 : Nat), xs = .slice B5 k5 d5 ∧ ys = .slice B6 k6 d6 ∧ NV wr (.slice B5 k5 d5) R (max L L') ∧ NV wr (.slice B6 k6 d6) R' (max L L') ∧ R' ≤ k ∧ Nat.gcd R R' = G ∧ Below w1.heap.size w1 wr)
    case atStart => exact ⟨_, _, _, _, _, _, _, _, rfl, rfl, fx.up (Nat.le_max_left _ _), fy.up (Nat.le_max_right _ _), Nat.le_refl _, HE.out, H0⟩
    case round =>
      obtain ⟨R, R', B5, k5, d5, B6, k6, d6, rfl, rfl, gx, gy, hRk, hgc, hbl⟩ := hrel
      have HGC := Lib.hid hgc
      clear hgc H0 fx fy
      have hlen := (Raw.cap gy.1).1
      rcases Nat.eq_zero_or_pos R' with h0 | h0
      · subst h0
        rw [digs_zero, List.length_nil] at hlen
        subst hlen
        have hR : R = G := by rw [← HGC.out, Nat.gcd_zero_right]
        subst hR
        have hln := Raw.len gx.1
        go_wp2_with (at_builtin; refine wpList_append_digs rfl _ _ _ _ rfl Tryd.underlying26 Tryd.underlying26 wr.heap.size rfl (grow_empty wr) rfl (raw_alloc gx.1 _) (by simp) (by simpa using hln) ?_; intro v' w8 hg hgr hb)
        rw [List.nil_append] at hg
        have hb2 := (below_alloc wr (.cells #[] 60)).trans hb
        obtain ⟨A1, c1, rfl⟩ := hg.form
        have hr := hg.raw hln
        have hbf := hbl.trans (hb2.mono hbl.size)
        have HN : NV w8 (.slice A1 _ c1) R (max L L') := ⟨hr, HG.out⟩
        go_wp2_with fail
        try rw [Exit.noGoto_ret]
        go_ret
        exact ⟨_, _, _, rfl, HN, hbf⟩
      · have h1 : 0 < k6 := by rw [hlen]; exact digs_length_pos h0
        have h1' : (0 : Int) < (k6 : Int) := by omega
        clear hlen
        have hm := Nat.mod_lt R h0
        go_wp2_with fail
        refine (ndivide_v gx gy h0 (by omega)).mono ?_
        rintro e w4 ⟨B7, k7, d7, B8, k8, d8, rfl, _, g8, hb⟩
        have hbf := hbl.trans (hb.mono hbl.size)
        have gy4 := gy.below hb
        obtain ⟨j, rfl⟩ : ∃ j, gk = j + 1 := ⟨gk - 1, by omega⟩
        have hgG : Nat.gcd R' (R % R') = G := by rw [← HGC.out, Nat.gcd_comm R, Nat.gcd_rec R' R, Nat.gcd_comm]
        go_wp2_with fail
        go_roundg j
        case measure => omega
        case rel => exact ⟨R', R % R', _, _, _, _, _, _, rfl, rfl, gy4, g8, by omega, hgG, hbf⟩
  · have h2 : 2 < n' := by omega
    clear h
    go_enter Tryd.func14, Tryd.ntmps14
    go_wp2_with fail
    refine (nword_small hx.1 h1).mono ?_
    rintro e w1 ⟨rfl, j1, rfl⟩
    go_wp2_with fail
    refine (nword_big h2).mono ?_
    rintro e w2 ⟨rfl, rfl⟩
    have H0 : Below w.heap.size w (w.drewN j1) := below_drewN (Below.refl _ w) j1
    have fx := hx.below H0
    have fy := hy.below H0
    go_wp2_with fail
    go_loopg [0, 1, 9, 10] Y (fun k xs ys _ _ wr => ∃ (R R' : Nat) (B5 : Option Addr) (k5 d5 : Nat) (B6 : Option Addr) (k6 d6 : Nat), xs = .slice B5 k5 d5 ∧ ys = .slice B6 k6 d6 ∧ NV wr (.slice B5 k5 d5) R (max L L') ∧ NV wr (.slice B6 k6 d6) R' (max L L') ∧ R' ≤ k ∧ Nat.gcd R R' = G ∧ Below w.heap.size w wr)
    case atStart => exact ⟨_, _, _, _, _, _, _, _, rfl, rfl, fx.up (Nat.le_max_left _ _), fy.up (Nat.le_max_right _ _), Nat.le_refl _, HE.out, H0⟩
    case round =>
      obtain ⟨R, R', B5, k5, d5, B6, k6, d6, rfl, rfl, gx, gy, hRk, hgc, hbl⟩ := hrel
      have HGC := Lib.hid hgc
      clear hgc H0 fx fy
      have hlen := (Raw.cap gy.1).1
      rcases Nat.eq_zero_or_pos R' with h0 | h0
      · subst h0
        rw [digs_zero, List.length_nil] at hlen
        subst hlen
        have hR : R = G := by rw [← HGC.out, Nat.gcd_zero_right]
        subst hR
        have hln := Raw.len gx.1
        go_wp2_with (at_builtin; refine wpList_append_digs rfl _ _ _ _ rfl Tryd.underlying26 Tryd.underlying26 wr.heap.size rfl (grow_empty wr) rfl (raw_alloc gx.1 _) (by simp) (by simpa using hln) ?_; intro v' w8 hg hgr hb)
        rw [List.nil_append] at hg
        have hb2 := (below_alloc wr (.cells #[] 60)).trans hb
        obtain ⟨A1, c1, rfl⟩ := hg.form
        have hr := hg.raw hln
        have hbf := hbl.trans (hb2.mono hbl.size)
        have HN : NV w8 (.slice A1 _ c1) R (max L L') := ⟨hr, HG.out⟩
        go_wp2_with fail
        try rw [Exit.noGoto_ret]
        go_ret
        exact ⟨_, _, _, rfl, HN, hbf⟩
      · have h1 : 0 < k6 := by rw [hlen]; exact digs_length_pos h0
        have h1' : (0 : Int) < (k6 : Int) := by omega
        clear hlen
        have hm := Nat.mod_lt R h0
        go_wp2_with fail
        refine (ndivide_v gx gy h0 (by omega)).mono ?_
        rintro e w4 ⟨B7, k7, d7, B8, k8, d8, rfl, _, g8, hb⟩
        have hbf := hbl.trans (hb.mono hbl.size)
        have gy4 := gy.below hb
        obtain ⟨j, rfl⟩ : ∃ j, gk = j + 1 := ⟨gk - 1, by omega⟩
        have hgG : Nat.gcd R' (R % R') = G := by rw [← HGC.out, Nat.gcd_comm R, Nat.gcd_rec R' R, Nat.gcd_comm]
        go_wp2_with fail
        go_roundg j
        case measure => omega
        case rel => exact ⟨R', R % R', _, _, _, _, _, _, rfl, rfl, gy4, g8, by omega, hgG, hbf⟩
theorem ncommon_v (hx : NV w (.slice A n c) X L) (hy : NV w (.slice A' n' c') Y L') (hL : L ≤ 1000) (hL' : L' ≤ 1000) :
    Calls Tryd.prog 14 #[.slice A n c, .slice A' n' c'] w fun e w' => ∃ B k d, e = .returned (.slice B k d) ∧ NV w' (.slice B k d) (Nat.gcd X Y) (max L L') ∧ Below w.heap.size w w' := by
  by_cases h : 2 < n ∨ 2 < n'
  · exact ncommon_long hx hy hL hL' h
  · exact ncommon_word hx hy (by omega) (by omega)
end
end Go.Proofs.YtpbfecbhdfnacaaDoor
namespace Go.Proofs.YtpbfecbhdfnacaaDoor
open Go.RowKit

set_option maxRecDepth 100000 in
theorem none_w (w : World) : Calls Tryd.prog 57 #[] w fun e w' => ∃ B k d, e = .returned (.slice B k d) ∧ NV w' (.slice B k d) 1 1 ∧ Below w.heap.size w w' := by
  have r1 : Raw (w.alloc (.cells #[.int .u32 1] 60)) (.slice (some ⟨w.heap.size, 0, none⟩) 1 1) [1] := raw_lit w _ _ 1 _ rfl (okD_one (by decide)) rfl (by decide) rfl
  have hd : digs 1 = [1] := by rw [digs_pos (by omega), show 1 / 4294967296 = 0 from rfl, digs_zero]
  have hN : NV (w.alloc (.cells #[.int .u32 1] 60)) (.slice (some ⟨w.heap.size, 0, none⟩) 1 1) 1 1 := ⟨by unfold Num; rw [hd]; exact r1, by rw [Bs_one]; omega⟩
  have hb := below_alloc w (.cells #[.int .u32 1] 60)
  go_enter Tryd.func57, Tryd.ntmps57
  go_wp2_with fail
  go_ret
  exact ⟨_, _, _, rfl, hN, hb⟩
theorem NV.kept {w w' : World} {v : Value} {x L b : Nat} (h : NV w v x L) (ht : Tape w b) (hg : w.grownBy w' (some b)) : NV w' v x L := by
  obtain ⟨A, n, c, t, h1, _⟩ := ht
  exact ⟨Raw.keepBut h.1 hg (Raw.apart h.1 (cs := #[.slice A n c, .int .i64 (t : Int)]) h1 (by simp [notInt])), h.2⟩
section
variable {A : Option Addr} {n c X L r : Nat} {w : World}
set_option maxRecDepth 100000 in
set_option maxHeartbeats 4000000 in
theorem nroot_v (hx : NV w (.slice A n c) X L) (hL : L ≤ 100) (hr : r * r ≤ X ∧ X < (r + 1) * (r + 1)) :
    Calls Tryd.prog 16 #[.slice A n c] w fun e w' => ∃ B k d, e = .returned (.slice B k d) ∧ NV w' (.slice B k d) r L ∧ Below w.heap.size w w' := by
  have hbl := bitsN_le hx.2
  have hbt := bitsN_lt X
  have HBI := Lib.hid (nbits_v hx)
  obtain ⟨m, hm⟩ : ∃ m, bitsN X = m := ⟨_, rfl⟩
  rw [hm] at HBI hbl hbt
  have HBT := Lib.hid hbt
  have HR := Lib.hid hr
  clear hm hbt hr
  obtain ⟨k0, hk0⟩ : ∃ k, (m + 1) / 2 = k := ⟨_, rfl⟩
  have e3 : ((m : Int) + 1) / 2 = (k0 : Int) := by omega
  have hk0b : k0 ≤ 3000 := by omega
  have hst : X < (0 + 2 ^ (k0 + 1)) * (0 + 2 ^ (k0 + 1)) := by
    rw [Nat.zero_add, ← Nat.pow_add]
    exact Nat.lt_of_lt_of_le HBT.out (Nat.pow_le_pow_right (by omega) (by omega))
  have HST := Lib.hid hst
  clear hst hk0 hbl
  go_enter Tryd.func16, Tryd.ntmps16
  go_wp2_with fail
  refine HBI.out.mono ?_
  rintro e w1 ⟨rfl, hb⟩
  have H0 := hb
  have fx := hx.below hb
  clear hb
  go_wp2_with fail
  rw [e3]
  clear e3
  go_loopw [3, 4] (fun rv kv wr => ∃ (t R : Nat) (B5 : Option Addr) (k5 d5 : Nat), rv = .slice B5 k5 d5 ∧ kv = .int .i64 ((t : Int) - 1) ∧ t ≤ k0 + 1 ∧ NV wr (.slice B5 k5 d5) R L ∧ NV wr (.slice A n c) X L ∧ R * R ≤ X ∧ X < (R + 2 ^ t) * (R + 2 ^ t) ∧ Below w.heap.size w wr) (fun _ kv _ => (intOf kv + 1).toNat)
  case atStart => exact ⟨k0 + 1, 0, _, _, _, rfl, by go_num, Nat.le_refl _, ⟨num_zero _ _, Bs_pos L⟩, fx, by omega, HST.out, H0⟩
  case round =>
    obtain ⟨t, R, B5, k5, d5, rfl, rfl, ht, gr, gx, h1, h2, hbl⟩ := hrel
    have HH1 := Lib.hid h1
    have HH2 := Lib.hid h2
    clear h1 h2 fx H0
    rcases Nat.eq_zero_or_pos t with rfl | ht0
    · rw [show ((0 : Nat) : Int) - 1 = -1 from rfl]
      have hrr : R = r := root_unique ⟨HH1.out, by have h := HH2.out; rwa [Nat.pow_zero] at h⟩ HR.out
      subst hrr
      go_wp2_with fail
      try rw [Exit.noGoto_ret]
      go_ret
      exact ⟨_, _, _, rfl, gr, hbl⟩
    · obtain ⟨j, rfl⟩ : ∃ j, t = j + 1 := ⟨t - 1, by omega⟩
      rw [show ((j + 1 : Nat) : Int) - 1 = (j : Int) by omega]
      go_wp2_with fail
      refine (none_w _).mono ?_
      rintro e w4 ⟨B6, k6, d6, rfl, g6, hb⟩
      replace hbl := hbl.trans (hb.mono hbl.size)
      replace gr := gr.below hb
      replace gx := gx.below hb
      clear hb
      go_wp2_with fail
      refine (left_v g6 (by omega) j (by omega)).mono ?_
      rintro e w5 ⟨B7, k7, d7, rfl, g7, hb⟩
      rw [Nat.one_mul] at g7
      replace hbl := hbl.trans (hb.mono hbl.size)
      replace gr := gr.below hb
      replace gx := gx.below hb
      clear hb g6
      go_wp2_with fail
      refine (nsum_v gr g7 (by omega) (by omega)).mono ?_
      rintro e w6 ⟨B8, k8, d8, rfl, g8, hb⟩
      replace hbl := hbl.trans (hb.mono hbl.size)
      replace gr := gr.below hb
      replace gx := gx.below hb
      clear hb g7
      go_wp2_with fail
      refine (nprod_v g8 g8 (by omega) (by omega)).mono ?_
      rintro e w7 ⟨B9, k9, d9, rfl, g9, hb⟩
      replace hbl := hbl.trans (hb.mono hbl.size)
      replace gr := gr.below hb
      replace gx := gx.below hb
      replace g8 := g8.below hb
      clear hb
      go_wp2_with fail
      obtain ⟨q, hq⟩ : ∃ q, cmpI ((R + 2 ^ j) * (R + 2 ^ j)) X = q := ⟨_, rfl⟩
      refine (ncmp_v g9 gx hq).mono ?_
      rintro e w8 ⟨rfl, hb⟩
      replace hbl := hbl.trans (hb.mono hbl.size)
      replace gr := gr.below hb
      replace gx := gx.below hb
      replace g8 := g8.below hb
      clear hb g9
      rcases Nat.lt_or_ge X ((R + 2 ^ j) * (R + 2 ^ j)) with hlt | hge
      · have hq1 : q = 1 := by rw [← hq]; unfold cmpI; rw [if_neg (by omega), if_pos (by omega)]
        subst hq1
        have HLT := Lib.hid hlt
        clear hq hlt g8
        go_wp2_with fail
        go_roundw
        case rel => exact ⟨j, R, _, _, _, rfl, rfl, by omega, gr, gx, HH1.out, HLT.out, hbl⟩
        case measure => simp [intOf]
      · have hq1 : q ≤ 0 := by
          rw [← hq]; unfold cmpI; split
          · omega
          · rw [if_neg (by omega)]; omega
        have hq2 : ¬ 0 < q := by omega
        have hup : X < (R + 2 ^ j + 2 ^ j) * (R + 2 ^ j + 2 ^ j) := by have h := HH2.out; rwa [Nat.pow_succ, show R + 2 ^ j * 2 = R + 2 ^ j + 2 ^ j by omega] at h
        have g8' : NV w8 (.slice B8 k8 d8) (R + 2 ^ j) L := ⟨g8.1, Nat.lt_of_le_of_lt (root_le hge) gx.2⟩
        have HUP := Lib.hid hup
        have HGE := Lib.hid hge
        clear hq hup hge g8 gr
        go_wp2_with fail
        go_roundw
        case rel => exact ⟨j, R + 2 ^ j, _, _, _, rfl, rfl, by omega, g8', gx, HGE.out, HUP.out, hbl⟩
        case measure => simp [intOf]
end
end Go.Proofs.YtpbfecbhdfnacaaDoor
namespace Go.Proofs.YtpbfecbhdfnacaaDoor
open Go.RowKit

set_option maxRecDepth 100000 in
set_option maxHeartbeats 8000000 in
theorem natgcd_any {v : Value} {w : World} (HI : Ints w v) : Calls Tryd.prog 3 #[v] w fun e w' => e = .returned (.bool true) ∧ Below w.heap.size w w' := by
  go_enter Tryd.func3, Tryd.ntmps3
  go_wp2_with fail
  refine (new_any HI).mono ?_
  rintro e w1 ⟨rfl, hT, H0, hsz⟩
  have hlt : w.heap.size < w1.heap.size := by omega
  clear hsz
  go_wp2_with fail
  have hT0 := hT
  refine (tapenat_v 5 (by omega) hT hlt).mono ?_
  rintro e w2 ⟨x, B2, k2, d2, rfl, fa, hT, hg⟩
  replace hlt := Nat.lt_of_lt_of_le hlt hg.size
  replace H0 := H0.grown hg H0.size (by rintro k hk; injection hk with hk; omega)
  clear hg hT0
  go_wp2_with fail
  have hT0 := hT
  refine (tapenat_v 5 (by omega) hT hlt).mono ?_
  rintro e w3 ⟨y, B3, k3, d3, rfl, fb, hT, hg⟩
  replace fa := fa.kept hT0 hg
  replace hlt := Nat.lt_of_lt_of_le hlt hg.size
  replace H0 := H0.grown hg H0.size (by rintro k hk; injection hk with hk; omega)
  clear hg hT0
  go_wp2_with fail
  have hT0 := hT
  refine (tapenat_v 3 (by omega) hT hlt).mono ?_
  rintro e w4 ⟨z, B4, k4, d4, rfl, fc, hT, hg⟩
  replace fa := fa.kept hT0 hg
  replace fb := fb.kept hT0 hg
  replace hlt := Nat.lt_of_lt_of_le hlt hg.size
  replace H0 := H0.grown hg H0.size (by rintro k hk; injection hk with hk; omega)
  clear hg hT0
  go_wp2_with fail
  have hT0 := hT
  refine (next_any 2 (by omega) (by omega) hT).mono ?_
  rintro e w5 ⟨r, rfl, hr, hT, hg⟩
  replace fa := fa.kept hT0 hg
  replace fb := fb.kept hT0 hg
  replace fc := fc.kept hT0 hg
  replace hlt := Nat.lt_of_lt_of_le hlt hg.size
  replace H0 := H0.grown hg H0.size (by rintro k hk; injection hk with hk; omega)
  clear hg hT0
  clear hT
  have hlt2 := hlt
  clear hlt
  rcases Nat.eq_zero_or_pos r with rfl | hr0
  · go_wp2_with fail
    refine (nprod_v fa fc (by omega) (by omega)).mono ?_
    rintro e w6 ⟨B6a, k6a, d6a, rfl, p1, hb⟩
    replace hlt2 := Nat.lt_of_lt_of_le hlt2 hb.size
    replace fa := fa.below hb
    replace fb := fb.below hb
    replace fc := fc.below hb
    replace H0 := H0.trans (hb.mono H0.size)
    clear hb
    go_wp2_with fail
    refine (nprod_v fb fc (by omega) (by omega)).mono ?_
    rintro e w7 ⟨B7a, k7a, d7a, rfl, p2, hb⟩
    replace hlt2 := Nat.lt_of_lt_of_le hlt2 hb.size
    replace fa := fa.below hb
    replace fb := fb.below hb
    replace fc := fc.below hb
    replace p1 := p1.below hb
    replace H0 := H0.trans (hb.mono H0.size)
    clear hb
    clear fa fb fc
    go_wp2_with fail
    refine (known_any _).mono ?_
    rintro e w8 ⟨rfl, hb⟩
    replace hlt2 := Nat.lt_of_lt_of_le hlt2 hb.size
    replace p1 := p1.below hb
    replace p2 := p2.below hb
    replace H0 := H0.trans (hb.mono H0.size)
    clear hb
    go_wp2_with fail
    refine (nats_v (b := w.heap.size) p1 1 (by omega) hlt2 (by omega)).mono ?_
    rintro e w9 ⟨B9, k9, d9, rfl, g1, hb⟩
    replace g1 := g1.rv (by omega)
    replace hlt2 := Nat.lt_of_lt_of_le hlt2 hb.size
    replace p1 := p1.below hb
    replace p2 := p2.below hb
    replace H0 := H0.trans (hb.mono H0.size)
    clear hb
    go_wp2_with fail
    refine (nats_v (b := w.heap.size) p2 2 (by omega) hlt2 (by omega)).mono ?_
    rintro e w10 ⟨B10, k10, d10, rfl, g2, hb⟩
    replace g2 := g2.rv (by omega)
    replace hlt2 := Nat.lt_of_lt_of_le hlt2 hb.size
    replace p1 := p1.below hb
    replace p2 := p2.below hb
    replace g1 := g1.below hb
    replace H0 := H0.trans (hb.mono H0.size)
    clear hb
    go_wp2_with fail
    refine (gcd_v g1 g2 (by omega) (by omega)).mono ?_
    rintro e w11 ⟨B11a, k11a, d11a, rfl, g3, hb⟩
    replace hlt2 := Nat.lt_of_lt_of_le hlt2 hb.size
    replace p1 := p1.below hb
    replace p2 := p2.below hb
    replace g1 := g1.below hb
    replace g2 := g2.below hb
    replace H0 := H0.trans (hb.mono H0.size)
    clear hb
    clear g1 g2
    go_wp2_with fail
    refine (ncommon_v p1 p2 (by omega) (by omega)).mono ?_
    rintro e w12 ⟨B12a, k12a, d12a, rfl, g4, hb⟩
    replace hlt2 := Nat.lt_of_lt_of_le hlt2 hb.size
    replace p1 := p1.below hb
    replace p2 := p2.below hb
    replace g3 := g3.below hb
    replace H0 := H0.trans (hb.mono H0.size)
    clear hb
    go_wp2_with fail
    refine (samelaw_v g3 g4 rfl (by omega)).mono ?_
    rintro e w13 ⟨rfl, hb⟩
    replace hlt2 := Nat.lt_of_lt_of_le hlt2 hb.size
    replace p1 := p1.below hb
    replace p2 := p2.below hb
    replace g3 := g3.below hb
    replace g4 := g4.below hb
    replace H0 := H0.trans (hb.mono H0.size)
    clear hb
    clear g3 g4 p2
    go_wp2_with fail
    refine (nats_v (b := w.heap.size) p1 1 (by omega) hlt2 (by omega)).mono ?_
    rintro e w14 ⟨B14, k14, d14, rfl, g1, hb⟩
    replace g1 := g1.rv (by omega)
    replace hlt2 := Nat.lt_of_lt_of_le hlt2 hb.size
    replace p1 := p1.below hb
    replace H0 := H0.trans (hb.mono H0.size)
    clear hb
    obtain ⟨q, hq⟩ := root_exists (x * z)
    go_wp2_with fail
    refine (sqrt_v g1 (by omega) hq).mono ?_
    rintro e w15 ⟨B15a, k15a, d15a, rfl, g5, hb⟩
    replace hlt2 := Nat.lt_of_lt_of_le hlt2 hb.size
    replace p1 := p1.below hb
    replace g1 := g1.below hb
    replace H0 := H0.trans (hb.mono H0.size)
    clear hb
    clear g1
    go_wp2_with fail
    refine (nroot_v p1 (by omega) hq).mono ?_
    rintro e w16 ⟨B16a, k16a, d16a, rfl, g6, hb⟩
    replace hlt2 := Nat.lt_of_lt_of_le hlt2 hb.size
    replace p1 := p1.below hb
    replace g5 := g5.below hb
    replace H0 := H0.trans (hb.mono H0.size)
    clear hb
    go_wp2_with fail
    refine (samelaw_v g5 g6 rfl (by omega)).mono ?_
    rintro e w17 ⟨rfl, hb⟩
    replace hlt2 := Nat.lt_of_lt_of_le hlt2 hb.size
    replace p1 := p1.below hb
    replace g5 := g5.below hb
    replace g6 := g6.below hb
    replace H0 := H0.trans (hb.mono H0.size)
    clear hb
    go_wp2_with fail
    go_ret
    exact ⟨rfl, H0⟩
  · have hrn : ((r : Int) == 0) = false := by rw [beq_eq_false_iff_ne]; omega
    clear fc
    go_wp2_with fail
    refine (known_any _).mono ?_
    rintro e w6 ⟨rfl, hb⟩
    replace hlt2 := Nat.lt_of_lt_of_le hlt2 hb.size
    replace fa := fa.below hb
    replace fb := fb.below hb
    replace H0 := H0.trans (hb.mono H0.size)
    clear hb
    go_wp2_with fail
    refine (nats_v (b := w.heap.size) fa 1 (by omega) hlt2 (by omega)).mono ?_
    rintro e w7 ⟨B7, k7, d7, rfl, g1, hb⟩
    replace g1 := g1.rv (by omega)
    replace hlt2 := Nat.lt_of_lt_of_le hlt2 hb.size
    replace fa := fa.below hb
    replace fb := fb.below hb
    replace H0 := H0.trans (hb.mono H0.size)
    clear hb
    go_wp2_with fail
    refine (nats_v (b := w.heap.size) fb 2 (by omega) hlt2 (by omega)).mono ?_
    rintro e w8 ⟨B8, k8, d8, rfl, g2, hb⟩
    replace g2 := g2.rv (by omega)
    replace hlt2 := Nat.lt_of_lt_of_le hlt2 hb.size
    replace fa := fa.below hb
    replace fb := fb.below hb
    replace g1 := g1.below hb
    replace H0 := H0.trans (hb.mono H0.size)
    clear hb
    go_wp2_with fail
    refine (gcd_v g1 g2 (by omega) (by omega)).mono ?_
    rintro e w9 ⟨B9a, k9a, d9a, rfl, g3, hb⟩
    replace hlt2 := Nat.lt_of_lt_of_le hlt2 hb.size
    replace fa := fa.below hb
    replace fb := fb.below hb
    replace g1 := g1.below hb
    replace g2 := g2.below hb
    replace H0 := H0.trans (hb.mono H0.size)
    clear hb
    clear g1 g2
    go_wp2_with fail
    refine (ncommon_v fa fb (by omega) (by omega)).mono ?_
    rintro e w10 ⟨B10a, k10a, d10a, rfl, g4, hb⟩
    replace hlt2 := Nat.lt_of_lt_of_le hlt2 hb.size
    replace fa := fa.below hb
    replace fb := fb.below hb
    replace g3 := g3.below hb
    replace H0 := H0.trans (hb.mono H0.size)
    clear hb
    go_wp2_with fail
    refine (samelaw_v g3 g4 rfl (by omega)).mono ?_
    rintro e w11 ⟨rfl, hb⟩
    replace hlt2 := Nat.lt_of_lt_of_le hlt2 hb.size
    replace fa := fa.below hb
    replace fb := fb.below hb
    replace g3 := g3.below hb
    replace g4 := g4.below hb
    replace H0 := H0.trans (hb.mono H0.size)
    clear hb
    clear g3 g4 fb
    go_wp2_with fail
    refine (nats_v (b := w.heap.size) fa 1 (by omega) hlt2 (by omega)).mono ?_
    rintro e w12 ⟨B12, k12, d12, rfl, g1, hb⟩
    replace g1 := g1.rv (by omega)
    replace hlt2 := Nat.lt_of_lt_of_le hlt2 hb.size
    replace fa := fa.below hb
    replace H0 := H0.trans (hb.mono H0.size)
    clear hb
    obtain ⟨q, hq⟩ := root_exists (x)
    go_wp2_with fail
    refine (sqrt_v g1 (by omega) hq).mono ?_
    rintro e w13 ⟨B13a, k13a, d13a, rfl, g5, hb⟩
    replace hlt2 := Nat.lt_of_lt_of_le hlt2 hb.size
    replace fa := fa.below hb
    replace g1 := g1.below hb
    replace H0 := H0.trans (hb.mono H0.size)
    clear hb
    clear g1
    go_wp2_with fail
    refine (nroot_v fa (by omega) hq).mono ?_
    rintro e w14 ⟨B14a, k14a, d14a, rfl, g6, hb⟩
    replace hlt2 := Nat.lt_of_lt_of_le hlt2 hb.size
    replace fa := fa.below hb
    replace g5 := g5.below hb
    replace H0 := H0.trans (hb.mono H0.size)
    clear hb
    go_wp2_with fail
    refine (samelaw_v g5 g6 rfl (by omega)).mono ?_
    rintro e w15 ⟨rfl, hb⟩
    replace hlt2 := Nat.lt_of_lt_of_le hlt2 hb.size
    replace fa := fa.below hb
    replace g5 := g5.below hb
    replace g6 := g6.below hb
    replace H0 := H0.trans (hb.mono H0.size)
    clear hb
    go_wp2_with fail
    go_ret
    exact ⟨rfl, H0⟩
end Go.Proofs.YtpbfecbhdfnacaaDoor
