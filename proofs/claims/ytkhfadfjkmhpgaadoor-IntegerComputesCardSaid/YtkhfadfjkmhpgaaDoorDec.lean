/-
  Decimal digits.
-/
import Derived.Test.YtkhfadfjkmhpgaaDoorMath
namespace Go.Proofs.YtkhfadfjkmhpgaaDoor

/-- The decimal digits of a number, as bytes; none for 0. -/
def decs (x : Nat) : List Nat := if x = 0 then [] else decs (x / 10) ++ [48 + x % 10]
termination_by x
decreasing_by omega
theorem decs_zero : decs 0 = [] := by rw [decs]; simp
theorem decs_pos {x : Nat} (h : 0 < x) : decs x = decs (x / 10) ++ [48 + x % 10] := by rw [decs, if_neg (by omega)]
/-- k decimal digits. -/
def pad : Nat → Nat → List Nat
  | 0, _ => []
  | k + 1, g => pad k (g / 10) ++ [48 + g % 10]
theorem pad_length (k g : Nat) : (pad k g).length = k := by
  induction k generalizing g with
  | zero => rfl
  | succ k ih => rw [pad, List.length_append, ih]; rfl
theorem decs_split (k : Nat) : ∀ (g q : Nat), g < 10 ^ k → 0 < q → decs (g + 10 ^ k * q) = decs q ++ pad k g := by
  induction k with
  | zero => intro g q hg _; obtain rfl : g = 0 := by simpa using hg
            simp [pad]
  | succ k ih =>
    intro g q hg hq
    have e : 10 ^ (k + 1) = 10 * 10 ^ k := by rw [Nat.pow_succ, Nat.mul_comm]
    have hp : 0 < 10 ^ k := Nat.pow_pos (by omega)
    have hpq : 0 < 10 ^ k * q := Nat.mul_pos hp hq
    have e2 : 10 ^ (k + 1) * q = 10 * (10 ^ k * q) := by rw [e, Nat.mul_assoc]
    rw [e2, decs_pos (by omega), show (g + 10 * (10 ^ k * q)) / 10 = g / 10 + 10 ^ k * q by omega, show (g + 10 * (10 ^ k * q)) % 10 = g % 10 by omega, ih _ _ (by omega) hq, pad, List.append_assoc]
theorem pad_get (n : Nat) : ∀ (g k : Nat), k < n → (pad n g)[k]? = some (48 + g / 10 ^ (n - 1 - k) % 10) := by
  induction n with
  | zero => intro g k h; omega
  | succ n ih =>
    intro g k h
    rw [pad]
    rcases Nat.lt_or_ge k n with hk | hk
    · rw [List.getElem?_append_left (by rw [pad_length]; exact hk), ih _ _ hk, Nat.div_div_eq_div_mul, show n + 1 - 1 - k = (n - 1 - k) + 1 by omega, Nat.pow_succ, Nat.mul_comm]
    · obtain rfl : k = n := by omega
      rw [List.getElem?_append_right (by rw [pad_length]; omega), pad_length]
      simp
theorem pad_take_succ {n g k : Nat} (h : k < n) : (pad n g).take (k + 1) = (pad n g).take k ++ [48 + g / 10 ^ (n - 1 - k) % 10] := by
  rw [List.take_add_one, pad_get n g k h]; rfl
theorem pad_byte (n g : Nat) : ∀ b ∈ pad n g, b < 58 := by
  induction n generalizing g with
  | zero => intro b hb; simp [pad] at hb
  | succ n ih => intro b hb; rw [pad, List.mem_append] at hb; rcases hb with hb | hb
                 · exact ih _ b hb
                 · simp at hb; omega
theorem decs_byte (x : Nat) : ∀ b ∈ decs x, b < 58 := by
  induction x using Nat.strongRecOn with
  | ind x ih =>
    rcases Nat.eq_zero_or_pos x with h | h
    · subst h; rw [decs_zero]; simp
    · rw [decs_pos h]; intro b hb; rw [List.mem_append] at hb; rcases hb with hb | hb
      · exact ih _ (by omega) b hb
      · simp at hb; omega
theorem decs_length (k : Nat) : ∀ t, t < 10 ^ k → (decs t).length ≤ k := by
  induction k with
  | zero => intro t h; obtain rfl : t = 0 := by simpa using h
            rw [decs_zero]; simp
  | succ k ih =>
    intro t h
    rcases Nat.eq_zero_or_pos t with h0 | h0
    · subst h0; rw [decs_zero]; simp
    · rw [decs_pos h0, List.length_append]
      have := ih (t / 10) (by rw [Nat.pow_succ] at h; omega)
      simp; omega
/-- The texts of groups of nine digits, the last group first. -/
def pads : List Nat → List Nat
  | [] => []
  | g :: gs => pads gs ++ pad 9 g
theorem pads_snoc (gs : List Nat) (t : Nat) : pads (gs ++ [t]) = pad 9 t ++ pads gs := by
  induction gs with
  | nil => simp [pads]
  | cons g gs ih => rw [List.cons_append, pads, ih, pads, List.append_assoc]
theorem pads_take_succ {gs : List Nat} {k : Nat} (h : k < gs.length) : pads (gs.take (k + 1)) = pad 9 (gs.getD k 0) ++ pads (gs.take k) := by
  rw [List.take_succ_eq_append_getElem h, pads_snoc, List.getD_eq_getElem?_getD, List.getElem?_eq_getElem h]; rfl
theorem pads_length (gs : List Nat) : (pads gs).length = 9 * gs.length := by
  induction gs with
  | nil => rfl
  | cons g gs ih => rw [pads, List.length_append, ih, pad_length, List.length_cons]; omega
/-- The highest group of nine decimal digits. -/
def top9 (x : Nat) : Nat := if x < 1000000000 then x else top9 (x / 1000000000)
termination_by x
decreasing_by omega
theorem top9_small {x : Nat} (h : x < 1000000000) : top9 x = x := by rw [top9, if_pos h]
theorem top9_big {x : Nat} (h : 1000000000 ≤ x) : top9 x = top9 (x / 1000000000) := by rw [top9, if_neg (by omega)]
/-- What the groups say of the number. -/
def Groups (x y : Nat) (gs : List Nat) : Prop :=
  (0 < y → decs x = decs y ++ pads gs ∧ top9 x = top9 y) ∧ (y = 0 → ∃ gs' t, gs = gs' ++ [t] ∧ t = top9 x ∧ 0 < t ∧ t < 1000000000 ∧ decs x = decs t ++ pads gs')
theorem groups_start {x : Nat} (h : 0 < x) : Groups x x [] := ⟨fun _ => ⟨by simp [pads], rfl⟩, fun h0 => by omega⟩
theorem groups_step {x y : Nat} {gs : List Nat} (h : Groups x y gs) (hy : 0 < y) : Groups x (y / 1000000000) (gs ++ [y % 1000000000]) := by
  obtain ⟨h1, h2⟩ := h.1 hy
  refine ⟨fun hq => ?_, fun hq => ⟨gs, y, ?_, ?_, hy, ?_, h1⟩⟩
  · have e : y = y % 1000000000 + 10 ^ 9 * (y / 1000000000) := by rw [show (10 : Nat) ^ 9 = 1000000000 from rfl]; omega
    have := decs_split 9 (y % 1000000000) (y / 1000000000) (by rw [show (10 : Nat) ^ 9 = 1000000000 from rfl]; omega) hq
    rw [← e] at this
    exact ⟨by rw [h1, this, pads_snoc, List.append_assoc], by rw [h2, top9_big (by omega)]⟩
  · congr 2; omega
  · rw [h2, top9_small (by omega)]
  · omega
theorem scale_step (k : Nat) : 100000000 / 10 ^ k / 10 = 100000000 / 10 ^ (k + 1) := by rw [Nat.div_div_eq_div_mul, Nat.pow_succ]
theorem scale_pow {k : Nat} (h : k < 9) : 100000000 / 10 ^ k = 10 ^ (9 - 1 - k) := by
  have : k = 0 ∨ k = 1 ∨ k = 2 ∨ k = 3 ∨ k = 4 ∨ k = 5 ∨ k = 6 ∨ k = 7 ∨ k = 8 := by omega
  rcases this with rfl | rfl | rfl | rfl | rfl | rfl | rfl | rfl | rfl <;> rfl
theorem group_count {L n y x : Nat} (hx : x < Bs L) (h : 2 ^ (29 * n) * y ≤ x) (hy : 0 < y) : 29 * n < 32 * L := by
  have h1 : 2 ^ (29 * n) ≤ x := Nat.le_trans (Nat.le_mul_of_pos_right _ hy) h
  have h2 : Bs L = 2 ^ (32 * L) := by unfold Bs; rw [show 4294967296 = 2 ^ 32 from rfl, ← Nat.pow_mul]
  rw [h2] at hx
  exact (Nat.pow_lt_pow_iff_right (by omega)).1 (Nat.lt_of_le_of_lt h1 hx)
theorem group_step {n y x : Nat} (h : 2 ^ (29 * n) * y ≤ x) : 2 ^ (29 * (n + 1)) * (y / 1000000000) ≤ x := by
  refine Nat.le_trans ?_ h
  rw [Nat.mul_add, Nat.pow_add, Nat.mul_assoc]
  exact Nat.mul_le_mul_left _ (by omega)
end Go.Proofs.YtkhfadfjkmhpgaaDoor
