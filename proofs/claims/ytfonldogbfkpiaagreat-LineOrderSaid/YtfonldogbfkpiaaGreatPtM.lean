/-
  Points: the signs, the half plane, the order of directions, of points, the turn.
-/
import Derived.Test.YtfonldogbfkpiaaGreatRatM
namespace Go.Proofs.YtfonldogbfkpiaaGreat
open Go.RowKit

theorem rsg_pos {a : Rat} (h : 0 < a) : rsg a = 1 := by
  unfold rsg
  have h1 : 0 ≤ a.num := Rat.num_nonneg.2 (by grind)
  rcases Int.lt_or_eq_of_le h1 with h2 | h2
  · exact Int.sign_eq_one_of_pos h2
  · have h3 : a = 0 := Rat.num_eq_zero.1 h2.symm
    grind
theorem rsg_neg' {a : Rat} (h : a < 0) : rsg a = -1 := by
  unfold rsg
  exact Int.sign_eq_neg_one_of_neg (Int.not_le.1 (fun h2 => absurd (Rat.num_nonneg.1 h2) (Rat.not_le.2 h)))
theorem rsg_zer {a : Rat} (h : a = 0) : rsg a = 0 := by subst h; rfl
theorem rat_tri (a b : Rat) : a < b ∨ a = b ∨ b < a := by grind
theorem rsg_cases (a : Rat) : (rsg a = 1 ∧ 0 < a) ∨ (rsg a = 0 ∧ a = 0) ∨ (rsg a = -1 ∧ a < 0) := by
  rcases rat_tri a 0 with h | h | h
  · exact .inr (.inr ⟨rsg_neg' h, h⟩)
  · exact .inr (.inl ⟨rsg_zer h, h⟩)
  · exact .inl ⟨rsg_pos h, h⟩
theorem rsg_opp (a : Rat) : rsg (-a) = -rsg a := by
  unfold rsg; rw [Rat.neg_num, Int.sign_neg]
theorem rsg_mul (a b : Rat) : rsg (a * b) = rsg a * rsg b := by
  rcases rsg_cases a with ⟨e, h⟩ | ⟨e, h⟩ | ⟨e, h⟩ <;> rcases rsg_cases b with ⟨e', h'⟩ | ⟨e', h'⟩ | ⟨e', h'⟩ <;> rw [e, e']
  · exact rsg_pos (Rat.mul_pos h h')
  · exact rsg_zer (by rw [h', Rat.mul_zero])
  · refine rsg_neg' ?_
    have := Rat.mul_pos h (show 0 < -b by grind); grind
  · exact rsg_zer (by rw [h, Rat.zero_mul])
  · exact rsg_zer (by rw [h, Rat.zero_mul])
  · exact rsg_zer (by rw [h, Rat.zero_mul])
  · refine rsg_neg' ?_
    have := Rat.mul_pos (show 0 < -a by grind) h'; grind
  · exact rsg_zer (by rw [h', Rat.mul_zero])
  · refine rsg_pos ?_
    have := Rat.mul_pos (show 0 < -a by grind) (show 0 < -b by grind); grind
/-- the half plane of a vector -/
def hfQ (x y : Rat) : Int := if rsg x = 0 ∧ rsg y = 0 then 0 else if 0 < rsg y ∨ rsg y = 0 ∧ 0 < rsg x then 1 else 2
def angQ (ux uy vx vy : Rat) : Int := if hfQ ux uy = hfQ vx vy then rsg (vx * uy - vy * ux) else if hfQ ux uy < hfQ vx vy then -1 else 1
def cmpQ (x y x' y' : Rat) : Int := if rsg (x - x') = 0 then rsg (y - y') else rsg (x - x')
def oriQ (ax ay bx by' cx cy : Rat) : Int := rsg ((bx - ax) * (cy - ay) - (by' - ay) * (cx - ax))
theorem ori_cyc (ax ay bx by' cx cy : Rat) : oriQ bx by' cx cy ax ay = oriQ ax ay bx by' cx cy := by unfold oriQ; congr 1; grind
theorem ori_flip (ax ay bx by' cx cy : Rat) : oriQ cx cy bx by' ax ay = -oriQ ax ay bx by' cx cy := by unfold oriQ; rw [← rsg_opp]; congr 1; grind
theorem ori_line (ax ay bx by' t : Rat) : oriQ ax ay bx by' (ax + t * (bx - ax)) (ay + t * (by' - ay)) = 0 := by unfold oriQ; exact rsg_zer (by grind)
theorem ori_same (ax ay cx cy : Rat) : oriQ ax ay ax ay cx cy = 0 := by unfold oriQ; exact rsg_zer (by grind)
theorem ang_scale (x y c : Rat) (h : rsg c = 1) : angQ x y (c * x) (c * y) = 0 := by
  unfold angQ hfQ
  rw [rsg_mul c x, rsg_mul c y, h, Int.one_mul, Int.one_mul, if_pos rfl]
  exact rsg_zer (by grind)
theorem sq_pos {a b : Rat} (h : a ≠ 0) : 0 < a * a + b * b := by
  have h1 : 0 < a * a := by
    rcases rat_tri a 0 with h2 | h2 | h2
    · have := Rat.mul_pos (show 0 < -a by grind) (show 0 < -a by grind); grind
    · exact absurd h2 h
    · exact Rat.mul_pos h2 h2
  have h3 : 0 ≤ b * b := by
    rcases rat_tri b 0 with h2 | h2 | h2
    · have := Rat.mul_pos (show 0 < -b by grind) (show 0 < -b by grind); grind
    · subst h2; grind
    · have := Rat.mul_pos h2 h2; grind
  grind
theorem rsg_zero_iff {a : Rat} : rsg a = 0 ↔ a = 0 := by
  rcases rsg_cases a with ⟨e, h⟩ | ⟨e, h⟩ | ⟨e, h⟩ <;> rw [e] <;> constructor <;> intro k
  all_goals first | omega | grind
/-- Between: lexicographic order against the inner product, on a line -/
theorem lex_dot (d1 d2 e1 e2 : Rat) (h : rsg (d1 * e2 - d2 * e1) = 0) :
    (0 ≤ (if rsg d1 = 0 then rsg d2 else rsg d1) * -(if rsg e1 = 0 then rsg e2 else rsg e1)) ↔ rsg (d1 * e1 + d2 * e2) ≤ 0 := by
  rw [rsg_zero_iff] at h
  rcases Decidable.em (d1 = 0) with h1 | h1
  · subst h1
    rw [if_pos (rsg_zer rfl), show (0 : Rat) * e1 + d2 * e2 = d2 * e2 by grind, rsg_mul]
    rcases Decidable.em (e1 = 0) with h2 | h2
    · rw [if_pos (rsg_zer h2)]; constructor <;> intro _ <;> grind
    · have h3 : d2 * e1 = 0 := by grind
      rcases Rat.mul_eq_zero.1 h3 with h4 | h4
      · subst h4; rw [rsg_zer rfl]; simp
      · exact absurd h4 h2
  · rw [if_neg (fun k => h1 (rsg_zero_iff.1 k))]
    have e : rsg d1 * rsg d1 * rsg (d1 * e1 + d2 * e2) = rsg d1 * rsg e1 := by
      rw [← rsg_mul, ← rsg_mul, ← rsg_mul, show d1 * d1 * (d1 * e1 + d2 * e2) = (d1 * e1) * (d1 * d1 + d2 * d2) by grind, rsg_mul, rsg_pos (sq_pos h1), Int.mul_one]
    have ee : rsg d1 * rsg d1 = 1 := by rcases rsg_cases d1 with ⟨e, _⟩ | ⟨_, h⟩ | ⟨e, _⟩ <;> first | (rw [e]; rfl) | exact absurd h h1
    rw [ee, Int.one_mul] at e
    rw [e]
    rcases Decidable.em (e1 = 0) with h2 | h2
    · subst h2
      have h3 : d1 * e2 = 0 := by grind
      rcases Rat.mul_eq_zero.1 h3 with h4 | h4
      · exact absurd h4 h1
      · subst h4; rw [rsg_zer rfl]; simp
    · rw [if_neg (fun k => h2 (rsg_zero_iff.1 k))]
      constructor <;> intro _ <;> grind
def hfI (x y : Int) : Int := if x.sign = 0 ∧ y.sign = 0 then 0 else if 0 < y.sign ∨ y.sign = 0 ∧ 0 < x.sign then 1 else 2
def angI (ux uy vx vy : Int) : Int := if hfI ux uy = hfI vx vy then (vx * uy - vy * ux).sign else if hfI ux uy < hfI vx vy then -1 else 1
def rankT : List Int := [31, 30, 28, 26, 25, 24, 22, 20, 19, 32, 31, 29, 27, 25, 23, 21, 19, 18, 34, 33, 31, 28, 25, 22, 19, 17, 16, 36, 35, 34, 31, 25, 19, 16, 15, 14, 37, 37, 37, 37, 0, 13, 13, 13, 13, 38, 39, 40, 43, 1, 7, 10, 11, 12, 40, 41, 43, 46, 1, 4, 7, 9, 10, 42, 43, 45, 47, 1, 3, 5, 7, 8, 43, 44, 46, 48, 1, 2, 4, 6, 7]
def rankI (x y : Int) : Int := rankT.getD (((x + 4) * 9 + (y + 4)).toNat) 0
def okAng (ux uy vx vy : Int) : Bool := decide (angI ux uy vx vy = (rankI ux uy - rankI vx vy).sign)
def okPrim (ux uy vx vy : Int) : Bool := let g := (Nat.gcd ux.natAbs uy.natAbs : Int); let h := (Nat.gcd vx.natAbs vy.natAbs : Int); decide (angI ux uy vx vy = 0) == (decide (ux * h = vx * g) && decide (uy * h = vy * g))
def smallZ : List Int := [-4, -3, -2, -1, 0, 1, 2, 3, 4]
def allAng : Bool := smallZ.all fun a => smallZ.all fun b => smallZ.all fun c => smallZ.all fun d => okAng a b c d
def allPrim : Bool := smallZ.all fun a => smallZ.all fun b => smallZ.all fun c => smallZ.all fun d => (a == 0 && b == 0) || (c == 0 && d == 0) || okPrim a b c d
theorem allAng_true : allAng = true := by decide +kernel
theorem allPrim_true : allPrim = true := by decide +kernel
theorem rsg_int (z : Int) : rsg (z : Rat) = z.sign := rfl
theorem hfQ_int (x y : Int) : hfQ (x : Rat) (y : Rat) = hfI x y := rfl
theorem angQ_int (a b c d : Int) : angQ (a : Rat) (b : Rat) (c : Rat) (d : Rat) = angI a b c d := by
  unfold angQ angI
  rw [hfQ_int, hfQ_int, show ((c : Rat) * (b : Rat) - (d : Rat) * (a : Rat)) = ((c * b - d * a : Int) : Rat) by rw [Rat.intCast_sub, Rat.intCast_mul, Rat.intCast_mul], rsg_int]
theorem mem_small {z : Int} (h0 : -4 ≤ z) (h1 : z ≤ 4) : z ∈ smallZ := by
  have h : z = -4 ∨ z = -3 ∨ z = -2 ∨ z = -1 ∨ z = 0 ∨ z = 1 ∨ z = 2 ∨ z = 3 ∨ z = 4 := by omega
  rcases h with h | h | h | h | h | h | h | h | h <;> subst h <;> decide
/-- A small vector. -/
def SV (x y : Int) : Prop := -4 ≤ x ∧ x ≤ 4 ∧ -4 ≤ y ∧ y ≤ 4
theorem ang_rank {a b c d : Int} (h : SV a b) (h' : SV c d) : angI a b c d = (rankI a b - rankI c d).sign := by
  have h1 := List.all_eq_true.1 (List.all_eq_true.1 (List.all_eq_true.1 (List.all_eq_true.1 allAng_true a (mem_small h.1 h.2.1)) b (mem_small h.2.2.1 h.2.2.2)) c (mem_small h'.1 h'.2.1)) d (mem_small h'.2.2.1 h'.2.2.2)
  exact of_decide_eq_true h1
theorem prim_ang {a b c d : Int} (h : SV a b) (h' : SV c d) (hn : ¬ (a = 0 ∧ b = 0)) (hn' : ¬ (c = 0 ∧ d = 0)) :
    decide (angI a b c d = 0) = (decide (a * (Nat.gcd c.natAbs d.natAbs : Int) = c * (Nat.gcd a.natAbs b.natAbs : Int)) && decide (b * (Nat.gcd c.natAbs d.natAbs : Int) = d * (Nat.gcd a.natAbs b.natAbs : Int))) := by
  have h1 := List.all_eq_true.1 (List.all_eq_true.1 (List.all_eq_true.1 (List.all_eq_true.1 allPrim_true a (mem_small h.1 h.2.1)) b (mem_small h.2.2.1 h.2.2.2)) c (mem_small h'.1 h'.2.1)) d (mem_small h'.2.2.1 h'.2.2.2)
  have e1 : (a == 0 && b == 0) = false := by rw [Bool.eq_false_iff]; intro k; rw [Bool.and_eq_true, beq_iff_eq, beq_iff_eq] at k; exact hn k
  have e2 : (c == 0 && d == 0) = false := by rw [Bool.eq_false_iff]; intro k; rw [Bool.and_eq_true, beq_iff_eq, beq_iff_eq] at k; exact hn' k
  rw [e1, e2, Bool.false_or, Bool.false_or] at h1
  exact beq_iff_eq.1 h1
end Go.Proofs.YtfonldogbfkpiaaGreat
