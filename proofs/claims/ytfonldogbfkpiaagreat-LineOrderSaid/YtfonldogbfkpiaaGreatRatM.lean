/-
  Rational numbers: what a value of the program, and one of the reference, reads as.
-/
import Derived.Test.YtfonldogbfkpiaaGreatK9
import Derived.Test.YtfonldogbfkpiaaGreatK8
import Derived.Test.YtfonldogbfkpiaaGreatFloor
namespace Go.Proofs.YtfonldogbfkpiaaGreat
open Go.RowKit

/-- s, v and u (sign, absolute value of the numerator, denominator) read as q, with at most L digits each; a denominator 0 stands for the number 0. -/
def RQ (w : World) (s : Bool) (v u : Value) (q : Rat) (L : Nat) : Prop := ∃ z d, RI w s v z L ∧ RV w u d L ∧ q = mkRat z d
/-- The same in normal form. -/
def NQ (w : World) (s : Bool) (v u : Value) (q : Rat) (L : Nat) : Prop := NI w s v q.num L ∧ NV w u q.den L
/-- The denominator as the reference writes it: nothing in place of 1. -/
def pden (q : Rat) : Nat := if q.den = 1 then 0 else q.den
/-- The reference's form. -/
def PQ (w : World) (s : Bool) (v u : Value) (q : Rat) (L : Nat) : Prop := NI w s v q.num L ∧ NV w u (pden q) L
/-- The sign of a rational number. -/
def rsg (q : Rat) : Int := q.num.sign

section
variable {w w' : World} {v u : Value} {s : Bool} {q : Rat} {z : Int} {L L' : Nat}
theorem NI.more (h : NI w s v z L) (hL : L ≤ L') : NI w s v z L' := ⟨NV.more h.1 hL, h.2⟩
theorem RI.more (h : RI w s v z L) (hL : L ≤ L') : RI w s v z L' := by
  obtain ⟨x, h1, h2⟩ := h; exact ⟨x, RV.more h1 hL, h2⟩
theorem NQ.rq (h : NQ w s v u q L) : RQ w s v u q L := ⟨q.num, q.den, h.1.ri, h.2.rv, (Rat.mkRat_self q).symm⟩
theorem NQ.below (h : NQ w s v u q L) (hb : Below w.heap.size w w') : NQ w' s v u q L := ⟨h.1.below hb, h.2.below hb⟩
theorem PQ.below (h : PQ w s v u q L) (hb : Below w.heap.size w w') : PQ w' s v u q L := ⟨h.1.below hb, h.2.below hb⟩
theorem RQ.below (h : RQ w s v u q L) (hb : Below w.heap.size w w') : RQ w' s v u q L := by
  obtain ⟨z, d, h1, h2, h3⟩ := h; exact ⟨z, d, h1.below hb, h2.below hb, h3⟩
theorem RQ.more (h : RQ w s v u q L) (hL : L ≤ L') : RQ w s v u q L' := by
  obtain ⟨z, d, h1, h2, h3⟩ := h; exact ⟨z, d, h1.more hL, h2.more hL, h3⟩
theorem NQ.more (h : NQ w s v u q L) (hL : L ≤ L') : NQ w s v u q L' := ⟨h.1.more hL, NV.more h.2 hL⟩
theorem PQ.more (h : PQ w s v u q L) (hL : L ≤ L') : PQ w s v u q L' := ⟨h.1.more hL, NV.more h.2 hL⟩
theorem RQ.flip (h : RQ w s v u q L) : RQ w (!s) v u (-q) L := by
  obtain ⟨z, d, h1, h2, h3⟩ := h
  exact ⟨-z, d, h1.flip, h2, by rw [h3, Rat.neg_mkRat]⟩
end
theorem gcd_abs_dvd (z : Int) (d : Nat) : ((Nat.gcd z.natAbs d : Nat) : Int) ∣ z := Int.ofNat_dvd_left.2 (Nat.gcd_dvd_left _ _)
theorem mk_num {z : Int} {d : Nat} (hd : d ≠ 0) : (mkRat z d).num = z / ((Nat.gcd z.natAbs d : Nat) : Int) := by
  rw [Rat.num_mkRat, if_neg hd, Nat.gcd_comm]
theorem mk_abs {z : Int} {d : Nat} (hd : d ≠ 0) : (mkRat z d).num.natAbs = z.natAbs / Nat.gcd z.natAbs d := by
  rw [mk_num hd]
  have h := gcd_abs_dvd z d
  rw [Int.natAbs_ediv_of_dvd h, Int.natAbs_natCast]
theorem mk_den {z : Int} {d : Nat} (hd : d ≠ 0) : (mkRat z d).den = d / Nat.gcd z.natAbs d := by
  rw [Rat.den_mkRat, if_neg hd, Nat.gcd_comm]
theorem mk_sg {s : Bool} {z : Int} {d : Nat} (hd : d ≠ 0) (h : z = sg s z.natAbs) : sg s (z.natAbs / Nat.gcd z.natAbs d) = (mkRat z d).num := by
  rw [← mk_abs hd]
  have hg : 0 < Nat.gcd z.natAbs d := Nat.gcd_pos_of_pos_right _ (Nat.pos_of_ne_zero hd)
  have h1 : 0 ≤ z → 0 ≤ (mkRat z d).num := fun h0 => by rw [mk_num hd]; exact Int.ediv_nonneg h0 (by omega)
  have h2 : z ≤ 0 → (mkRat z d).num ≤ 0 := fun h0 => by
    rw [mk_num hd]
    obtain ⟨k, hk⟩ := gcd_abs_dvd z d
    generalize Nat.gcd z.natAbs d = g at hg hk
    rw [hk, Int.mul_ediv_cancel_left _ (by omega)]
    rcases Int.lt_or_le 0 k with hk0 | hk0
    · have := Int.mul_pos (show (0 : Int) < (g : Int) by omega) hk0; omega
    · exact hk0
  cases s
  · rw [sg_false] at h ⊢; have := h1 (by omega); omega
  · rw [sg_true] at h ⊢; have := h2 (by omega); omega
theorem mk_lt {z : Int} {d L : Nat} (hd : d ≠ 0) (hz : z.natAbs < Bs L) : (mkRat z d).num.natAbs < Bs L := by
  rw [mk_abs hd]; exact Nat.lt_of_le_of_lt (Nat.div_le_self _ _) hz
theorem mk_dlt {z : Int} {d L : Nat} (hd : d ≠ 0) (hz : d < Bs L) : (mkRat z d).den < Bs L := by
  rw [mk_den hd]; exact Nat.lt_of_le_of_lt (Nat.div_le_self _ _) hz
theorem rsg_zero : rsg 0 = 0 := rfl
theorem rsg_mk {z : Int} {d : Nat} (hd : d ≠ 0) : rsg (mkRat z d) = z.sign := by
  unfold rsg
  rcases sign_cases z with ⟨h, h'⟩ | ⟨h, h'⟩ | ⟨h, h'⟩
  · rw [h']
    have := mk_sg (s := true) (z := z) hd (by rw [sg_true]; omega)
    rw [sg_true] at this
    generalize z.natAbs / Nat.gcd z.natAbs d = m at this
    have h0 : mkRat z d ≠ 0 := (Rat.mkRat_ne_zero hd).2 (by omega)
    have h1 : (mkRat z d).num ≠ 0 := fun h => h0 (Rat.num_eq_zero.1 h)
    exact Int.sign_eq_neg_one_of_neg (by omega)
  · subst h; simp
  · rw [h']
    have := mk_sg (s := false) (z := z) hd (by rw [sg_false]; omega)
    rw [sg_false] at this
    generalize z.natAbs / Nat.gcd z.natAbs d = m at this
    have h0 : mkRat z d ≠ 0 := (Rat.mkRat_ne_zero hd).2 (by omega)
    have h1 : (mkRat z d).num ≠ 0 := fun h => h0 (Rat.num_eq_zero.1 h)
    exact Int.sign_eq_one_of_pos (by omega)
theorem rsg_sub {z z' : Int} {d d' : Nat} (hd : d ≠ 0) (hd' : d' ≠ 0) : rsg (mkRat z d - mkRat z' d') = (z * d' - z' * d).sign := by
  have h : mkRat z d - mkRat z' d' = mkRat (z * d' - z' * d) (d * d') := by
    rw [Rat.sub_eq_add_neg, Rat.neg_mkRat, Rat.mkRat_add_mkRat _ _ hd hd', Int.neg_mul, ← Int.sub_eq_add_neg]
  rw [h, rsg_mk (Nat.mul_ne_zero hd hd')]
theorem rsg_eq_zero {q : Rat} : rsg q = 0 ↔ q = 0 := by
  unfold rsg; rw [Int.sign_eq_zero_iff_zero, Rat.num_eq_zero]
end Go.Proofs.YtfonldogbfkpiaaGreat
