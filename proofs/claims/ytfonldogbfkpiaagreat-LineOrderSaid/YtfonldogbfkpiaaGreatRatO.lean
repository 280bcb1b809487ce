/-
  The contracts of the reference's quotients.
-/
import Derived.Test.YtfonldogbfkpiaaGreatRatR
import Derived.Deep.Cut
namespace Go.Proofs.YtfonldogbfkpiaaGreat
open Go.RowKit

section
variable {A0 A1 A2 A3 D0 D1 D2 D3 : Option Addr} {n0 n1 n2 n3 c0 c1 c2 c3 m0 m1 m2 m3 e0 e1 e2 e3 : Nat} {s0 s1 s2 s3 : Bool} {z z' z0 z1 z2 : Int} {q q' q0 q1 q2 : Rat} {L L0 L1 L2 x x0 x1 y : Nat} {k : Int} {w : World}
theorem over_mk {q q' : Rat} {s : Bool} (hs : s = decide (q'.num < 0)) : mkRat (q.num * sg s q'.den) (q.den * q'.num.natAbs) = q / q' := by
  have h0 : q / q' = mkRat q.num q.den / mkRat q'.num q'.den := by rw [Rat.mkRat_self, Rat.mkRat_self]
  rw [h0, div_mk]
  have hsg : q'.num = sg s q'.num.natAbs := by
    subst hs
    by_cases h : q'.num < 0
    · rw [decide_eq_true h, sg_true]; omega
    · rw [decide_eq_false h, sg_false]; omega
  generalize q'.num.natAbs = m at hsg ⊢
  rw [hsg]
  cases s
  · rw [sg_false, sg_false, ← Rat.divInt_ofNat, Int.natCast_mul, Int.mul_comm (m : Int)]
  · rw [sg_true, sg_true, Int.neg_mul, Rat.divInt_neg', ← Rat.divInt_ofNat, Int.natCast_mul, Int.mul_comm (m : Int), Int.mul_neg]
theorem over_ne {q' : Rat} (h : q' ≠ 0) : q'.num.natAbs ≠ 0 := fun h1 => h (Rat.num_eq_zero.1 (by omega))
end
end Go.Proofs.YtfonldogbfkpiaaGreat
