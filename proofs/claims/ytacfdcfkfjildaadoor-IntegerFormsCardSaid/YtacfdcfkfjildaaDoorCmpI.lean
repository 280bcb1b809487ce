/-
  Cmp and Sign of integers, with a name for what they answer.
-/
import Derived.Test.YtacfdcfkfjildaaDoorMade2
namespace Go.Proofs.YtacfdcfkfjildaaDoor
open Go.RowKit

section
variable {A A' : Option Addr} {n n' c c' L L' : Nat} {s s' : Bool} {z z' k : Int} {w : World}
theorem icmp_is (h : RI w s (.slice A n c) z L) (h' : RI w s' (.slice A' n' c') z' L') (hk : (z - z').sign = k) :
    Calls Tryd.prog 55 #[.agg #[.bool s, .slice A n c], .agg #[.bool s', .slice A' n' c']] w fun e w' => e = .returned (.int .i64 k) ∧ Below w.heap.size w w' := by
  subst hk; exact icmp_v h h'
theorem icmp_eq (h : RI w s (.slice A n c) z L) (h' : RI w s' (.slice A' n' c') z' L') (he : z = z') :
    Calls Tryd.prog 55 #[.agg #[.bool s, .slice A n c], .agg #[.bool s', .slice A' n' c']] w fun e w' => e = .returned (.int .i64 0) ∧ Below w.heap.size w w' :=
  icmp_is h h' (by rw [he, Int.sub_self]; rfl)
theorem isign_is (h : RI w s (.slice A n c) z L) (hk : z.sign = k) :
    Calls Tryd.prog 53 #[.agg #[.bool s, .slice A n c]] w fun e w' => e = .returned (.int .i64 k) ∧ Below w.heap.size w w' := by
  subst hk; exact isign_v h
end
end Go.Proofs.YtacfdcfkfjildaaDoor
