/-
  The contract of Gcd of integers.
-/
import Derived.Test.YtfonldogbfkpiaaGreatK9
import Derived.Test.YtfonldogbfkpiaaGreatK7
namespace Go.Proofs.YtfonldogbfkpiaaGreat
open Go.RowKit

section
variable {A A' : Option Addr} {n n' c c' L L' : Nat} {s s' : Bool} {z z' : Int} {w : World}
set_option maxRecDepth 100000 in
theorem igcd_v (h : RI w s (.slice A n c) z L) (h' : RI w s' (.slice A' n' c') z' L') (hL : L ≤ 1000000) (hL' : L' ≤ 1000000) :
    Calls Tryz.prog 76 #[.agg #[.bool s, .slice A n c], .agg #[.bool s', .slice A' n' c']] w fun e w' => ∃ B k d, e = .returned (.slice B k d) ∧ NV w' (.slice B k d) (Nat.gcd z.natAbs z'.natAbs) (max L L') ∧ Below w.heap.size w w' := by
  have hr := h.rv
  have hr' := h'.rv
  clear h h'
  go_enter Tryz.func76, Tryz.ntmps76
  go_wp2_with fail
  obtain ⟨W, hW, b0, b1, hbW, hsz⟩ := boxes2 w #[.bool s, .slice A n c] #[.bool s', .slice A' n' c'] 28 28
  rw [hW]
  refine (gcd_v (hr.below hbW) (hr'.below hbW) hL hL').mono ?_
  rintro e w' ⟨B, k, d, rfl, hN, hb⟩
  have hbf := hbW.trans (hb.mono hbW.size)
  go_wp2_with fail
  go_returns
  exact ⟨B, k, d, rfl, hN, hbf⟩
end
end Go.Proofs.YtfonldogbfkpiaaGreat
