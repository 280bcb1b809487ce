/-
  Sets of intervals as a start and ascending numbers at which they turn; nothing here speaks of the program.
-/
import Derived.Test.YthmmnmajkeoaaabGreatDoorOR1
namespace Go.Proofs.YthmmnmajkeoaaabGreatDoor

/-- A span: no bound where there is none. -/
structure Sp where
  lo : Option Rat
  hi : Option Rat
theorem low (l : List Rat) : ∃ a, ∀ u ∈ l, a < u := by
  induction l with
  | nil => exact ⟨0, fun u hu => by cases hu⟩
  | cons v l ih =>
    obtain ⟨a, h⟩ := ih
    by_cases hv : a < v
    · exact ⟨a, fun u hu => by
        rcases List.mem_cons.1 hu with rfl | hu
        · exact hv
        · exact h u hu⟩
    · exact ⟨v - 1, fun u hu => by
        rcases List.mem_cons.1 hu with rfl | hu
        · grind
        · have := h u hu; grind⟩
end Go.Proofs.YthmmnmajkeoaaabGreatDoor
