/-
  The walk of the law IntegerTexts.
-/
import Derived.Test.YtlpgbflajcfgpaaGreatDoorK11
namespace Go.Proofs.YtlpgbflajcfgpaaGreatDoor
open Go.RowKit

theorem Ints.below {w w' : World} {v : Value} (h : Ints w v) (hb : Below w.heap.size w w') : Ints w' v := by
  obtain ⟨A, n, c, e, h1, h2, h3⟩ := h
  refine ⟨A, n, c, e, h1, h2, fun j hj => ?_⟩
  obtain ⟨ad, z, e1, e2, e3⟩ := h3 j hj
  exact ⟨ad, z, e1, Nat.lt_of_lt_of_le e2 hb.size, (hb.cell (p := ad.add j) (by unfold Addr.add; split <;> exact e2)).trans e3⟩
theorem itoa_len {z : Int} {L : Nat} (h : z.natAbs < Bs L) : (itoaB z).length ≤ 10 * L + 2 := by
  unfold itoaB
  have h1 := decT_len h
  rw [List.length_append]
  split <;> simp <;> omega
end Go.Proofs.YtlpgbflajcfgpaaGreatDoor
