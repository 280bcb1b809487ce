/-
  An argument that is a natural number, read as digits.
-/
import Derived.Test.YtancgkmkbgkncaaGreatUEM
namespace Go.Proofs.YtancgkmkbgkncaaGreat
open Go.RowKit

theorem wf_u32 {z : Int} (h : (Lit.int .u32 z).wf = true) : ∃ u : Nat, z = (u : Int) ∧ u < 4294967296 := by
  simp [Lit.wf, IntKind.min, IntKind.max, IntKind.bits, IntKind.signed] at h
  exact ⟨z.toNat, by omega, by omega⟩
theorem raw_of_cells {W : World} {A : Option Addr} {n c : Nat} (hnc : n ≤ c) (hcell : ∀ j, j < n → ∃ ad z, A = some ad ∧ ad.block < W.heap.size ∧ W.cell? (ad.add j) = some (.int .u32 z) ∧ (Lit.int .u32 z).wf = true) (hn : n ≤ 1000000000) : ∃ ds, Raw W (.slice A n c) ds := by
  have key : ∀ k, k ≤ n → ∃ ds : List Nat, ds.length = k ∧ OkD ds ∧ ∀ j, j < k → ∃ ad, A = some ad ∧ ad.block < W.heap.size ∧ W.cell? (ad.add j) = some (.int .u32 (ds.getD j 0 : Nat)) := by
    intro k
    induction k with
    | zero => intro _; exact ⟨[], rfl, okD_nil, fun j hj => by omega⟩
    | succ k ih =>
      intro hk
      obtain ⟨ds, h1, h2, h3⟩ := ih (by omega)
      obtain ⟨ad, z, e1, e2, e3, e4⟩ := hcell k (by omega)
      obtain ⟨u, rfl, hu⟩ := wf_u32 e4
      refine ⟨ds ++ [u], by simp [h1], okD_append.2 ⟨h2, okD_cons.2 ⟨hu, okD_nil⟩⟩, fun j hj => ?_⟩
      rcases Nat.lt_or_ge j k with hlt | hge
      · obtain ⟨ad', f1, f2, f3⟩ := h3 j hlt
        refine ⟨ad', f1, f2, f3.trans ?_⟩
        rw [List.getD_eq_getElem?_getD, List.getD_eq_getElem?_getD, List.getElem?_append_left (by omega)]
      · obtain rfl : j = k := by omega
        refine ⟨ad, e1, e2, e3.trans ?_⟩
        rw [List.getD_eq_getElem?_getD, List.getElem?_append_right (by omega), h1]
        simp
  obtain ⟨ds, h1, h2, h3⟩ := key n (Nat.le_refl n)
  exact ⟨ds, h2, by omega, A, c, by rw [h1], by omega, fun j hj => h3 j (by omega)⟩
end Go.Proofs.YtancgkmkbgkncaaGreat
