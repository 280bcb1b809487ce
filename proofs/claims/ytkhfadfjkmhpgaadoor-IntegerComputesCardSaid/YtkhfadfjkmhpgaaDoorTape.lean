/-
  The tape of ints from which the laws make their numbers.
-/
import Derived.Test.YtkhfadfjkmhpgaaDoorBase
namespace Go.Proofs.YtkhfadfjkmhpgaaDoor
open Go.RowKit

theorem ret_i64 {a b : Int} (h : a = b) : Ending.returned (.int .i64 a) = .returned (.int .i64 b) := by rw [h]

/-- Block b is a tape over ints that lie in other blocks. -/
def Tape (w : World) (b : Nat) : Prop := ∃ (A : Option Addr) (n c t : Nat), w.heap[b]? = some (.cells #[.slice A n c, .int .i64 (t : Int)] 52 (0, 0)) ∧ n ≤ 400 ∧ n ≤ c ∧ t ≤ 1000 ∧
  ∀ j, j < n → ∃ ad z, A = some ad ∧ ad.block < b ∧ w.cell? (ad.add j) = some (.int .i64 z)

theorem Tape.keep {w w' : World} {b B : Nat} (h : Tape w b) (hb : Below B w w') (hB : b < B) : Tape w' b := by
  obtain ⟨A, n, c, t, h1, h2, h3, h4, h5⟩ := h
  refine ⟨A, n, c, t, (hb.block b hB).trans h1, h2, h3, h4, fun j hj => ?_⟩
  obtain ⟨ad, z, e1, e2, e4⟩ := h5 j hj
  exact ⟨ad, z, e1, e2, (hb.cell (by rw [addr_add_block]; omega)).trans e4⟩

theorem tape_step {w : World} {b : Nat} {A : Option Addr} {n c t : Nat} (h1 : w.heap[b]? = some (.cells #[.slice A n c, .int .i64 (t : Int)] 52 (0, 0))) (h2 : n ≤ 400) (h3 : n ≤ c) (ht : t < n)
    (h5 : ∀ j, j < n → ∃ ad z, A = some ad ∧ ad.block < b ∧ w.cell? (ad.add j) = some (.int .i64 z)) : Tape (w.setCell ⟨b, 1, none⟩ (.int .i64 ((t : Int) + 1))) b := by
  refine ⟨A, n, c, t + 1, ?_, h2, h3, by omega, fun j hj => ?_⟩
  · rw [heap_setCell_same w b 1 _ _ _ h1]; simp
  · obtain ⟨ad, z, e1, e2, e4⟩ := h5 j hj
    refine ⟨ad, z, e1, e2, ?_⟩
    rw [World.cell?_of_block (Below.heap_setCell w _ _ _ (by rw [addr_add_block]; exact Nat.ne_of_lt e2))]
    exact e4
theorem only_setCell1 {w : World} (b : Nat) (u : Value) (j : Nat) : w.grownBy ((w.drewN j).setCell ⟨b, 1, none⟩ u) (some b) :=
  ⟨rfl, rfl, rfl, by simp [World.setCell], fun i _ hne => Below.heap_setCell (w.drewN j) ⟨b, 1, none⟩ u i (by rintro rfl; exact hne rfl)⟩

set_option maxRecDepth 100000 in
set_option maxHeartbeats 400000 in
theorem next_any {b : Nat} {w : World} (m : Nat) (hm : 0 < m) (hm2 : m ≤ 1000000) (h : Tape w b) :
    Calls Tryd.prog 25 #[.pointer (some ⟨b, 0, none⟩), .int .i64 (m : Int)] w fun e w' => ∃ r : Nat, e = .returned (.int .i64 (r : Int)) ∧ r < m ∧ Tape w' b ∧ w.grownBy w' (some b) := by
  obtain ⟨A, n, c, t, hblk, hn, hc, ht, hcells⟩ := h
  have c0 : w.cell? ⟨b, 0, none⟩ = some (.slice A n c) := cell_of_row w b 0 _ _ _ hblk
  have c1 : w.cell? ⟨b, 1, none⟩ = some (.int .i64 (t : Int)) := cell_of_row w b 1 _ _ _ hblk
  have f1 : w.frozen? ⟨b, 1, none⟩ = false := frozen_of_row w b 1 _ _ hblk
  rcases Nat.lt_or_ge t n with hlt | hge
  · obtain ⟨ad, z, hA, hb, hcz⟩ := hcells t hlt
    subst hA
    have hst := tape_step hblk hn hc hlt hcells
    have HB := Lib.hid hblk
    have HC := Lib.hid hcells
    clear hblk hcells
    have hz1 : z.tmod (m : Int) < (m : Int) := Int.tmod_lt_of_pos z (by omega)
    have hz2 : -(m : Int) < z.tmod (m : Int) := Int.lt_tmod_of_pos z (by omega)
    by_cases hneg : z.tmod (m : Int) < 0
    · go_enter Tryd.func25, Tryd.ntmps25
      go_wp2_with fail
      go_quiet (fail)
      go_wp2_with fail
      go_quiet (fail)
      go_wp2_with fail
      go_ret
      exact ⟨(z.tmod (m : Int) + (m : Int)).toNat, ret_i64 (by omega), by omega, hst, only_setCell1 b _ _⟩
    · go_enter Tryd.func25, Tryd.ntmps25
      go_wp2_with fail
      go_quiet (fail)
      go_wp2_with fail
      go_quiet (fail)
      go_wp2_with fail
      go_ret
      exact ⟨(z.tmod (m : Int)).toNat, ret_i64 (by omega), by omega, hst, only_setCell1 b _ _⟩
  · have HB := Lib.hid hblk
    have HC := Lib.hid hcells
    clear hblk hcells
    go_enter Tryd.func25, Tryd.ntmps25
    go_wp2_with fail
    go_quiet (fail)
    go_wp2_with fail
    go_ret
    exact ⟨0, rfl, hm, ⟨A, n, c, t, HB.out, hn, hc, ht, HC.out⟩, ⟨rfl, rfl, rfl, Nat.le_refl _, fun _ _ _ => rfl⟩⟩
end Go.Proofs.YtkhfadfjkmhpgaaDoor
