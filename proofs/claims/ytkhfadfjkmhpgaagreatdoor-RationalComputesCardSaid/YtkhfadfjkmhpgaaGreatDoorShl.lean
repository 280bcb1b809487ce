/-
  The contract of Shl.
-/
import Derived.Test.YtkhfadfjkmhpgaaGreatDoorShift2
namespace Go.Proofs.YtkhfadfjkmhpgaaGreatDoor
open Go.RowKit
section
variable {A : Option Addr} {n c x L : Nat} {w : World}
set_option maxRecDepth 100000 in
theorem shl_v (hx : RV w (.slice A n c) x L) (hL : L ≤ 1000000) (k : Nat) (hk : k ≤ 5000) :
    Calls Tryz.prog 83 #[.slice A n c, .int .u64 (k : Int)] w fun e w' => ∃ B m d, e = .returned (.slice B m d) ∧ NV w' (.slice B m d) (x * 2 ^ k) (L + 200) ∧ Below w.heap.size w w' := by
  have hb : x * 2 ^ k < Bs (L + 200) := by
    have h1 := hx.lt
    have hk2 : k ≤ 32 * 200 := by omega
    have h2 : 2 ^ k ≤ Bs 200 := pow_le_Bs hk2
    rw [Bs_add]
    exact Nat.lt_of_lt_of_le (Nat.mul_lt_mul_of_pos_right h1 (Nat.pow_pos (by omega))) (Nat.mul_le_mul_left _ h2)
  obtain ⟨ds, h1, h2, h3⟩ := hx
  have hmin : ∀ W : World, (Builtin.min_ #[107, 107] 107 #[.int .u64 (k : Int), .int .u64 1048576]).run Tryz.prog W = .ok (.int .u64 (k : Int)) W := fun W => by
    rw [run_min_int2]; congr 2; split <;> omega
  have HB := Lib.hid hb
  have HS := Lib.hid (shl_is h1 (Lib.hid h2) k (by omega) (by omega))
  clear hb h2
  go_enter Tryz.func83, Tryz.ntmps83
  go_wp2_with fail
  refine HS.out.mono ?_
  rintro e w' ⟨B, m, d, rfl, hN, hbl⟩
  go_wp2_with fail
  go_ret
  exact ⟨_, _, _, rfl, ⟨hN, HB.out⟩, hbl⟩
end
end Go.Proofs.YtkhfadfjkmhpgaaGreatDoor
