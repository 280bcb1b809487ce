/-
  The contracts of the reference's word and of Div32.
-/
import Derived.Test.YtkhfadfjkmhpgaaDoorProd
namespace Go.Proofs.YtkhfadfjkmhpgaaDoor
open Go.RowKit

set_option maxRecDepth 100000 in
set_option maxHeartbeats 800000 in
theorem nword_small {A : Option Addr} {n c x : Nat} {w : World} (hX : Num w (.slice A n c) x) (h : n ≤ 2) :
    Calls Tryd.prog 42 #[.slice A n c] w fun e w' => e = .returned (.tuple #[.int .u64 (x : Int), .bool true]) ∧ ∃ j, w' = w.drewN j := by
  have hlx := (Raw.cap hX).1
  obtain ⟨d1, e1⟩ : ∃ d, (digs x).getD 1 0 = d := ⟨_, rfl⟩
  obtain ⟨d0, e0⟩ : ∃ d, (digs x).getD 0 0 = d := ⟨_, rfl⟩
  have b1 : d1 < 4294967296 := by rw [← e1]; exact okD_getD (okD_digs x) _
  have b0 : d0 < 4294967296 := by rw [← e0]; exact okD_getD (okD_digs x) _
  have hx2 : x < 18446744073709551616 := by have := lt_of_digs_length (x := x) (k := 2) (by omega); rwa [Bs_two] at this
  have hv : d1 * 4294967296 + d0 = x := by
    rw [← e1, ← e0, digs_digit, digs_digit, Bs_one, Bs_zero]; omega
  have hor := or_shift d1 d0 b1 b0
  rw [hv] at hor
  have c1 : 1 < n → ∃ ad, A = some ad ∧ w.cell? (ad.add 1) = some (.int .u32 (d1 : Int)) := fun h1 => by
    obtain ⟨ad, q1, _, q2⟩ := Raw.at_ (j := 1) hX (by omega)
    exact ⟨ad, q1, by rw [q2, e1]⟩
  have c0 : 0 < n → ∃ ad, A = some ad ∧ w.cell? ad = some (.int .u32 (d0 : Int)) := fun h1 => by
    obtain ⟨ad, q1, _, q2⟩ := Raw.at_ (j := 0) hX (by omega)
    exact ⟨ad, q1, by rw [show ad = ad.add 0 from rfl, q2, e0]⟩
  have hz1 : n ≤ 1 → d1 = 0 := fun h1 => by rw [← e1]; exact getD_of_ge (by omega)
  have hz0 : n = 0 → d0 = 0 := fun h1 => by rw [← e0]; exact getD_of_ge (by omega)
  clear e1 e0
  have h3 : n = 0 ∨ n = 1 ∨ n = 2 := by omega
  rcases h3 with rfl | rfl | rfl
  · have q1 := hz1 (by omega)
    have q0 := hz0 (by omega)
    obtain rfl : x = 0 := by omega
    clear c1 c0 hz1 hz0 hor hv hlx
    go_enter Tryd.func42, Tryd.ntmps42
    go_wp2_with fail
    go_ret2
    exact ⟨rfl, 0, rfl⟩
  · have q1 := hz1 (by omega)
    subst q1
    obtain rfl : d0 = x := by omega
    obtain ⟨ad, rfl, hc⟩ := c0 (by omega)
    clear c1 c0 hz1 hz0 hor hv hlx
    go_enter Tryd.func42, Tryd.ntmps42
    go_wp2_with fail
    go_ret2
    exact ⟨rfl, 0, rfl⟩
  · obtain ⟨ad, rfl, hc⟩ := c0 (by omega)
    obtain ⟨ad', h', hc'⟩ := c1 (by omega)
    injection h' with h'
    subst h'
    have hc2 : w.cell? ⟨ad.block, ad.off + 1, none⟩ = some (.int .u32 (d1 : Int)) := by rw [← hc']; congr 1
    clear c1 c0 hz1 hz0 hv hlx
    go_enter Tryd.func42, Tryd.ntmps42
    go_wp2_with fail
    go_quiet (fail)
    go_wp2_with fail
    go_ret2
    exact ⟨rfl, _, rfl⟩
set_option maxRecDepth 100000 in
theorem nword_big {A : Option Addr} {n c : Nat} {w : World} (h : 2 < n) :
    Calls Tryd.prog 42 #[.slice A n c] w fun e w' => e = .returned (.tuple #[.int .u64 0, .bool false]) ∧ w' = w := by
  have h0 : ((n : Int) == 0) = false := by rw [beq_eq_false_iff_ne]; omega
  have h1 : ((n : Int) == 1) = false := by rw [beq_eq_false_iff_ne]; omega
  have h2 : ((n : Int) == 2) = false := by rw [beq_eq_false_iff_ne]; omega
  clear h
  go_enter Tryd.func42, Tryd.ntmps42
  go_wp2_with fail
  go_ret2
  exact ⟨rfl, rfl⟩
set_option maxRecDepth 100000 in
theorem div32_is (hi lo y : Nat) (hlo : lo < 4294967296) (hy : y < 4294967296) (h : hi < y) (w : World) :
    Calls Tryd.prog 62 #[.int .u32 (hi : Int), .int .u32 (lo : Int), .int .u32 (y : Int)] w fun e w' => e = .returned (.tuple #[.int .u32 (((hi * 4294967296 + lo) / y : Nat) : Int), .int .u32 (((hi * 4294967296 + lo) % y : Nat) : Int)]) ∧ ∃ j, w' = w.drewN j := by
  have h1 : ((y : Int) != 0) = true := by rw [bne_iff_ne]; omega
  have h2 : decide (y ≤ hi) = false := by rw [decide_eq_false_iff_not]; omega
  have h3 : ((y : Int) == 0) = false := by rw [beq_eq_false_iff_ne]; omega
  have hor := or_shift hi lo (by omega) hlo
  have hq : (hi * 4294967296 + lo) / y < 4294967296 := by
    rw [Nat.div_lt_iff_lt_mul (by omega)]
    have : (hi + 1) * 4294967296 ≤ y * 4294967296 := Nat.mul_le_mul_right _ h
    omega
  have hr : (hi * 4294967296 + lo) % y < y := Nat.mod_lt _ (by omega)
  go_enter Tryd.func62, Tryd.ntmps62
  go_wp2_with fail
  go_quiet (fail)
  go_wp2_with fail
  go_ret2
  have f1 : ((hi : Int) * 4294967296 + lo) / y % 4294967296 = (((hi * 4294967296 + lo) / y : Nat) : Int) := by
    rw [show (hi : Int) * 4294967296 + lo = ((hi * 4294967296 + lo : Nat) : Int) by omega, ← Int.natCast_ediv]
    revert hq; generalize (hi * 4294967296 + lo) / y = z; intro hq; omega
  have f2 : ((hi : Int) * 4294967296 + lo) % y % 4294967296 = (((hi * 4294967296 + lo) % y : Nat) : Int) := by
    rw [show (hi : Int) * 4294967296 + lo = ((hi * 4294967296 + lo : Nat) : Int) by omega, ← Int.natCast_emod]
    revert hr; generalize (hi * 4294967296 + lo) % y = z; intro hr; omega
  rw [f1, f2]
  exact ⟨rfl, _, rfl⟩
end Go.Proofs.YtkhfadfjkmhpgaaDoor
