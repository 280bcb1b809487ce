/-
  The walk of the law natshifts, out of the contracts of what it calls.
-/
import Derived.Test.YtlkbfcljekgniaaDoorLeft
namespace Go.Proofs.YtlkbfcljekgniaaDoor
open Go.RowKit

theorem div_pow_min {x k m i : Nat} (hx : x < Bs i) (hm : 32 * i ≤ m) : x / 2 ^ k = x / 2 ^ (min k m) := by
  rcases Nat.lt_or_ge m k with h | h
  · have h1 : ∀ q, m ≤ q → x / 2 ^ q = 0 := fun q hq => Nat.div_eq_of_lt (Nat.lt_of_lt_of_le hx (by rw [Bs_pow]; exact Nat.pow_le_pow_right Nat.two_pos (Nat.le_trans hm hq)))
    rw [h1 k (Nat.le_of_lt h), Nat.min_eq_right (Nat.le_of_lt h), h1 m (Nat.le_refl m)]
  · rw [Nat.min_eq_left h]

set_option maxRecDepth 100000 in
set_option maxHeartbeats 4000000 in
theorem natshifts_any {A : Option Addr} {n c : Nat} {w : World} (HA : n ≤ 40 → ∃ ds, Raw w (.slice A n c) ds) (u : Nat) (hu : u < 18446744073709551616) : Calls Tryd.prog 7 #[.slice A n c, .int .u64 (u : Int)] w fun e w' => e = .returned (.bool true) ∧ Below w.heap.size w w' := by
  have hc0 : (w.alloc (.cells #[.slice A n c] 23)).cell? ⟨w.heap.size, 0, none⟩ = some (.slice A n c) := by rw [World.cell?_alloc_at _ _ _ _ rfl]; rfl
  have H0 := below_alloc w (.cells #[.slice A n c] 23)
  have HC := Lib.hid hc0
  clear hc0
  rcases Nat.lt_or_ge 40 n with h40 | h40
  · go_enter Tryd.func7, Tryd.ntmps7
    go_wp2_with fail
    refine (small_no HC.out h40).mono ?_
    rintro e w0 ⟨rfl, rfl⟩
    go_wp2_with fail
    refine (known_any _).mono ?_
    rintro e w1 ⟨rfl, hb⟩
    replace H0 := H0.trans (hb.mono H0.size)
    clear hb
    go_wp2_with fail
    go_ret
    exact ⟨rfl, H0⟩
  · obtain ⟨ds, hraw0⟩ := HA h40
    have hdl : ds.length ≤ 40 := by rw [← hraw0.cap.1]; exact h40
    obtain ⟨x, hx⟩ : ∃ x, val ds = x := ⟨_, rfl⟩
    have fr : Raw w (.slice A n c) ds := hraw0
    replace fr := fr.below H0
    have fa : RV (w.alloc (.cells #[.slice A n c] 23)) (.slice A n c) x 40 := ⟨ds, fr, hx, hdl⟩
    clear hx hraw0 HA fr
    obtain ⟨kk, hkk⟩ : ∃ kk, min u 1048576 = kk := ⟨_, rfl⟩
    have hkb : kk ≤ 1048576 := by omega
    have hmin : ∀ W : World, (Builtin.min_ #[32, 32] 32 #[.int .u64 (u : Int), .int .u64 1048576]).run Tryd.prog W = .ok (.int .u64 (kk : Int)) W := fun W => by rw [run_min_int2]; congr 2; split <;> omega
    have hdiv : x / 2 ^ u = x / 2 ^ kk := by rw [← hkk]; exact div_pow_min fa.lt (by omega)
    have HDV := Lib.hid hdiv
    clear hdiv hkk
    go_enter Tryd.func7, Tryd.ntmps7
    go_wp2_with fail
    refine (small_yes HC.out h40).mono ?_
    rintro e w0 ⟨rfl, rfl⟩
    clear HC
    go_wp2_with fail
    refine (n_v fa).mono ?_
    rintro e w1 ⟨B1a, k1a, d1a, rfl, fx, hb⟩
    replace fa := fa.below hb
    replace H0 := H0.trans (hb.mono H0.size)
    clear hb
    go_wp2_with fail
    refine (bits_v fa).mono ?_
    rintro e w2 ⟨rfl, hb⟩
    replace fa := fa.below hb
    replace fx := fx.below hb
    replace H0 := H0.trans (hb.mono H0.size)
    clear hb
    go_wp2_with fail
    refine (nbits_v fx).mono ?_
    rintro e w3 ⟨rfl, hb⟩
    replace fa := fa.below hb
    replace fx := fx.below hb
    replace H0 := H0.trans (hb.mono H0.size)
    clear hb
    generalize bitsN x = bn
    go_wp2_with fail
    refine (shr_v fa u hu).mono ?_
    rintro e w4 ⟨B4a, k4a, d4a, rfl, f1, hb⟩
    replace fa := fa.below hb
    replace fx := fx.below hb
    replace H0 := H0.trans (hb.mono H0.size)
    clear hb
    go_wp2_with fail
    refine (right_v fx kk hkb).mono ?_
    rintro e w5 ⟨B5a, k5a, d5a, rfl, f2, hb⟩
    replace fa := fa.below hb
    replace fx := fx.below hb
    replace f1 := f1.below hb
    replace H0 := H0.trans (hb.mono H0.size)
    clear hb
    go_wp2_with fail
    refine (samelaw_v f1 f2 HDV.out (by omega)).mono ?_
    rintro e w6 ⟨rfl, hb⟩
    replace fa := fa.below hb
    replace fx := fx.below hb
    replace f1 := f1.below hb
    replace f2 := f2.below hb
    replace H0 := H0.trans (hb.mono H0.size)
    clear hb
    clear f1 f2
    clear hmin hkb
    rcases Nat.lt_or_ge 5000 u with h5 | h5
    · go_wp2_with fail
      refine (known_any _).mono ?_
      rintro e w7 ⟨rfl, hb⟩
      replace fa := fa.below hb
      replace fx := fx.below hb
      replace H0 := H0.trans (hb.mono H0.size)
      clear hb
      go_wp2_with fail
      go_ret
      exact ⟨rfl, H0⟩
    · go_wp2_with fail
      refine (known_any _).mono ?_
      rintro e w7 ⟨rfl, hb⟩
      replace fa := fa.below hb
      replace fx := fx.below hb
      replace H0 := H0.trans (hb.mono H0.size)
      clear hb
      go_wp2_with fail
      refine (shl_v fa (by omega) u h5).mono ?_
      rintro e w8 ⟨B8a, k8a, d8a, rfl, f3, hb⟩
      replace fa := fa.below hb
      replace fx := fx.below hb
      replace H0 := H0.trans (hb.mono H0.size)
      clear hb
      go_wp2_with fail
      refine (left_v fx (by omega) u h5).mono ?_
      rintro e w9 ⟨B9a, k9a, d9a, rfl, f4, hb⟩
      replace fa := fa.below hb
      replace fx := fx.below hb
      replace f3 := f3.below hb
      replace H0 := H0.trans (hb.mono H0.size)
      clear hb
      go_wp2_with fail
      refine (samelaw_v f3 f4 rfl (by omega)).mono ?_
      rintro e w10 ⟨rfl, hb⟩
      replace fa := fa.below hb
      replace fx := fx.below hb
      replace f3 := f3.below hb
      replace f4 := f4.below hb
      replace H0 := H0.trans (hb.mono H0.size)
      clear hb
      go_wp2_with fail
      go_ret
      exact ⟨rfl, H0⟩
end Go.Proofs.YtlkbfcljekgniaaDoor
