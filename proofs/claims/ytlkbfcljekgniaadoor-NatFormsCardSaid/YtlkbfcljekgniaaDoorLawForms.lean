/-
  The walk of the law natforms, out of the contracts of what it calls.
-/
import Derived.Test.YtlkbfcljekgniaaDoorForms
namespace Go.Proofs.YtlkbfcljekgniaaDoor
open Go.RowKit

set_option maxRecDepth 100000 in
set_option maxHeartbeats 4000000 in
theorem natforms_any {A : Option Addr} {n c : Nat} {w : World} (HA : n ≤ 40 → ∃ ds, Raw w (.slice A n c) ds) (u : Nat) (hu : u < 18446744073709551616) : Calls Tryd.prog 3 #[.slice A n c, .int .u64 (u : Int)] w fun e w' => e = .returned (.bool true) ∧ Below w.heap.size w w' := by
  have hc0 : (w.alloc (.cells #[.slice A n c] 23)).cell? ⟨w.heap.size, 0, none⟩ = some (.slice A n c) := by rw [World.cell?_alloc_at _ _ _ _ rfl]; rfl
  have H0 := below_alloc w (.cells #[.slice A n c] 23)
  have HC := Lib.hid hc0
  clear hc0
  rcases Nat.lt_or_ge 40 n with h40 | h40
  · go_enter Tryd.func3, Tryd.ntmps3
    go_wp2_with fail
    refine (small_no HC.out h40).mono ?_
    rintro e w0 ⟨rfl, rfl⟩
    go_wp2_with fail
    refine (known_any _).mono ?_
    rintro e w1 ⟨rfl, hb⟩
    replace H0 := H0.trans (hb.mono H0.size)
    clear hb
    go_wp2_with fail
    go_ret
    exact ⟨rfl, H0⟩
  · obtain ⟨ds, hraw0⟩ := HA h40
    have hdl : ds.length ≤ 40 := by rw [← hraw0.cap.1]; exact h40
    obtain ⟨x, hx⟩ : ∃ x, val ds = x := ⟨_, rfl⟩
    have fr : Raw w (.slice A n c) ds := hraw0
    replace fr := fr.below H0
    have fa : RV (w.alloc (.cells #[.slice A n c] 23)) (.slice A n c) x 40 := ⟨ds, fr, hx, hdl⟩
    clear hx hraw0 HA
    go_enter Tryd.func3, Tryd.ntmps3
    go_wp2_with fail
    refine (small_yes HC.out h40).mono ?_
    rintro e w0 ⟨rfl, rfl⟩
    clear HC
    go_wp2_with fail
    refine (n_v fa).mono ?_
    rintro e w1 ⟨B1a, k1a, d1a, rfl, fx, hb⟩
    replace fr := fr.below hb
    replace fa := fa.below hb
    replace H0 := H0.trans (hb.mono H0.size)
    clear hb
    have hkx := (Raw.cap fx.1).1
    obtain ⟨Bx, cx, hfx, hcx⟩ := fx.1.form
    clear hfx hcx Bx cx
    rcases Nat.lt_or_ge x 18446744073709551616 with hx64 | hx64
    · have hk2 : k1a ≤ 2 := by rw [hkx]; exact digs_length_le (by rw [Bs_two]; exact hx64)
      have HKX := Lib.hid hkx
      have HX64 := Lib.hid hx64
      clear hkx hx64
      go_wp2_with fail
      refine (uint_small fa HX64.out).mono ?_
      rintro e w2 ⟨rfl, hb⟩
      replace fr := fr.below hb
      replace fa := fa.below hb
      replace fx := fx.below hb
      replace H0 := H0.trans (hb.mono H0.size)
      clear hb
      go_wp2_with fail
      refine (fromuint_v u hu _).mono ?_
      rintro e w3 ⟨B3a, k3a, d3a, rfl, f1, hb⟩
      replace fr := fr.below hb
      replace fa := fa.below hb
      replace fx := fx.below hb
      replace H0 := H0.trans (hb.mono H0.size)
      clear hb
      go_wp2_with fail
      refine (uint_small f1.rv hu).mono ?_
      rintro e w4 ⟨rfl, hb⟩
      replace fr := fr.below hb
      replace fa := fa.below hb
      replace fx := fx.below hb
      replace f1 := f1.below hb
      replace H0 := H0.trans (hb.mono H0.size)
      clear hb
      go_wp2_with fail
      go_loop [10, 11] (fun wv iv => ∃ (k t : Nat), iv = .int .i64 ((k : Int) - 1) ∧ wv = .int .u64 t ∧ k ≤ k1a ∧ t = x / Bs k) (fun _ iv => (intOf iv + 1).toNat)
      case atStart => exact ⟨k1a, 0, rfl, rfl, Nat.le_refl _, by rw [HKX.out, Nat.div_eq_of_lt (lt_of_digs_length (Nat.le_refl _))]⟩
      case round =>
        obtain ⟨k, t, rfl, rfl, hk, ht⟩ := hrel
        have HT := Lib.hid ht
        clear ht
        rcases Nat.eq_zero_or_pos k with rfl | hk0
        · have htx : t = x := by rw [HT.out, Bs_zero, Nat.div_one]
          subst htx
          have e0 : ((0 : Nat) : Int) - 1 = -1 := by omega
          rw [e0]
          clear e0
          go_wp2_with fail
          refine (known_any _).mono ?_
          rintro e w5 ⟨rfl, hb⟩
          replace fr := fr.below hb
          replace fa := fa.below hb
          replace fx := fx.below hb
          replace f1 := f1.below hb
          replace H0 := H0.trans (hb.mono H0.size)
          clear hb
          go_wp2_with fail
          refine (norm_v fa (by omega)).mono ?_
          rintro e w6 ⟨B6a, k6a, d6a, rfl, f2, hb⟩
          replace fr := fr.below hb
          replace fa := fa.below hb
          replace fx := fx.below hb
          replace f1 := f1.below hb
          replace H0 := H0.trans (hb.mono H0.size)
          clear hb
          go_wp2_with fail
          refine (samelaw_v f2 fx rfl (by omega)).mono ?_
          rintro e w7 ⟨rfl, hb⟩
          replace fr := fr.below hb
          replace fa := fa.below hb
          replace fx := fx.below hb
          replace f1 := f1.below hb
          replace f2 := f2.below hb
          replace H0 := H0.trans (hb.mono H0.size)
          clear hb
          go_wp2_with fail
          refine (normal_any fr).mono ?_
          rintro e w' ⟨rfl, rfl⟩
          go_wp2_with fail
          refine (normaln_any fr).mono ?_
          rintro e w' ⟨rfl, rfl⟩
          go_wp2_with fail
          refine (fromuint_v u hu _).mono ?_
          rintro e w8 ⟨B8a, k8a, d8a, rfl, f3, hb⟩
          replace fr := fr.below hb
          replace fa := fa.below hb
          replace fx := fx.below hb
          replace f1 := f1.below hb
          replace f2 := f2.below hb
          replace H0 := H0.trans (hb.mono H0.size)
          clear hb
          go_wp2_with fail
          refine (word_v u hu _).mono ?_
          rintro e w9 ⟨B9a, k9a, d9a, rfl, f4, hb⟩
          replace fr := fr.below hb
          replace fa := fa.below hb
          replace fx := fx.below hb
          replace f1 := f1.below hb
          replace f2 := f2.below hb
          replace f3 := f3.below hb
          replace H0 := H0.trans (hb.mono H0.size)
          clear hb
          go_wp2_with fail
          refine (samelaw_v f3 f4 rfl (by omega)).mono ?_
          rintro e w10 ⟨rfl, hb⟩
          replace fr := fr.below hb
          replace fa := fa.below hb
          replace fx := fx.below hb
          replace f1 := f1.below hb
          replace f2 := f2.below hb
          replace f3 := f3.below hb
          replace f4 := f4.below hb
          replace H0 := H0.trans (hb.mono H0.size)
          clear hb
          go_wp2_with fail
          go_ret
          exact ⟨rfl, H0⟩
        · obtain ⟨m, rfl⟩ : ∃ m, k = m + 1 := ⟨k - 1, by omega⟩
          have ei : ((m + 1 : Nat) : Int) - 1 = (m : Int) := by omega
          rw [ei]
          clear ei
          obtain ⟨ad, hA, hb', hcm⟩ := Raw.at_ fx.1 (j := m) (by rw [← HKX.out]; omega)
          subst hA
          obtain ⟨d, hd⟩ : ∃ d, (digs x).getD m 0 = d := ⟨_, rfl⟩
          have bd : d < 4294967296 := by rw [← hd]; exact okD_getD (okD_digs x) _
          rw [hd] at hcm
          have hval : t * 4294967296 + d = x / Bs m := by rw [← hd, digs_digit, HT.out, Bs_succ, Nat.mul_comm 4294967296, ← Nat.div_div_eq_div_mul]; omega
          have htb : t < 4294967296 := by
            have h1 : x / Bs m ≤ x := Nat.div_le_self _ _
            have h2 := HX64.out
            omega
          have hor := or_shift t d htb bd
          obtain ⟨v, hv⟩ : ∃ v, t * 4294967296 + d = v := ⟨_, rfl⟩
          rw [hv] at hor hval
          have HV := Lib.hid hval
          clear hval hd hv
          go_wp2_with fail
          go_round
          case rel => exact ⟨m, v, rfl, rfl, by omega, HV.out⟩
          case measure => simp [intOf]
    · have hk2 : 2 < k1a := by
        rw [hkx]
        rcases Nat.lt_or_ge 2 (digs x).length with h4 | h4
        · exact h4
        · have h5 := lt_of_digs_length h4
          rw [Bs_two] at h5
          omega
      have hkd : decide ((k1a : Int) ≤ 2) = false := by rw [decide_eq_false_iff_not]; omega
      have HX64 := Lib.hid hx64
      clear hkx hx64
      go_wp2_with fail
      refine (uint_big fa HX64.out).mono ?_
      rintro e w2 ⟨rfl, hb⟩
      replace fr := fr.below hb
      replace fa := fa.below hb
      replace fx := fx.below hb
      replace H0 := H0.trans (hb.mono H0.size)
      clear hb
      go_wp2_with fail
      refine (fromuint_v u hu _).mono ?_
      rintro e w3 ⟨B3a, k3a, d3a, rfl, f1, hb⟩
      replace fr := fr.below hb
      replace fa := fa.below hb
      replace fx := fx.below hb
      replace H0 := H0.trans (hb.mono H0.size)
      clear hb
      go_wp2_with fail
      refine (uint_small f1.rv hu).mono ?_
      rintro e w4 ⟨rfl, hb⟩
      replace fr := fr.below hb
      replace fa := fa.below hb
      replace fx := fx.below hb
      replace f1 := f1.below hb
      replace H0 := H0.trans (hb.mono H0.size)
      clear hb
      go_wp2_with fail
      refine (known_any _).mono ?_
      rintro e w5 ⟨rfl, hb⟩
      replace fr := fr.below hb
      replace fa := fa.below hb
      replace fx := fx.below hb
      replace f1 := f1.below hb
      replace H0 := H0.trans (hb.mono H0.size)
      clear hb
      go_wp2_with fail
      refine (norm_v fa (by omega)).mono ?_
      rintro e w6 ⟨B6a, k6a, d6a, rfl, f2, hb⟩
      replace fr := fr.below hb
      replace fa := fa.below hb
      replace fx := fx.below hb
      replace f1 := f1.below hb
      replace H0 := H0.trans (hb.mono H0.size)
      clear hb
      go_wp2_with fail
      refine (samelaw_v f2 fx rfl (by omega)).mono ?_
      rintro e w7 ⟨rfl, hb⟩
      replace fr := fr.below hb
      replace fa := fa.below hb
      replace fx := fx.below hb
      replace f1 := f1.below hb
      replace f2 := f2.below hb
      replace H0 := H0.trans (hb.mono H0.size)
      clear hb
      go_wp2_with fail
      refine (normal_any fr).mono ?_
      rintro e w' ⟨rfl, rfl⟩
      go_wp2_with fail
      refine (normaln_any fr).mono ?_
      rintro e w' ⟨rfl, rfl⟩
      go_wp2_with fail
      refine (fromuint_v u hu _).mono ?_
      rintro e w8 ⟨B8a, k8a, d8a, rfl, f3, hb⟩
      replace fr := fr.below hb
      replace fa := fa.below hb
      replace fx := fx.below hb
      replace f1 := f1.below hb
      replace f2 := f2.below hb
      replace H0 := H0.trans (hb.mono H0.size)
      clear hb
      go_wp2_with fail
      refine (word_v u hu _).mono ?_
      rintro e w9 ⟨B9a, k9a, d9a, rfl, f4, hb⟩
      replace fr := fr.below hb
      replace fa := fa.below hb
      replace fx := fx.below hb
      replace f1 := f1.below hb
      replace f2 := f2.below hb
      replace f3 := f3.below hb
      replace H0 := H0.trans (hb.mono H0.size)
      clear hb
      go_wp2_with fail
      refine (samelaw_v f3 f4 rfl (by omega)).mono ?_
      rintro e w10 ⟨rfl, hb⟩
      replace fr := fr.below hb
      replace fa := fa.below hb
      replace fx := fx.below hb
      replace f1 := f1.below hb
      replace f2 := f2.below hb
      replace f3 := f3.below hb
      replace f4 := f4.below hb
      replace H0 := H0.trans (hb.mono H0.size)
      clear hb
      go_wp2_with fail
      go_ret
      exact ⟨rfl, H0⟩
end Go.Proofs.YtlkbfcljekgniaaDoor
