/-
  The contract of estimate.
-/
import Derived.Test.YtkhfadfjkmhpgaaDoorDivD
import Derived.Test.YtkhfadfjkmhpgaaDoorEstM
namespace Go.Proofs.YtkhfadfjkmhpgaaDoor
open Go.RowKit

theorem u64_eq {a b : Int} (h : a = b) : Value.int .u64 a = Value.int .u64 b := by rw [h]
theorem val_top2 {ps : List Nat} {m : Nat} (hl : ps.length = m + 2) : val ps = (ps.getD (m + 1) 0 * 4294967296 + ps.getD m 0) * Bs m + val (ps.take m) := by
  have h1 := val_take_succ ps (m + 1) (by omega)
  have h2 := val_take_succ ps m (by omega)
  rw [val_take_all (by omega)] at h1
  have b1 : Bs (m + 1) = 4294967296 * Bs m := Bs_succ m
  rw [h1, h2, b1]
  generalize ps.getD (m + 1) 0 = u
  generalize ps.getD m 0 = v
  generalize val (ps.take m) = t
  generalize Bs m = b
  clear h1 h2 b1 hl
  grind
theorem val_top3 {ps : List Nat} {m : Nat} (hl : ps.length = m + 3) : val ps = ((ps.getD (m + 2) 0 * 4294967296 + ps.getD (m + 1) 0) * 4294967296 + ps.getD m 0) * Bs m + val (ps.take m) := by
  have h0 := val_take_succ ps (m + 2) (by omega)
  have h1 := val_take_succ ps (m + 1) (by omega)
  have h2 := val_take_succ ps m (by omega)
  rw [val_take_all (by omega)] at h0
  have b1 : Bs (m + 1) = 4294967296 * Bs m := Bs_succ m
  have b2 : Bs (m + 2) = 4294967296 * Bs (m + 1) := Bs_succ (m + 1)
  rw [h0, h1, h2, b2, b1]
  generalize ps.getD (m + 2) 0 = t
  generalize ps.getD (m + 1) 0 = u
  generalize ps.getD m 0 = v
  generalize val (ps.take m) = r
  generalize Bs m = b
  clear h0 h1 h2 b1 b2 hl
  grind

set_option maxRecDepth 100000 in
set_option maxHeartbeats 1600000 in
theorem estimate_any {A A' : Option Addr} {m n n' c c' : Nat} {ps es : List Nat} {w : World} (hx : Raw w (.slice A n c) ps) (hy : Raw w (.slice A' n' c') es) (hn : n = m + 3) (hn' : n' = m + 2) (hd1 : 0 < es.getD (m + 1) 0) (hlt : val ps < 4294967296 * val es) :
    Calls Tryd.prog 68 #[.slice A n c, .slice A' n' c'] w fun e w' => ∃ q : Nat, e = .returned (.int .u32 (q : Int)) ∧ q < 4294967296 ∧ val ps / val es ≤ q ∧ q ≤ val ps / val es + 1 ∧ ∃ j, w' = w.drewN j := by
  subst hn
  subst hn'
  have hl1 := hx.cap.1
  have hl2 := hy.cap.1
  have hm9 : m + 3 ≤ 1000000000 := by have := hx.len; omega
  obtain ⟨ad, hA, hb1, c2⟩ := hx.at_ (j := m + 2) (by omega)
  obtain ⟨ad2, hA2, hb2, c1⟩ := hx.at_ (j := m + 1) (by omega)
  obtain ⟨ad3, hA3, hb3, c0⟩ := hx.at_ (j := m) (by omega)
  obtain rfl : ad = ad2 := Option.some.inj (hA.symm.trans hA2)
  obtain rfl : ad = ad3 := Option.some.inj (hA.symm.trans hA3)
  obtain ⟨ae, hE, hb4, k1⟩ := hy.at_ (j := m + 1) (by omega)
  obtain ⟨ae2, hE2, hb5, k0⟩ := hy.at_ (j := m) (by omega)
  obtain rfl : ae = ae2 := Option.some.inj (hE.symm.trans hE2)
  subst hA
  subst hE
  clear hA2 hA3 hE2
  have vp := val_top3 hl1.symm
  have ve := val_top2 hl2.symm
  have tp := val_take_lt hx.okD m
  have te := val_take_lt hy.okD m
  obtain ⟨p2, h2⟩ : ∃ d, ps.getD (m + 2) 0 = d := ⟨_, rfl⟩
  obtain ⟨p1, h1⟩ : ∃ d, ps.getD (m + 1) 0 = d := ⟨_, rfl⟩
  obtain ⟨p0, h0⟩ : ∃ d, ps.getD m 0 = d := ⟨_, rfl⟩
  obtain ⟨d1, e1⟩ : ∃ d, es.getD (m + 1) 0 = d := ⟨_, rfl⟩
  obtain ⟨d0, e0⟩ : ∃ d, es.getD m 0 = d := ⟨_, rfl⟩
  have b2 : p2 < 4294967296 := by rw [← h2]; exact okD_getD hx.okD _
  have b1 : p1 < 4294967296 := by rw [← h1]; exact okD_getD hx.okD _
  have b0 : p0 < 4294967296 := by rw [← h0]; exact okD_getD hx.okD _
  have g1 : d1 < 4294967296 := by rw [← e1]; exact okD_getD hy.okD _
  have g0 : d0 < 4294967296 := by rw [← e0]; exact okD_getD hy.okD _
  rw [h2, h1, h0] at vp
  rw [h2] at c2
  rw [h1] at c1
  rw [h0] at c0
  rw [e1, e0] at ve
  rw [e1] at k1 hd1
  rw [e0] at k0
  obtain ⟨P, hP⟩ : ∃ P, val ps = P := ⟨_, rfl⟩
  obtain ⟨D, hD⟩ : ∃ D, val es = D := ⟨_, rfl⟩
  obtain ⟨T, hT⟩ : ∃ T, p2 * 4294967296 + p1 = T := ⟨_, rfl⟩
  rw [hP] at vp hlt ⊢
  rw [hD] at ve hlt ⊢
  rw [hT] at vp
  have hTb : T < 18446744073709551616 := by omega
  have hor := or_shift p2 p1 b2 b1
  rw [hT] at hor
  have VP := Lib.hid vp
  have VE := Lib.hid ve
  have TP := Lib.hid tp
  have TE := Lib.hid te
  have HLT := Lib.hid hlt
  clear vp ve tp te hlt h2 h1 h0 e1 e0 hP hD hl1 hl2 hx hy
  obtain ⟨tq, htq⟩ : ∃ t, T / d1 = t := ⟨_, rfl⟩
  have htqi : (T : Int) / (d1 : Int) = (tq : Int) := by rw [← htq]; norm_cast
  have htqT : tq ≤ T := by rw [← htq]; exact Nat.div_le_self _ _
  obtain ⟨q0, hq0⟩ : ∃ q, q = min tq 4294967295 := ⟨_, rfl⟩
  have hq0d : q0 * d1 ≤ T := by
    have : q0 * d1 ≤ tq * d1 := Nat.mul_le_mul_right _ (by omega)
    have h3 : tq * d1 ≤ T := by rw [← htq]; exact Nat.div_mul_le_self T d1
    omega
  have hmin : ∀ W : World, (Builtin.min_ #[61, 61] 61 #[.int .u64 (tq : Int), .int .u64 4294967295]).run Tryd.prog W = .ok (.int .u64 (q0 : Int)) W := fun W => by
    rw [run_min_int2]; congr 2; split <;> omega
  have hQ0 : P / D ≤ q0 := by
    have hle : P / D * D ≤ P := Nat.div_mul_le_self P D
    have h1 := est_le VP.out VE.out TP.out b0 hle
    have h2 : P / D ≤ tq := by rw [← htq]; exact (Nat.le_div_iff_mul_le hd1).2 h1
    have h3 : P / D < 4294967296 := Nat.div_lt_of_lt_mul (by rw [Nat.mul_comm]; exact HLT.out)
    omega
  have HQ0 := Lib.hid hQ0
  have HQ := Lib.hid hq0
  have hq0b : q0 < 4294967296 := by omega
  have HTQ := Lib.hid htq
  have HT := Lib.hid hT
  clear hQ0 hq0 htq hT
  have hmb := mul_bound2 hq0b g1
  have c2' : w.cell? ⟨ad.block, ad.off + (m + 1 + 1), none⟩ = some (.int .u32 (p2 : Int)) := by rw [← c2]; congr 1
  have c1' : w.cell? ⟨ad.block, ad.off + (m + 1), none⟩ = some (.int .u32 (p1 : Int)) := by rw [← c1]; congr 1
  have k1' : w.cell? ⟨ae.block, ae.off + (m + 1), none⟩ = some (.int .u32 (d1 : Int)) := by rw [← k1]; congr 1
  clear c2 c1 k1
  have i1 : IntKind.i64.wrap ((m : Int) + 2 - 1) = (m : Int) + 1 := by rw [IntWalk.i64_in _ (by omega)]; omega
  have i2 : IntKind.i64.wrap ((m : Int) + 2 - 2) = (m : Int) := by rw [IntWalk.i64_in _ (by omega)]; omega
  have i3 : ((m : Int) + 2).toNat = m + 2 := by omega
  have i4 : ((m : Int) + 1).toNat = m + 1 := by omega
  have i5 : (0 : Int) ≤ (m : Int) + 2 := by omega
  have i6 : (0 : Int) ≤ (m : Int) + 1 := by omega
  have i7 : (0 : Int) ≤ (m : Int) := by omega
  have i8 : (m : Int) + 2 < (m : Int) + 3 := by omega
  have i9 : (m : Int) + 1 < (m : Int) + 3 := by omega
  have i10 : (m : Int) + 1 < (m : Int) + 2 := by omega
  have i11 : (m : Int) < (m : Int) + 2 := by omega
  go_enter Tryd.func68, Tryd.ntmps68
  go_wp2_with fail
  go_quiet (fail)
  go_wp2_with fail
  go_loop [9, 10] (fun qv rv => ∃ q r : Nat, qv = .int .u64 q ∧ rv = .int .u64 r ∧ q < 4294967296 ∧ q * d1 + r = T ∧ P / D ≤ q) (fun qv _ => (intOf qv).toNat)
  case atStart => exact ⟨q0, T - q0 * d1, rfl, by congr 1; omega, hq0b, by omega, HQ0.out⟩
  case round =>
    obtain ⟨q, r, rfl, rfl, hqb, hqr, hQ⟩ := hrel
    clear hor htqi htqT hq0d hmin hq0b hmb c1' c2' k1' k0 i1 i3 i4 i5 i6 i8 i9 i10
    have HQR := Lib.hid hqr
    have HQQ := Lib.hid hQ
    have hrT : r < 18446744073709551616 := by omega
    have hqm := mul_bound2 hqb g0
    have hfin : q * d0 ≤ r * 4294967296 + p0 → q ≤ P / D + 1 := fun h => est_up VP.out VE.out TE.out hd1 hqb HQR.out h
    have HF := Lib.hid hfin
    clear hqr hQ hfin
    rcases Nat.lt_or_ge r 4294967296 with hrB | hrB
    · have hor2 := or_shift r p0 hrB b0
      obtain ⟨E, hE⟩ : ∃ E, r * 4294967296 + p0 = E := ⟨_, rfl⟩
      rw [hE] at hor2
      have hEb : E < 18446744073709551616 := by omega
      have HE := Lib.hid hE
      have HRB := Lib.hid hrB
      have hri : (r : Int) ≤ 4294967295 := by omega
      have hdc : decide ((r : Int) < 4294967296) = true := by rw [decide_eq_true_iff]; omega
      clear hE hrB
      rcases Nat.lt_or_ge E (q * d0) with hgt | hle
      · have hPq : P < q * D := est_down VP.out VE.out TP.out HQR.out (by rw [HE.out]; exact hgt)
        have hq1 : 1 ≤ q := by
          rcases Nat.eq_zero_or_pos q with h0 | h0
          · rw [h0] at hgt; omega
          · exact h0
        have hQ1 : P / D ≤ q - 1 := by
          have hDp : 0 < D := by
            rcases Nat.eq_zero_or_pos D with h0 | h0
            · rw [h0] at hPq; omega
            · exact h0
          have := (Nat.div_lt_iff_lt_mul hDp).2 hPq
          omega
        have hq2 : (q - 1) * d1 + (r + d1) = T := by
          have h := HQR.out
          have e : (q - 1) * d1 + d1 = q * d1 := by
            obtain ⟨q', rfl⟩ : ∃ q', q = q' + 1 := ⟨q - 1, by omega⟩
            rw [Nat.add_sub_cancel, Nat.add_mul, Nat.one_mul]
          omega
        have HPQ := Lib.hid hPq
        have HQ1 := Lib.hid hQ1
        have HQ2 := Lib.hid hq2
        have hdc2 : decide ((E : Int) < (q : Int) * (d0 : Int)) = true := by rw [decide_eq_true_iff]; exact_mod_cast hgt
        have hdc3 : decide (E < q * d0) = true := by rw [decide_eq_true_iff]; exact hgt
        clear hPq hQ1 hq2 hgt
        go_wp2_with fail
        go_round
        case rel => exact ⟨q - 1, r + d1, u64_eq (by clear hor2; omega), u64_eq (by clear hor2; omega), by clear hor2; omega, HQ2.out, HQ1.out⟩
        case measure => simp [intOf]; omega
      · have hdc2 : decide ((E : Int) < (q : Int) * (d0 : Int)) = false := by rw [decide_eq_false_iff_not]; exact_mod_cast (Nat.not_lt.2 hle)
        have hdc3 : decide (E < q * d0) = false := by rw [decide_eq_false_iff_not]; omega
        have HLE := Lib.hid hle
        clear hle
        go_wp2_with fail
        go_ret
        exact ⟨q, rfl, hqb, HQQ.out, HF.out (by rw [HE.out]; exact HLE.out), _, rfl⟩
    · have hle : q * d0 ≤ r * 4294967296 + p0 := by omega
      have HLE := Lib.hid hle
      have hdc : decide ((r : Int) < 4294967296) = false := by rw [decide_eq_false_iff_not]; omega
      clear hle hrB
      go_wp2_with fail
      go_ret
      exact ⟨q, rfl, hqb, HQQ.out, HF.out HLE.out, _, rfl⟩
end Go.Proofs.YtkhfadfjkmhpgaaDoor
