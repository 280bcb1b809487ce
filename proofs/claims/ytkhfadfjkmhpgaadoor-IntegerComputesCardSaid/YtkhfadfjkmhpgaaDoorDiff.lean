/-
  The contract of difference.
-/
import Derived.Test.YtkhfadfjkmhpgaaDoorTrim
namespace Go.Proofs.YtkhfadfjkmhpgaaDoor
open Go.RowKit

theorem mul_bound {p d : Nat} (hp : p < 4294967296) (hd : d < 4294967296) : p * d ≤ 18446744065119617025 := by
  have h1 : p * d ≤ 4294967295 * 4294967295 := Nat.mul_le_mul (by omega) (by omega)
  omega

theorem diff_round {V b plus minus bo p q D E dx dy d pd md P' M' b' : Nat} (hv : V + b * plus + q * E = p * D + b * minus + b * bo)
    (h1 : plus + p * dx = pd + 4294967296 * P') (h2 : minus + q * dy = md + 4294967296 * M') (h3 : d + md + bo = pd + 4294967296 * b') :
    V + b * d + 4294967296 * b * P' + q * (E + b * dy) = p * (D + b * dx) + 4294967296 * b * M' + 4294967296 * b * b' := by
  grind
theorem diff_step (pd md bo : Nat) (h1 : pd < 4294967296) (h2 : md < 4294967296) (h3 : bo ≤ 1) : ∃ d b' : Nat, d < 4294967296 ∧ b' ≤ 1 ∧
    IntKind.u64.wrap (IntKind.u64.wrap ((pd : Int) - (md : Int)) - (bo : Int)) % 4294967296 = (d : Int) ∧ IntKind.u64.wrap (IntKind.u64.wrap ((pd : Int) - (md : Int)) - (bo : Int)) / 9223372036854775808 = (b' : Int) ∧ d + md + bo = pd + 4294967296 * b' := by
  rw [IntKind.wrap_u64, IntKind.wrap_u64]
  by_cases h : md + bo ≤ pd
  · exact ⟨pd - md - bo, 0, by omega, by omega, by omega, by omega, by omega⟩
  · exact ⟨4294967296 + pd - md - bo, 1, by omega, by omega, by omega, by omega, by omega⟩
theorem mod_same {V R b u v : Nat} (h : V + b * u = R + b * v) (hV : V < b) (hR : R < b) : V = R := by
  have h1 : (V + b * u) % b = (R + b * v) % b := by rw [h]
  rwa [Nat.add_mul_mod_self_left, Nat.add_mul_mod_self_left, Nat.mod_eq_of_lt hV, Nat.mod_eq_of_lt hR] at h1

set_option maxRecDepth 100000 in
set_option maxHeartbeats 800000 in
theorem diff_any {A A' : Option Addr} {n n' c c' : Nat} {ds es : List Nat} {w : World} (hx : Raw w (.slice A n c) ds) (hy : Raw w (.slice A' n' c') es) (p q : Nat) (hp : p < 4294967296) (hq : q < 4294967296)
    (hle : q * val es ≤ p * val ds) (hlt : p * val ds - q * val es < Bs (max ds.length es.length)) :
    Calls Tryd.prog 55 #[.int .u64 (p : Int), .slice A n c, .int .u64 (q : Int), .slice A' n' c'] w fun e w' => ∃ B k d, e = .returned (.slice B k d) ∧ Num w' (.slice B k d) (p * val ds - q * val es) ∧ Below w.heap.size w w' := by
  obtain ⟨hn, hc⟩ := hx.cap
  obtain ⟨hn', hc'⟩ := hy.cap
  have hl := hx.len
  have hl' := hy.len
  subst hn
  subst hn'
  obtain ⟨m, hm⟩ : ∃ m, m = max ds.length es.length := ⟨_, rfl⟩
  have hm1 : m ≤ 1000000000 := by omega
  obtain ⟨w1, hmk, hown, hb, hsz⟩ := make_row Tryd.underlying26 m (by omega) w
  have hmax : ∀ W : World, (Builtin.max_ #[3, 3] 3 #[.int .i64 (ds.length : Int), .int .i64 (es.length : Int)]).run Tryd.prog W = .ok (.int .i64 (m : Int)) W := fun W => by
    rw [run_max_int2]; subst hm; congr 2; split <;> omega
  have HM := Lib.hid hm
  have HO := Lib.hid hown
  have HZ := Lib.hid hsz
  have HLE := Lib.hid hle
  have HLT := Lib.hid hlt
  clear hm hown hsz hle hlt
  go_enter Tryd.func55, Tryd.ntmps55
  go_wp2_with fail
  go_loopw [11, 12, 13, 24] (fun pl mi bo i wr => ∃ (k plus minus borrow : Nat) (zs : List Nat), i = .int .i64 k ∧ pl = .int .u64 plus ∧ mi = .int .u64 minus ∧ bo = .int .u64 borrow ∧ k ≤ m ∧ plus < 4294967296 ∧ minus < 4294967296 ∧ borrow ≤ 1 ∧ zs.length = m ∧ OkD zs ∧ Own wr w.heap.size zs ∧ Below w.heap.size w wr ∧
      val (zs.take k) + Bs k * plus + q * val (es.take k) = p * val (ds.take k) + Bs k * minus + Bs k * borrow) (fun _ _ _ i _ => m - (intOf i).toNat)
  case atStart => exact ⟨0, 0, 0, 0, _, rfl, rfl, rfl, rfl, Nat.zero_le _, by omega, by omega, by omega, by simp, okD_replicate _ (by omega), HO.out, hb, by simp [val]⟩
  case round =>
    obtain ⟨k, plus, minus, borrow, zs, rfl, rfl, rfl, rfl, hk, hpl, hmi, hbo, hzl, hzd, hzo, hbr, hv⟩ := hrel
    have HV := Lib.hid hv
    have HZL := Lib.hid hzl
    clear hv hzl
    obtain ⟨dx, hdx⟩ : ∃ d, ds.getD k 0 = d := ⟨_, rfl⟩
    obtain ⟨dy, hdy⟩ : ∃ d, es.getD k 0 = d := ⟨_, rfl⟩
    have bx : dx < 4294967296 := by rw [← hdx]; exact okD_getD hx.okD k
    have by_ : dy < 4294967296 := by rw [← hdy]; exact okD_getD hy.okD k
    have HDX := Lib.hid hdx
    have HDY := Lib.hid hdy
    clear hdx hdy
    rcases Nat.lt_or_ge k m with hlt | hge
    · have hcell := hzo.cell (j := k) (by have := HZL.out; omega)
      have hfr := hzo.frozen k
      have m1 := mul_bound hp bx
      have m2 := mul_bound hq by_
      go_wp2_with fail
      refine (digit_is (hx.below hbr) HDX).mono ?_
      rintro e w' ⟨rfl, rfl⟩
      go_wp2_with fail
      refine (digit_is (hy.below hbr) HDY).mono ?_
      rintro e w' ⟨rfl, rfl⟩
      go_wp2_with fail
      go_roundw
      case rel =>
        have e1 : ((plus : Int) + (p : Int) * (dx : Int)) = ((plus + p * dx : Nat) : Int) := by simp
        have e2 : ((minus : Int) + (q : Int) * (dy : Int)) = ((minus + q * dy : Nat) : Int) := by simp
        rw [and_mask (by rw [e1]; omega) (by rw [e1]; omega), and_mask (by rw [e2]; omega) (by rw [e2]; omega), e1, e2]
        obtain ⟨P, hP⟩ : ∃ P, P = plus + p * dx := ⟨_, rfl⟩
        obtain ⟨M, hM⟩ : ∃ M, M = minus + q * dy := ⟨_, rfl⟩
        rw [← hP, ← hM]
        obtain ⟨d, b', hd, hb', s1, s2, s3⟩ := diff_step (P % 4294967296) (M % 4294967296) borrow (by omega) (by omega) hbo
        rw [show ((P : Int) % 4294967296) = ((P % 4294967296 : Nat) : Int) by omega, show ((M : Int) % 4294967296) = ((M % 4294967296 : Nat) : Int) by omega, show ((P : Int) / 4294967296) = ((P / 4294967296 : Nat) : Int) by omega, show ((M : Int) / 4294967296) = ((M / 4294967296 : Nat) : Int) by omega, s1, s2]
        refine ⟨k + 1, _, _, _, _, by go_num, rfl, rfl, rfl, by omega, by omega, by omega, hb', by rw [List.length_set]; exact HZL.out, okD_set hzd k hd, hzo.set k _, hbr.setCell (Nat.le_refl _) _, ?_⟩
        rw [Bs_succ, val_take_set (by have := HZL.out; omega), val_take_succ', val_take_succ', HDX.out, HDY.out]
        exact diff_round HV.out (by omega) (by omega) s3
      case measure => simp [intOf]; omega
    · obtain rfl : m = k := by omega
      have hval : val zs = p * val ds - q * val es := by
        have h := HV.out
        rw [val_take_all (by rw [HZL.out]; omega), val_take_all (by rw [HM.out]; omega), val_take_all (by rw [HM.out]; omega)] at h
        have hlz := val_lt hzd
        rw [HZL.out] at hlz
        have h1 := HLE.out
        have h2 := HLT.out
        rw [← HM.out] at h2
        exact mod_same (b := Bs m) (u := plus) (v := minus + borrow) (by rw [Nat.mul_add]; omega) hlz h2
      have hraw := hzo.raw_all hzd (by rw [HZL.out]; omega) m m HZL.out.symm (Nat.le_refl _)
      have HVAL := Lib.hid hval
      clear hval
      go_wp2_with fail
      refine (trim_any hraw).mono ?_
      rintro e w' ⟨rfl, hN, -, rfl⟩
      rw [HVAL.out] at hN
      go_wp2_with fail
      go_ret
      exact ⟨_, _, _, rfl, by rw [HVAL.out]; exact hN, hbr⟩
end Go.Proofs.YtkhfadfjkmhpgaaDoor
