/-
  The contract of subtractMultiple.
-/
import Derived.Test.YtkhfadfjkmhpgaaDoorAddMul
namespace Go.Proofs.YtkhfadfjkmhpgaaDoor
open Go.RowKit

theorem u64_eq' {a b : Int} (h : a = b) : Value.int .u64 a = Value.int .u64 b := by rw [h]
theorem ret_i64' {a b : Int} (h : a = b) : Ending.returned (.int .i64 a) = .returned (.int .i64 b) := by rw [h]
theorem ret_bool {a b : Bool} (h : a = b) : Ending.returned (.bool a) = .returned (.bool b) := by rw [h]
theorem sub_step (pd md : Nat) (h1 : pd < 4294967296) (h2 : md < 4294967296) : ∃ d b' : Nat, d < 4294967296 ∧ b' ≤ 1 ∧
    IntKind.u64.wrap ((pd : Int) - (md : Int)) % 4294967296 = (d : Int) ∧ IntKind.u64.wrap ((pd : Int) - (md : Int)) / 9223372036854775808 = (b' : Int) ∧ d + md = pd + 4294967296 * b' ∧ (b' = 1 → pd < md) := by
  rw [IntKind.wrap_u64]
  by_cases h : md ≤ pd
  · exact ⟨pd - md, 0, by omega, by omega, by omega, by omega, by omega, by omega⟩
  · exact ⟨4294967296 + pd - md, 1, by omega, by omega, by omega, by omega, by omega, by omega⟩
theorem sub_carry {c q dy b' pd : Nat} (hc : c < 4294967296) (hq : q < 4294967296) (hd : dy < 4294967296) (hb : b' ≤ 1) (h : b' = 1 → pd < (c + q * dy) % 4294967296) : (c + q * dy) / 4294967296 + b' < 4294967296 := by
  have h1 : q * dy ≤ 4294967295 * 4294967295 := Nat.mul_le_mul (by omega) (by omega)
  generalize q * dy = t at *
  omega
theorem submul_round {V b Bo q E dz S carry d md b' bk dy Cq : Nat} (h : V + Bo * (q * E) = S + b * carry) (hb : b = Bo * bk) (h1 : carry + q * dy = md + 4294967296 * Cq) (h2 : d + md = dz + 4294967296 * b') :
    V + b * d + Bo * (q * (E + bk * dy)) = S + b * dz + 4294967296 * b * (Cq + b') := by
  subst hb; grind
theorem submul_last {V b X S carry d pn b' : Nat} (h : V + X = S + b * carry) (h2 : d + carry = pn + 4294967296 * b') : V + b * d + X = S + b * pn + 4294967296 * b * b' := by
  grind

set_option maxRecDepth 100000 in
set_option maxHeartbeats 1600000 in
theorem submul_any {g o n c c' : Nat} {A' : Option Addr} {zs es : List Nat} {w : World} (q : Nat) (hq : q < 4294967296) (hz : Own w g zs) (hzd : OkD zs) (hzl : zs.length ≤ 1000000000)
    (hy : Raw w (.slice A' n c') es) (hne : 0 < es.length → ∀ ad, A' = some ad → ad.block ≠ g) (hon : o + n + 1 ≤ zs.length) (hc : n + 1 ≤ c) :
    Calls Tryd.prog 69 #[.slice (some ⟨g, o, none⟩) (n + 1) c, .slice A' n c', .int .u32 (q : Int)] w fun e w' => ∃ (nb : Nat) (zs' : List Nat), e = .returned (.bool (nb == 1)) ∧ nb ≤ 1 ∧ Own w' g zs' ∧ OkD zs' ∧ zs'.length = zs.length ∧ w.grownBy w' (some g) ∧
      zs'.take o = zs.take o ∧ zs'.drop (o + n + 1) = zs.drop (o + n + 1) ∧ val (zs'.take (o + n + 1)) + Bs o * (q * val es) = val (zs.take (o + n + 1)) + Bs (o + n + 1) * nb := by
  obtain ⟨hn, hc'⟩ := hy.cap
  subst hn
  go_enter Tryd.func69, Tryd.ntmps69
  go_wp2_with fail
  go_loopw [8, 15] (fun cr i wr => ∃ (k carry : Nat) (zk : List Nat), i = .int .i64 k ∧ cr = .int .u64 carry ∧ k ≤ es.length ∧ carry < 4294967296 ∧ zk.length = zs.length ∧ OkD zk ∧ Own wr g zk ∧ w.grownBy wr (some g) ∧
      zk.take o = zs.take o ∧ zk.drop (o + k) = zs.drop (o + k) ∧ val (zk.take (o + k)) + Bs o * (q * val (es.take k)) = val (zs.take (o + k)) + Bs (o + k) * carry) (fun _ i _ => es.length - (intOf i).toNat)
  case atStart => exact ⟨0, 0, zs, rfl, rfl, Nat.zero_le _, by omega, rfl, hzd, hz, World.grownBy.refl w _, rfl, rfl, by simp [val]⟩
  case round =>
    obtain ⟨k, carry, zk, rfl, rfl, hk, hcar, hzkl, hzkd, hzko, hgr, ht, hdr, hv⟩ := hrel
    have HV := Lib.hid hv
    have HT := Lib.hid ht
    have HDR := Lib.hid hdr
    have HZL := Lib.hid hzkl
    clear hv ht hdr hzkl
    obtain ⟨dz, hdz⟩ : ∃ d, zk.getD (o + k) 0 = d := ⟨_, rfl⟩
    have bz : dz < 4294967296 := by rw [← hdz]; exact okD_getD hzkd _
    have hcz := hzko.cell (j := o + k) (by rw [HZL.out]; omega)
    have hfr := hzko.frozen (o + k)
    rw [hdz] at hcz
    have HDZ := Lib.hid hdz
    clear hdz
    have hgz : zs.getD (o + k) 0 = dz := by rw [← HDZ.out]; exact (getD_of_drop HDR.out).symm
    have HGZ := Lib.hid hgz
    clear hgz
    rcases Nat.lt_or_ge k es.length with hlt | hge
    · obtain ⟨ad', hA', hb', hcy⟩ := (hy.keepBut hgr (fun h0 A n c hv ad hA => hne h0 ad (by injection hv with h1; rw [h1]; exact hA))).at_ (j := k) hlt
      subst hA'
      obtain ⟨dy, hdy⟩ : ∃ d, es.getD k 0 = d := ⟨_, rfl⟩
      have by_ : dy < 4294967296 := by rw [← hdy]; exact okD_getD hy.okD k
      rw [hdy] at hcy
      have HDY := Lib.hid hdy
      clear hdy
      have m2 := mul_bound2 hq by_
      go_wp2_with fail
      go_roundw
      case rel =>
        obtain ⟨C, hC⟩ : ∃ C, C = carry + q * dy := ⟨_, rfl⟩
        have eC : ((carry : Int) + (q : Int) * (dy : Int)) = (C : Int) := by rw [hC]; simp
        rw [eC, and_mask (by omega) (by omega)]
        obtain ⟨d, b', hd, hb1, s1, s2, s3, s4⟩ := sub_step dz (C % 4294967296) bz (by omega)
        rw [show ((C : Int) % 4294967296) = ((C % 4294967296 : Nat) : Int) by omega, s1, s2, show ((C : Int) / 4294967296) = ((C / 4294967296 : Nat) : Int) by omega]
        have hcb : C / 4294967296 + b' < 4294967296 := by rw [hC]; exact sub_carry hcar hq by_ hb1 (by rw [← hC]; exact s4)
        refine ⟨k + 1, C / 4294967296 + b', _, by go_num, u64_eq' (by rw [IntKind.wrap_u64]; omega), by omega, hcb, by rw [List.length_set]; exact HZL.out, okD_set hzkd _ hd, hzko.set (o + k) _, only_set hgr _ _, ?_, ?_, ?_⟩
        · rw [List.take_set_of_le (by omega), HT.out]
        · rw [List.drop_set_of_lt (by omega), ← Nat.add_assoc, ← List.drop_drop, HDR.out, List.drop_drop]
        · rw [← Nat.add_assoc, val_take_set (by rw [HZL.out]; omega), val_take_succ', val_take_succ', HDY.out, HGZ.out, Bs_succ]
          exact submul_round HV.out (Bs_add o k) (by rw [← hC]; omega) s3
      case measure => simp [intOf]; omega
    · obtain rfl : k = es.length := by omega
      have hv := HV.out
      rw [val_take_all (Nat.le_refl _)] at hv
      have HV2 := Lib.hid hv
      clear hv
      have fin : ∀ d b' : Nat, d < 4294967296 → b' ≤ 1 → d + carry = dz + 4294967296 * b' → ∃ zs' : List Nat, zs' = zk.set (o + es.length) d ∧ OkD zs' ∧ zs'.length = zs.length ∧ zs'.take o = zs.take o ∧ zs'.drop (o + es.length + 1) = zs.drop (o + es.length + 1) ∧ val (zs'.take (o + es.length + 1)) + Bs o * (q * val es) = val (zs.take (o + es.length + 1)) + Bs (o + es.length + 1) * b' := by
        intro d b' hd _ hdb
        refine ⟨_, rfl, okD_set hzkd _ hd, by rw [List.length_set]; exact HZL.out, ?_, ?_, ?_⟩
        · rw [List.take_set_of_le (by omega), HT.out]
        · rw [List.drop_set_of_lt (by omega), ← List.drop_drop, HDR.out, List.drop_drop]
        · rw [val_take_set (by rw [HZL.out]; omega), val_take_succ', HGZ.out, Bs_succ]
          exact submul_last HV2.out hdb
      have FIN := Lib.hid fin
      clear fin
      rcases Nat.lt_or_ge dz carry with hlt | hge2
      · have hdc : (IntKind.u64.wrap ((dz : Int) - (carry : Int)) / 9223372036854775808 == 1) = true := by
          rw [IntKind.wrap_u64, beq_iff_eq]; omega
        have e1 : IntKind.u64.wrap ((dz : Int) - (carry : Int)) % 4294967296 = ((4294967296 + dz - carry : Nat) : Int) := by rw [IntKind.wrap_u64]; omega
        obtain ⟨zs', hzs', f1, f2, f3, f4, f5⟩ := FIN.out (4294967296 + dz - carry) 1 (by omega) (by omega) (by omega)
        have E1 := Lib.hid e1
        have HZS := Lib.hid hzs'
        have F2 := Lib.hid f2
        have F3 := Lib.hid f3
        have F4 := Lib.hid f4
        have F5 := Lib.hid f5
        have HDC := Lib.hid hdc
        clear e1 hzs' f2 f3 f4 f5 hdc
        go_wp2_with fail
        go_ret
        exact ⟨1, zs', ret_bool HDC.out, by omega, by rw [E1.out, HZS.out]; exact hzko.set _ _, f1, F2.out, only_set hgr _ _, F3.out, F4.out, F5.out⟩
      · have e1 : (dz : Int) - (carry : Int) = ((dz - carry : Nat) : Int) := by omega
        have hdc : (((dz : Int) - (carry : Int)) / 9223372036854775808 == 1) = false := by rw [beq_eq_false_iff_ne]; omega
        obtain ⟨zs', hzs', f1, f2, f3, f4, f5⟩ := FIN.out (dz - carry) 0 (by omega) (by omega) (by omega)
        have E1 := Lib.hid e1
        have HZS := Lib.hid hzs'
        have F2 := Lib.hid f2
        have F3 := Lib.hid f3
        have F4 := Lib.hid f4
        have F5 := Lib.hid f5
        have HDC := Lib.hid hdc
        clear e1 hzs' f2 f3 f4 f5 hdc
        go_wp2_with fail
        go_ret
        exact ⟨0, zs', ret_bool HDC.out, by omega, by rw [E1.out, HZS.out]; exact hzko.set _ _, f1, F2.out, only_set hgr _ _, F3.out, F4.out, F5.out⟩
end Go.Proofs.YtkhfadfjkmhpgaaDoor
