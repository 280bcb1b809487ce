/-
  The contract of divideByDigit.
-/
import Derived.Test.YtkhfadfjkmhpgaaDoorAddMul
namespace Go.Proofs.YtkhfadfjkmhpgaaDoor
open Go.RowKit

theorem or_shift (r d : Nat) (hr : r < 4294967296) (hd : d < 4294967296) : bits .or .u64 ((r : Int) * 4294967296) (d : Int) = ((r * 4294967296 + d : Nat) : Int) := by
  have := u64_or_nat (r * 4294967296) d (by omega) (by omega)
  rw [Int.natCast_mul] at this
  rw [show ((4294967296 : Nat) : Int) = 4294967296 from rfl] at this
  rw [this]
  congr 1
  rw [show r * 4294967296 = r <<< 32 by rw [Nat.shiftLeft_eq], ← Nat.shiftLeft_add_eq_or_of_lt (by omega)]
theorem divd_round {V d rest E q r t dz : Nat} (h : V * d + rest = E) (ht : rest * 4294967296 + dz = t) (hq : t = q * d + r) : (q + 4294967296 * V) * d + r = dz + 4294967296 * E := by
  subst h
  have : rest * 4294967296 + dz = q * d + r := by omega
  grind

set_option maxRecDepth 100000 in
set_option maxHeartbeats 800000 in
theorem divd_any {g c d : Nat} {ds : List Nat} {w : World} (hd0 : 0 < d) (hd : d < 4294967296) (hz : Own w g ds) (hzd : OkD ds) (hzl : ds.length ≤ 1000000000) :
    Calls Tryd.prog 51 #[.slice (some ⟨g, 0, none⟩) ds.length c, .int .u32 (d : Int)] w fun e w' => ∃ qs : List Nat, e = .returned (.int .u32 ((val ds % d : Nat) : Int)) ∧ Own w' g qs ∧ OkD qs ∧ qs.length = ds.length ∧ w.grownBy w' (some g) ∧ val qs = val ds / d := by
  go_enter Tryd.func51, Tryd.ntmps51
  go_wp2_with fail
  go_loopw [5, 6] (fun rs i wr => ∃ (k rest : Nat) (zk : List Nat), i = .int .i64 ((k : Int) - 1) ∧ rs = .int .u64 rest ∧ k ≤ ds.length ∧ rest < d ∧ zk.length = ds.length ∧ OkD zk ∧ Own wr g zk ∧ w.grownBy wr (some g) ∧
      zk.take k = ds.take k ∧ val (zk.drop k) * d + rest = val (ds.drop k)) (fun _ i _ => (intOf i + 1).toNat)
  case atStart => exact ⟨ds.length, 0, ds, rfl, rfl, Nat.le_refl _, hd0, rfl, hzd, hz, World.grownBy.refl w _, rfl, by rw [List.drop_eq_nil_of_le (Nat.le_refl _)]; simp [val]⟩
  case round =>
    obtain ⟨k, rest, zk, rfl, rfl, hk, hrest, hzkl, hzkd, hzko, hgr, ht, hv⟩ := hrel
    have HV := Lib.hid hv
    have HT := Lib.hid ht
    have HZL := Lib.hid hzkl
    clear hv ht hzkl
    rcases Nat.eq_zero_or_pos k with rfl | hk0
    · have hv := HV.out
      rw [List.drop_zero, List.drop_zero] at hv
      have e1 : val ds % d = rest := by rw [← hv, Nat.mul_comm, Nat.mul_add_mod, Nat.mod_eq_of_lt hrest]
      have e2 : val zk = val ds / d := by rw [← hv, Nat.mul_comm, Nat.mul_add_div hd0, Nat.div_eq_of_lt hrest]; rfl
      have E1 := Lib.hid e1
      have E2 := Lib.hid e2
      clear hv e1 e2
      go_wp2_with fail
      go_ret
      exact ⟨zk, by rw [E1.out]; rfl, hzko, hzkd, HZL.out, hgr, E2.out⟩
    · obtain ⟨m, rfl⟩ : ∃ m, k = m + 1 := ⟨k - 1, by omega⟩
      have ei : ((m + 1 : Nat) : Int) - 1 = (m : Int) := by omega
      rw [ei]
      clear ei
      have hcz := hzko.cell (j := m) (by rw [HZL.out]; omega)
      have hfr := hzko.frozen m
      obtain ⟨dz, hdz⟩ : ∃ d, zk.getD m 0 = d := ⟨_, rfl⟩
      have bz : dz < 4294967296 := by rw [← hdz]; exact okD_getD hzkd _
      rw [hdz] at hcz
      have HDZ := Lib.hid hdz
      clear hdz
      have hor := or_shift rest dz (by omega) bz
      obtain ⟨t, ht⟩ : ∃ t, t = rest * 4294967296 + dz := ⟨_, rfl⟩
      have et : (rest : Int) * 4294967296 + (dz : Int) = (t : Int) := by rw [ht]; simp
      have htd : t < d * 4294967296 := by
        have : (rest + 1) * 4294967296 ≤ d * 4294967296 := Nat.mul_le_mul_right _ hrest
        omega
      have hq : t / d < 4294967296 := Nat.div_lt_of_lt_mul htd
      have HQ := Lib.hid hq
      have HET := Lib.hid et
      have HT' := Lib.hid ht
      clear ht et htd hq
      go_wp2_with fail
      go_roundw
      case rel =>
        have e1 : (t : Int) / (d : Int) % 4294967296 = ((t / d : Nat) : Int) := by
          have h := HQ.out
          rw [show (t : Int) / (d : Int) = ((t / d : Nat) : Int) by norm_cast]
          revert h
          generalize t / d = q
          intro h
          omega
        have e2 : (t : Int) % (d : Int) = ((t % d : Nat) : Int) := by norm_cast
        rw [HET.out, e1, e2]
        have hq := HQ.out
        have hml : m < zk.length := by rw [HZL.out]; omega
        refine ⟨m, _, _, rfl, rfl, by omega, Nat.mod_lt _ hd0, by rw [List.length_set]; exact HZL.out, okD_set hzkd m hq, hzko.set m _, only_set hgr _ _, ?_, ?_⟩
        · have h := congrArg (List.take m) HT.out
          rw [List.take_take, List.take_take, Nat.min_eq_left (by omega)] at h
          rw [List.take_set_of_le (Nat.le_refl _), h]
        · have h1 : (zk.set m (t / d)).drop m = (t / d) :: zk.drop (m + 1) := by
            rw [List.drop_eq_getElem_cons (by rw [List.length_set]; exact hml), List.getElem_set_self, List.drop_set_of_lt (by omega)]
          have h2 : ds.drop m = dz :: ds.drop (m + 1) := by
            rw [List.drop_eq_getElem_cons (by omega : m < ds.length)]
            have h3 := congrArg (fun l => l[m]?) HT.out
            simp only [List.getElem?_take] at h3
            rw [if_pos (by omega), if_pos (by omega), List.getElem?_eq_getElem hml, List.getElem?_eq_getElem (by omega : m < ds.length)] at h3
            have h4 := HDZ.out
            rw [List.getD_eq_getElem?_getD, List.getElem?_eq_getElem hml] at h4
            simp only [Option.getD_some] at h4
            rw [← Option.some.inj h3, h4]
          rw [h1, h2, val_cons, val_cons]
          exact divd_round HV.out HT'.out.symm (by rw [Nat.mul_comm]; exact (Nat.div_add_mod t d).symm)
      case measure => simp [intOf]
end Go.Proofs.YtkhfadfjkmhpgaaDoor
