/-
  The contracts of the reference's Right and Left.
-/
import Derived.Test.YtkhfadfjkmhpgaaDoorShift2
namespace Go.Proofs.YtkhfadfjkmhpgaaDoor
open Go.RowKit

theorem or_shift' (lo hi : Nat) (hl : lo < 4294967296) (hh : hi < 4294967296) : bits .or .u64 (lo : Int) ((hi : Int) * 4294967296) = ((hi * 4294967296 + lo : Nat) : Int) := by
  have := u64_or_nat lo (hi * 4294967296) (by omega) (by omega)
  rw [Int.natCast_mul, show ((4294967296 : Nat) : Int) = 4294967296 from rfl] at this
  rw [this]
  congr 1
  rw [show hi * 4294967296 = hi <<< 32 by rw [Nat.shiftLeft_eq], Nat.or_comm, ← Nat.shiftLeft_add_eq_or_of_lt (by omega)]

set_option maxRecDepth 100000 in
set_option maxHeartbeats 800000 in
theorem right_is {A : Option Addr} {n c x : Nat} {w : World} (hx : Num w (.slice A n c) x) (k : Nat) (hk : k ≤ 1048576) :
    Calls Tryd.prog 75 #[.slice A n c, .int .i64 (k : Int)] w fun e w' => ∃ B m d, e = .returned (.slice B m d) ∧ Num w' (.slice B m d) (x / 2 ^ k) ∧ Below w.heap.size w w' := by
  obtain ⟨z, hz⟩ : ∃ z, z = k / 32 := ⟨_, rfl⟩
  obtain ⟨s, hs⟩ : ∃ s, s = k % 32 := ⟨_, rfl⟩
  have hs1 : s < 32 := by omega
  have hzi : (k : Int) / 32 = (z : Int) := by omega
  have hsi : (k : Int) % 32 = (s : Int) := by omega
  have hzb : z < 1000000000000000000 := by omega
  have hxk : x / 2 ^ k = x / Bs z / 2 ^ s := by rw [pow_split k, ← hz, ← hs, ← Nat.div_div_eq_div_mul]
  have HZ := Lib.hid hz
  have HS := Lib.hid hs
  have HXK := Lib.hid hxk
  clear hz hs hxk
  have hxl : (digs x).length ≤ 1000000000 := by
    exact Raw.len hx
  have hn := (Raw.cap hx).1
  subst hn
  rcases Nat.lt_or_ge z (digs x).length with hlt | hge
  · have hdec : decide ((digs x).length ≤ z) = false := by rw [decide_eq_false_iff_not]; omega
    obtain ⟨L, hL⟩ : ∃ L, (digs x).length - z = L := ⟨_, rfl⟩
    obtain ⟨A2, hA2⟩ : ∃ A2, Option.map (fun a : Addr => a.add z) A = A2 := ⟨_, rfl⟩
    obtain ⟨w1, hmk, hown, hb, hsz⟩ := make_row Tryd.underlying25 L (by omega) w
    have hLb : L ≤ 1000000000 := by omega
    have HO := Lib.hid hown
    clear hown hsz
    go_enter Tryd.func75, Tryd.ntmps75
    have hX' : Raw w (.slice A (digs x).length c) (digs x) := hx
    have hcx := hX'.cap.2
    have hdrop := hX'.drop (k := z) (by omega)
    rw [if_neg (by omega), hA2, hL] at hdrop
    have hD := Lib.hid hdrop
    clear hdrop hX'
    go_wp2_with fail
    rw [hsi]
    have HLL := Lib.hid hL
    clear hL hA2
    go_loopw [28] (fun i wr => ∃ (j : Nat) (zs : List Nat), i = .int .i64 j ∧ j ≤ L ∧ zs.length = L ∧ OkD zs ∧ Own wr w.heap.size zs ∧ Below w.heap.size w wr ∧
      val (zs.take j) = x / Bs z / 2 ^ s % Bs j) (fun i _ => L - (intOf i).toNat)
    case atStart => exact ⟨0, _, rfl, Nat.zero_le _, by simp, okD_replicate _ (by omega), HO.out, hb, by simp [val, Bs_zero, Nat.mod_one]⟩
    case round =>
      obtain ⟨j, zs, rfl, hj, hzl, hzd, hzo, hbr, hv⟩ := hrel
      have HV := Lib.hid hv
      have HZL := Lib.hid hzl
      clear hv hzl
      rcases Nat.lt_or_ge j (L) with hjl | hge
      · obtain ⟨hi, hhi⟩ : ∃ d, ((digs x).drop z).getD (j + 1) 0 = d := ⟨_, rfl⟩
        obtain ⟨lo, hlo⟩ : ∃ d, ((digs x).drop z).getD j 0 = d := ⟨_, rfl⟩
        have bhi : hi < 4294967296 := by rw [← hhi]; exact okD_getD (okD_drop (okD_digs x) z) _
        have blo : lo < 4294967296 := by rw [← hlo]; exact okD_getD (okD_drop (okD_digs x) z) _
        have hcell := hzo.cell (j := j) (by rw [HZL.out]; omega)
        have hfr := hzo.frozen j
        have HHI := Lib.hid hhi
        have HLO := Lib.hid hlo
        clear hhi hlo
        obtain ⟨a2, hA2', hb2', hc2⟩ := (hD.out.below hbr).at_ (j := j) (by rw [List.length_drop]; have := HLL.out; omega)
        subst hA2'
        rw [HLO.out] at hc2
        obtain ⟨E, hE⟩ : ∃ E, hi * 4294967296 + lo = E := ⟨_, rfl⟩
        have hEb : E < 18446744073709551616 := by omega
        have hq : ((E : Int) / 2 ^ s) % 4294967296 = ((E / 2 ^ s % 4294967296 : Nat) : Int) := by
          rw [show (E : Int) / 2 ^ s = ((E / 2 ^ s : Nat) : Int) by norm_cast]
          generalize E / 2 ^ s = q
          omega
        have hqb : E / 2 ^ s % 4294967296 < 4294967296 := Nat.mod_lt _ (by omega)
        have hvn : val ((zs.set j (E / 2 ^ s % 4294967296)).take (j + 1)) = x / Bs z / 2 ^ s % Bs (j + 1) := by
          rw [val_take_set (by rw [HZL.out]; omega), HV.out, Bs_succ, Nat.mul_comm 4294967296, Nat.mod_mul]
          have e1 : hi = x / Bs z / Bs (j + 1) % 4294967296 := by rw [← HHI.out, val_digit _ (okD_drop (okD_digs x) z), val_drop _ (okD_digs x) z (by omega), val_digs]
          have e2 : lo = x / Bs z / Bs j % 4294967296 := by rw [← HLO.out, val_digit _ (okD_drop (okD_digs x) z), val_drop _ (okD_digs x) z (by omega), val_digs]
          rw [shr_digit _ s j hs1, ← hE, e1, e2]
        have HVN := Lib.hid hvn
        have HQ := Lib.hid hq
        have HQB := Lib.hid hqb
        clear hvn hq hqb
        rcases Nat.lt_or_ge (j + 1) L with hj1 | hj1
        · obtain ⟨a3, hA3', hb3', hc3⟩ := (hD.out.below hbr).at_ (j := j + 1) (by rw [List.length_drop]; have := HLL.out; omega)
          obtain rfl : a2 = a3 := Option.some.inj hA3'
          rw [HHI.out] at hc3
          have hc3' : wr.cell? ⟨a2.block, a2.off + (j + 1), none⟩ = some (.int .u32 (hi : Int)) := by rw [← hc3]; congr 1
          clear hc3 hA3'
          have hor := or_shift' lo hi blo bhi
          rw [hE] at hor
          have HE := Lib.hid hE
          clear hE
          go_wp2_with fail
          go_roundw
          case rel =>
            rw [HQ.out]
            exact ⟨j + 1, _, by go_num, by omega, by rw [List.length_set]; exact HZL.out, okD_set hzd _ HQB.out, hzo.set j _, hbr.setCell (Nat.le_refl _) _, HVN.out⟩
          case measure => simp [intOf]; omega
        · have hi0 : hi = 0 := by rw [← HHI.out]; exact getD_of_ge (by rw [List.length_drop]; have := HLL.out; omega)
          have hEl : lo = E := by rw [← hE, hi0]; omega
          subst hEl
          clear hE hi0
          go_wp2_with fail
          go_roundw
          case rel =>
            rw [HQ.out]
            exact ⟨j + 1, _, by go_num, by omega, by rw [List.length_set]; exact HZL.out, okD_set hzd _ HQB.out, hzo.set j _, hbr.setCell (Nat.le_refl _) _, HVN.out⟩
          case measure => simp [intOf]; omega
      · have hjL : j = L := by omega
        have hval : val zs = x / 2 ^ k := by
          have h := HV.out
          rw [val_take_all (by rw [HZL.out]; omega)] at h
          rw [h, HXK.out]
          refine Nat.mod_eq_of_lt (Nat.lt_of_le_of_lt (Nat.div_le_self _ _) ?_)
          rw [Nat.div_lt_iff_lt_mul (Bs_pos z), ← Bs_add, hjL, show L + z = (digs x).length by have := HLL.out; omega]
          exact lt_of_digs_length (Nat.le_refl _)
        have hraw := hzo.raw_all hzd (by rw [HZL.out]; omega) (L) (L) HZL.out.symm (Nat.le_refl _)
        have HVAL := Lib.hid hval
        have HJ := Lib.hid hjL
        clear hval hjL
        go_wp2_with fail
        refine (ntrim_is hraw HVAL).mono ?_
        rintro e w' ⟨rfl, hN, rfl⟩
        go_wp2_with fail
        go_ret
        exact ⟨_, _, _, rfl, hN, hbr⟩
  · have hdec : decide ((digs x).length ≤ z) = true := by rw [decide_eq_true_iff]; omega
    have hval : x / 2 ^ k = 0 := by
      rw [HXK.out, Nat.div_eq_of_lt (digs_length_le_iff.1 hge), Nat.zero_div]
    have HVAL := Lib.hid hval
    clear hval
    go_enter Tryd.func75, Tryd.ntmps75
    go_wp2_with fail
    go_ret
    exact ⟨_, _, _, rfl, by rw [HVAL.out]; exact num_zero _ _, Below.refl _ _⟩

end Go.Proofs.YtkhfadfjkmhpgaaDoor
