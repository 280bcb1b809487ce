/-
  The contracts of shiftLeft and Shr.
-/
import Derived.Test.YtkhfadfjkmhpgaaDoorAddMul
namespace Go.Proofs.YtkhfadfjkmhpgaaDoor
open Go.RowKit

theorem Bs_pow (i : Nat) : Bs i = 2 ^ (32 * i) := by unfold Bs; rw [show 4294967296 = 2 ^ 32 from rfl, ← Nat.pow_mul]
theorem pow_split (k : Nat) : 2 ^ k = Bs (k / 32) * 2 ^ (k % 32) := by rw [Bs_pow, ← Nat.pow_add]; congr 1; omega
theorem pow_le31 {s : Nat} (h : s < 32) : 2 ^ s ≤ 2147483648 := by
  have : 2 ^ s ≤ 2 ^ 31 := Nat.pow_le_pow_right (by omega) (by omega)
  simpa using this

theorem shl_or {s carry dx : Nat} (hs : s < 32) (hc : carry < 2 ^ s) (hd : dx < 4294967296) : bits .or .u64 (carry : Int) (IntKind.u64.wrap ((dx : Int) * 2 ^ s)) = ((carry + dx * 2 ^ s : Nat) : Int) := by
  have hp := pow_le31 hs
  have hb : dx * 2 ^ s < 18446744073709551616 := by
    have : dx * 2 ^ s ≤ 4294967295 * 2147483648 := Nat.mul_le_mul (by omega) hp
    omega
  have e : ((dx : Int) * 2 ^ s) = ((dx * 2 ^ s : Nat) : Int) := by norm_cast
  rw [e, IntKind.wrap_u64]
  have hm : ((dx * 2 ^ s : Nat) : Int) % 18446744073709551616 = ((dx * 2 ^ s : Nat) : Int) := by
    revert hb; generalize dx * 2 ^ s = q; intro hb; omega
  rw [hm, u64_or_nat carry _ (by omega) hb]
  congr 1
  rw [show dx * 2 ^ s = dx <<< s by rw [Nat.shiftLeft_eq], Nat.or_comm, ← Nat.shiftLeft_add_eq_or_of_lt hc, Nat.add_comm]

set_option maxRecDepth 100000 in
set_option maxHeartbeats 800000 in
theorem shl_is {A : Option Addr} {n c x : Nat} {ds : List Nat} {w : World} (hx : Raw w (.slice A n c) ds) (hvx : Hid (val ds = x)) (k : Nat) (hk : k < 1000000000) (hl : ds.length ≤ 100000000) :
    Calls Tryd.prog 67 #[.slice A n c, .int .u64 (k : Int)] w fun e w' => ∃ B m d, e = .returned (.slice B m d) ∧ Num w' (.slice B m d) (x * 2 ^ k) ∧ Below w.heap.size w w' := by
  have hxl : (digs x).length ≤ ds.length := by rw [← hvx.out]; exact digs_length_le (val_lt hx.okD)
  obtain ⟨z, hz⟩ : ∃ z, z = k / 32 := ⟨_, rfl⟩
  obtain ⟨s, hs⟩ : ∃ s, s = k % 32 := ⟨_, rfl⟩
  have hz1 : z ≤ 100000000 := by omega
  have hs1 : s < 32 := by omega
  have hzi : (k : Int) / 32 = (z : Int) := by omega
  have hsi : (k : Int) % 32 = (s : Int) := by omega
  rcases Nat.eq_zero_or_pos x with rfl | hx0
  · go_enter Tryd.func67, Tryd.ntmps67
    go_wp2_with fail
    refine (trim_is hx hvx).mono ?_
    rintro e w' ⟨rfl, hX, rfl⟩
    rw [digs_zero]
    go_wp2_with fail
    go_ret
    exact ⟨_, _, _, rfl, by rw [Nat.zero_mul]; exact num_zero _ _, Below.refl _ _⟩
  · have hne : 0 < (digs x).length := digs_length_pos hx0
    have hne0 : (((digs x).length : Int) == 0) = false := by rw [beq_eq_false_iff_ne]; omega
    obtain ⟨w1, hmk, hown, hb, hsz⟩ := make_row Tryd.underlying26 (z + (digs x).length + 1) (by omega) w
    rw [Int.natCast_add, Int.natCast_add, Int.natCast_one] at hmk
    have HO := Lib.hid hown
    have HZ := Lib.hid hz
    have HS := Lib.hid hs
    clear hown hz hs hsz
    go_enter Tryd.func67, Tryd.ntmps67
    go_wp2_with fail
    refine (trim_is hx hvx).mono ?_
    rintro e w' ⟨rfl, hX, rfl⟩
    have hX' : Raw w (.slice A (digs x).length c) (digs x) := hX
    have hlx := hX'.len
    go_wp2_with fail
    go_loopw [8, 29] (fun cr i wr => ∃ (j carry : Nat) (zs : List Nat), i = .int .i64 j ∧ cr = .int .u64 carry ∧ j ≤ (digs x).length ∧ carry < 2 ^ s ∧ zs.length = z + (digs x).length + 1 ∧ OkD zs ∧ Own wr w.heap.size zs ∧ Below w.heap.size w wr ∧
      val (zs.take (z + j)) + Bs (z + j) * carry = Bs z * (2 ^ s * val ((digs x).take j))) (fun _ i _ => (digs x).length - (intOf i).toNat)
    case atStart => exact ⟨0, 0, _, rfl, rfl, Nat.zero_le _, Nat.pow_pos (by omega), by simp, okD_replicate _ (by omega), HO.out, hb, by rw [List.take_replicate, val_replicate]; simp [val]⟩
    case round =>
      obtain ⟨j, carry, zs, rfl, rfl, hj, hcar, hzl, hzd, hzo, hbr, hv⟩ := hrel
      have HV := Lib.hid hv
      have HZL := Lib.hid hzl
      clear hv hzl
      have hp := pow_le31 hs1
      obtain ⟨P, hP⟩ : ∃ P, P = 2 ^ s := ⟨_, rfl⟩
      rw [← hP] at hcar hp
      have HP := Lib.hid hP
      clear hP
      rcases Nat.lt_or_ge j (digs x).length with hlt | hge
      · obtain ⟨ad, hA, hb', hcx⟩ := (hX'.below hbr).at_ (j := j) hlt
        subst hA
        obtain ⟨dx, hdx⟩ : ∃ d, (digs x).getD j 0 = d := ⟨_, rfl⟩
        have bx : dx < 4294967296 := by rw [← hdx]; exact okD_getD (okD_digs x) j
        rw [hdx] at hcx
        have HDX := Lib.hid hdx
        clear hdx
        have hcell := hzo.cell (j := z + j) (by rw [HZL.out]; omega)
        have hfr := hzo.frozen (z + j)
        go_wp2_with fail
        go_roundw
        case rel =>
          obtain ⟨q, hq⟩ : ∃ q, q = carry + (P * dx + 0) := ⟨_, rfl⟩
          rw [shl_or hs1 (by rw [← HP.out]; exact hcar) bx, ← HP.out, show carry + dx * P = q by rw [hq, Nat.mul_comm]; rfl, show ((q : Int) % 4294967296) = ((q % 4294967296 : Nat) : Int) by omega, show ((q : Int) / 4294967296) = ((q / 4294967296 : Nat) : Int) by omega]
          have hqP : q / 4294967296 < P := by
            rw [Nat.div_lt_iff_lt_mul (by omega)]
            have : P * dx + P * 1 ≤ P * 4294967296 := by rw [← Nat.mul_add]; exact Nat.mul_le_mul_left _ (by omega)
            omega
          refine ⟨j + 1, _, _, by go_num, rfl, by omega, hqP, by rw [List.length_set]; exact HZL.out, okD_set hzd _ (by omega), hzo.set (z + j) _, hbr.setCell (Nat.le_refl _) _, ?_⟩
          rw [← Nat.add_assoc, val_take_set (by rw [HZL.out]; omega), val_take_succ', HDX.out, Bs_succ]
          have hv2 : val (zs.take (z + j)) + Bs (z + j) * carry = 0 + Bs z * (P * val ((digs x).take j)) := by rw [HV.out, ← HP.out, Nat.zero_add]
          have h := addmul_round hv2 _ q rfl hq (Bs_add z j)
          rw [Nat.mul_zero, Nat.add_zero, Nat.zero_add] at h
          exact h
        case measure => simp [intOf]; omega
      · obtain rfl : j = (digs x).length := by omega
        have hcell := hzo.cell (j := z + (digs x).length) (by rw [HZL.out]; omega)
        have hfr := hzo.frozen (z + (digs x).length)
        have hfin := hzo.set (z + (digs x).length) carry
        have hraw := hfin.raw_all (okD_set hzd _ (by omega)) (by rw [List.length_set, HZL.out]; omega) (z + (digs x).length + 1) (z + (digs x).length + 1) (by rw [List.length_set]; exact HZL.out.symm) (Nat.le_refl _)
        have hbf := hbr.setCell (p := ⟨w.heap.size, z + (digs x).length, none⟩) (Nat.le_refl _) (.int .u32 (carry : Int))
        have hval : val (zs.set (z + (digs x).length) carry) = x * 2 ^ k := by
          have e := val_take_set (ds := zs) (k := z + (digs x).length) (by rw [HZL.out]; omega) carry
          rw [val_take_all (by rw [List.length_set, HZL.out]; omega)] at e
          rw [e, HV.out, val_take_all (Nat.le_refl _), val_digs, pow_split k, ← HZ.out, ← HS.out, ← HP.out]
          grind
        have HVAL := Lib.hid hval
        clear hval
        go_wp2_with fail
        refine (trim_is hraw HVAL).mono ?_
        rintro e w' ⟨rfl, hN, rfl⟩
        go_wp2_with fail
        go_ret
        exact ⟨_, _, _, rfl, hN, hbf⟩
theorem val_of_digits (zs : List Nat) (y : Nat) (h : ∀ i, i < zs.length → zs.getD i 0 = y / Bs i % 4294967296) (k : Nat) (hk : k ≤ zs.length) : val (zs.take k) = y % Bs k := by
  induction k with
  | zero => simp [val, Bs_zero, Nat.mod_one]
  | succ k ih =>
    rw [val_take_succ', ih (by omega), h k (by omega), Bs_succ, Nat.mul_comm 4294967296, Nat.mod_mul]
theorem shr_core (P t u : Nat) (hP : 0 < P) : u / P % (P * t) = (u / (P * t) % (P * t) * (P * t) + u % (P * t)) / P % (P * t) := by
  have h1 := Nat.div_add_mod u (P * t)
  have h2 := Nat.div_add_mod (u / (P * t)) (P * t)
  generalize u / (P * t) % (P * t) = b at *
  generalize u / (P * t) / (P * t) = a at *
  generalize u % (P * t) = c at *
  rw [← h2] at h1
  have h3 : u = P * (P * t * (t * a)) + (b * (P * t) + c) := by rw [← h1]; grind
  rw [h3, Nat.mul_add_div hP, Nat.mul_add_mod]
/-- A digit of a shifted number. -/
theorem shr_digit (x s i : Nat) (hs : s < 32) : x / 2 ^ s / Bs i % 4294967296 = (x / Bs (i + 1) % 4294967296 * 4294967296 + x / Bs i % 4294967296) / 2 ^ s % 4294967296 := by
  obtain ⟨t, ht⟩ : ∃ t, 4294967296 = 2 ^ s * t := ⟨2 ^ (32 - s), by rw [← Nat.pow_add, show s + (32 - s) = 32 by omega]⟩
  have e1 : x / Bs (i + 1) = x / Bs i / 4294967296 := by rw [Bs_succ, Nat.mul_comm, ← Nat.div_div_eq_div_mul]
  rw [Nat.div_div_eq_div_mul, Nat.mul_comm (2 ^ s), ← Nat.div_div_eq_div_mul, e1, ht]
  exact shr_core _ _ _ (Nat.pow_pos (by omega))

theorem shr_or {s hi lo : Nat} (hh : hi < 4294967296) (hl : lo < 4294967296) : bits .or .u64 ((hi : Int) * 4294967296) (lo : Int) / 2 ^ s = ((((hi * 4294967296 + lo) / 2 ^ s : Nat)) : Int) := by
  have := u64_or_nat (hi * 4294967296) lo (by omega) (by omega)
  rw [Int.natCast_mul, show ((4294967296 : Nat) : Int) = 4294967296 from rfl] at this
  rw [this, show hi * 4294967296 = hi <<< 32 by rw [Nat.shiftLeft_eq], ← Nat.shiftLeft_add_eq_or_of_lt (by omega), Nat.shiftLeft_eq]
  norm_cast

theorem digit_ix {A : Option Addr} {n c : Nat} {ds : List Nat} {w : World} (h : Raw w (.slice A n c) ds) {i d : Nat} {q : Int} (hq : q = (i : Int)) (hd : Hid (ds.getD i 0 = d)) :
    Calls Tryd.prog 53 #[.slice A n c, .int .i64 q] w fun e w' => e = .returned (.int .u64 (d : Int)) ∧ w = w' := by
  subst hq; exact digit_is h hd

set_option maxRecDepth 100000 in
set_option maxHeartbeats 800000 in
theorem shr_is {A : Option Addr} {n c x : Nat} {ds : List Nat} {w : World} (hx : Raw w (.slice A n c) ds) (hvx : Hid (val ds = x)) (k : Nat) (hk : k < 18446744073709551616) :
    Calls Tryd.prog 70 #[.slice A n c, .int .u64 (k : Int)] w fun e w' => ∃ B m d, e = .returned (.slice B m d) ∧ Num w' (.slice B m d) (x / 2 ^ k) ∧ Below w.heap.size w w' := by
  obtain ⟨z, hz⟩ : ∃ z, z = k / 32 := ⟨_, rfl⟩
  obtain ⟨s, hs⟩ : ∃ s, s = k % 32 := ⟨_, rfl⟩
  have hs1 : s < 32 := by omega
  have hzi : (k : Int) / 32 = (z : Int) := by omega
  have hsi : (k : Int) % 32 = (s : Int) := by omega
  have hzb : z < 1000000000000000000 := by omega
  have hxk : x / 2 ^ k = x / Bs z / 2 ^ s := by rw [pow_split k, ← hz, ← hs, ← Nat.div_div_eq_div_mul]
  have HZ := Lib.hid hz
  have HS := Lib.hid hs
  have HXK := Lib.hid hxk
  clear hz hs hxk
  have hxl : (digs x).length ≤ 1000000000 := by
    have := hx.len
    rw [← hvx.out]
    exact Nat.le_trans (digs_length_le (val_lt hx.okD)) this
  rcases Nat.lt_or_ge z (digs x).length with hlt | hge
  · have hdec : decide ((digs x).length ≤ z) = false := by rw [decide_eq_false_iff_not]; omega
    obtain ⟨L, hL⟩ : ∃ L, (digs x).length - z = L := ⟨_, rfl⟩
    obtain ⟨A2, hA2⟩ : ∃ A2, Option.map (fun a : Addr => a.add z) A = A2 := ⟨_, rfl⟩
    obtain ⟨w1, hmk, hown, hb, hsz⟩ := make_row Tryd.underlying26 L (by omega) w
    have hLb : L ≤ 1000000000 := by omega
    have HO := Lib.hid hown
    clear hown hsz
    go_enter Tryd.func70, Tryd.ntmps70
    go_wp2_with fail
    refine (trim_is hx hvx).mono ?_
    rintro e w' ⟨rfl, hX, rfl⟩
    have hX' : Raw w (.slice A (digs x).length c) (digs x) := hX
    have hcx := hX'.cap.2
    have hdrop := hX'.drop (k := z) (by omega)
    rw [if_neg (by omega), hA2, hL] at hdrop
    have hD := Lib.hid hdrop
    clear hdrop hX'
    go_wp2_with fail
    rw [hsi]
    have HLL := Lib.hid hL
    clear hL hA2
    go_loopw [27] (fun i wr => ∃ (j : Nat) (zs : List Nat), i = .int .i64 j ∧ j ≤ L ∧ zs.length = L ∧ OkD zs ∧ Own wr w.heap.size zs ∧ Below w.heap.size w wr ∧
      val (zs.take j) = x / Bs z / 2 ^ s % Bs j) (fun i _ => L - (intOf i).toNat)
    case atStart => exact ⟨0, _, rfl, Nat.zero_le _, by simp, okD_replicate _ (by omega), HO.out, hb, by simp [val, Bs_zero, Nat.mod_one]⟩
    case round =>
      obtain ⟨j, zs, rfl, hj, hzl, hzd, hzo, hbr, hv⟩ := hrel
      have HV := Lib.hid hv
      have HZL := Lib.hid hzl
      clear hv hzl
      rcases Nat.lt_or_ge j (L) with hjl | hge
      · obtain ⟨hi, hhi⟩ : ∃ d, ((digs x).drop z).getD (j + 1) 0 = d := ⟨_, rfl⟩
        obtain ⟨lo, hlo⟩ : ∃ d, ((digs x).drop z).getD j 0 = d := ⟨_, rfl⟩
        have bhi : hi < 4294967296 := by rw [← hhi]; exact okD_getD (okD_drop (okD_digs x) z) _
        have blo : lo < 4294967296 := by rw [← hlo]; exact okD_getD (okD_drop (okD_digs x) z) _
        have hcell := hzo.cell (j := j) (by rw [HZL.out]; omega)
        have hfr := hzo.frozen j
        have HHI := Lib.hid hhi
        have HLO := Lib.hid hlo
        clear hhi hlo
        go_wp2_with fail
        refine (digit_ix (hD.out.below hbr) (i := j + 1) (by simp) HHI).mono ?_
        rintro e w' ⟨rfl, rfl⟩
        go_wp2_with fail
        refine (digit_ix (hD.out.below hbr) (i := j) rfl HLO).mono ?_
        rintro e w' ⟨rfl, rfl⟩
        go_wp2_with fail
        go_roundw
        case rel =>
          obtain ⟨q, hq⟩ : ∃ q, q = (hi * 4294967296 + lo) / 2 ^ s := ⟨_, rfl⟩
          rw [shr_or bhi blo, ← hq, show ((q : Int) % 4294967296) = ((q % 4294967296 : Nat) : Int) by omega]
          refine ⟨j + 1, _, by go_num, by omega, by rw [List.length_set]; exact HZL.out, okD_set hzd _ (by omega), hzo.set j _, hbr.setCell (Nat.le_refl _) _, ?_⟩
          rw [val_take_set (by rw [HZL.out]; omega), HV.out, Bs_succ, Nat.mul_comm 4294967296, Nat.mod_mul]
          have e1 : hi = x / Bs z / Bs (j + 1) % 4294967296 := by rw [← HHI.out, val_digit _ (okD_drop (okD_digs x) z), val_drop _ (okD_digs x) z (by omega), val_digs]
          have e2 : lo = x / Bs z / Bs j % 4294967296 := by rw [← HLO.out, val_digit _ (okD_drop (okD_digs x) z), val_drop _ (okD_digs x) z (by omega), val_digs]
          rw [shr_digit _ s j hs1, hq, e1, e2]
        case measure => simp [intOf]; omega
      · have hjL : j = L := by omega
        have hval : val zs = x / 2 ^ k := by
          have h := HV.out
          rw [val_take_all (by rw [HZL.out]; omega)] at h
          rw [h, HXK.out]
          refine Nat.mod_eq_of_lt (Nat.lt_of_le_of_lt (Nat.div_le_self _ _) ?_)
          rw [Nat.div_lt_iff_lt_mul (Bs_pos z), ← Bs_add, hjL, show L + z = (digs x).length by have := HLL.out; omega]
          exact lt_of_digs_length (Nat.le_refl _)
        have hraw := hzo.raw_all hzd (by rw [HZL.out]; omega) (L) (L) HZL.out.symm (Nat.le_refl _)
        have HVAL := Lib.hid hval
        have HJ := Lib.hid hjL
        clear hval hjL
        go_wp2_with fail
        refine (trim_is hraw HVAL).mono ?_
        rintro e w' ⟨rfl, hN, rfl⟩
        go_wp2_with fail
        go_ret
        exact ⟨_, _, _, rfl, hN, hbr⟩
  · have hdec : decide ((digs x).length ≤ z) = true := by rw [decide_eq_true_iff]; omega
    have hval : x / 2 ^ k = 0 := by
      rw [HXK.out, Nat.div_eq_of_lt (digs_length_le_iff.1 hge), Nat.zero_div]
    have HVAL := Lib.hid hval
    clear hval
    go_enter Tryd.func70, Tryd.ntmps70
    go_wp2_with fail
    refine (trim_is hx hvx).mono ?_
    rintro e w' ⟨rfl, hX, rfl⟩
    go_wp2_with fail
    go_ret
    exact ⟨_, _, _, rfl, by rw [HVAL.out]; exact num_zero _ _, Below.refl _ _⟩
end Go.Proofs.YtkhfadfjkmhpgaaDoor
