/-
  Shift, EstM, Est, SubMul, DivM in one text.
-/
import Derived.Test.YthmmnmajkeoaaabGreatDoorOK1
namespace Go.Proofs.YthmmnmajkeoaaabGreatDoor
open Go.RowKit

theorem Bs_pow (i : Nat) : Bs i = 2 ^ (32 * i) := by unfold Bs; rw [show 4294967296 = 2 ^ 32 from rfl, ← Nat.pow_mul]
theorem pow_split (k : Nat) : 2 ^ k = Bs (k / 32) * 2 ^ (k % 32) := by rw [Bs_pow, ← Nat.pow_add]; congr 1; omega
theorem pow_le31 {s : Nat} (h : s < 32) : 2 ^ s ≤ 2147483648 := by
  have : 2 ^ s ≤ 2 ^ 31 := Nat.pow_le_pow_right (by omega) (by omega)
  simpa using this

theorem shl_or {s carry dx : Nat} (hs : s < 32) (hc : carry < 2 ^ s) (hd : dx < 4294967296) : bits .or .u64 (carry : Int) (IntKind.u64.wrap ((dx : Int) * 2 ^ s)) = ((carry + dx * 2 ^ s : Nat) : Int) := by
  have hp := pow_le31 hs
  have hb : dx * 2 ^ s < 18446744073709551616 := by
    have : dx * 2 ^ s ≤ 4294967295 * 2147483648 := Nat.mul_le_mul (by omega) hp
    omega
  have e : ((dx : Int) * 2 ^ s) = ((dx * 2 ^ s : Nat) : Int) := by norm_cast
  rw [e, IntKind.wrap_u64]
  have hm : ((dx * 2 ^ s : Nat) : Int) % 18446744073709551616 = ((dx * 2 ^ s : Nat) : Int) := by
    revert hb; generalize dx * 2 ^ s = q; intro hb; omega
  rw [hm, u64_or_nat carry _ (by omega) hb]
  congr 1
  rw [show dx * 2 ^ s = dx <<< s by rw [Nat.shiftLeft_eq], Nat.or_comm, ← Nat.shiftLeft_add_eq_or_of_lt hc, Nat.add_comm]

set_option maxRecDepth 100000 in
set_option maxHeartbeats 800000 in
theorem shl_is {A : Option Addr} {n c x : Nat} {ds : List Nat} {w : World} (hx : Raw w (.slice A n c) ds) (hvx : Hid (val ds = x)) (k : Nat) (hk : k < 1000000000) (hl : ds.length ≤ 100000000) :
    Calls Tryz.prog 110 #[.slice A n c, .int .u64 (k : Int)] w fun e w' => ∃ B m d, e = .returned (.slice B m d) ∧ Num w' (.slice B m d) (x * 2 ^ k) ∧ Below w.heap.size w w' := by
  have hxl : (digs x).length ≤ ds.length := by rw [← hvx.out]; exact digs_length_le (val_lt hx.okD)
  obtain ⟨z, hz⟩ : ∃ z, z = k / 32 := ⟨_, rfl⟩
  obtain ⟨s, hs⟩ : ∃ s, s = k % 32 := ⟨_, rfl⟩
  have hz1 : z ≤ 100000000 := by omega
  have hs1 : s < 32 := by omega
  have hzi : (k : Int) / 32 = (z : Int) := by omega
  have hsi : (k : Int) % 32 = (s : Int) := by omega
  rcases Nat.eq_zero_or_pos x with rfl | hx0
  · go_enter Tryz.func110, Tryz.ntmps110
    go_wp2_with fail
    refine (trim_is hx hvx).mono ?_
    rintro e w' ⟨rfl, hX, rfl⟩
    rw [digs_zero]
    go_wp2_with fail
    go_ret
    exact ⟨_, _, _, rfl, by rw [Nat.zero_mul]; exact num_zero _ _, Below.refl _ _⟩
  · have hne : 0 < (digs x).length := digs_length_pos hx0
    have hne0 : (((digs x).length : Int) == 0) = false := by rw [beq_eq_false_iff_ne]; omega
    obtain ⟨w1, hmk, hown, hb, hsz⟩ := make_row Tryz.underlying59 (z + (digs x).length + 1) (by omega) w
    rw [Int.natCast_add, Int.natCast_add, Int.natCast_one] at hmk
    have HO := Lib.hid hown
    have HZ := Lib.hid hz
    have HS := Lib.hid hs
    clear hown hz hs hsz
    go_enter Tryz.func110, Tryz.ntmps110
    go_wp2_with fail
    refine (trim_is hx hvx).mono ?_
    rintro e w' ⟨rfl, hX, rfl⟩
    have hX' : Raw w (.slice A (digs x).length c) (digs x) := hX
    have hlx := hX'.len
    go_wp2_with fail
    go_loopw [8, 29] (fun cr i wr => ∃ (j carry : Nat) (zs : List Nat), i = .int .i64 j ∧ cr = .int .u64 carry ∧ j ≤ (digs x).length ∧ carry < 2 ^ s ∧ zs.length = z + (digs x).length + 1 ∧ OkD zs ∧ Own wr w.heap.size zs ∧ Below w.heap.size w wr ∧
      val (zs.take (z + j)) + Bs (z + j) * carry = Bs z * (2 ^ s * val ((digs x).take j))) (fun _ i _ => (digs x).length - (intOf i).toNat)
    case atStart => exact ⟨0, 0, _, rfl, rfl, Nat.zero_le _, Nat.pow_pos (by omega), by simp, okD_replicate _ (by omega), HO.out, hb, by rw [List.take_replicate, val_replicate]; simp [val]⟩
    case round =>
      obtain ⟨j, carry, zs, rfl, rfl, hj, hcar, hzl, hzd, hzo, hbr, hv⟩ := hrel
      have HV := Lib.hid hv
      have HZL := Lib.hid hzl
      clear hv hzl
      have hp := pow_le31 hs1
      obtain ⟨P, hP⟩ : ∃ P, P = 2 ^ s := ⟨_, rfl⟩
      rw [← hP] at hcar hp
      have HP := Lib.hid hP
      clear hP
      rcases Nat.lt_or_ge j (digs x).length with hlt | hge
      · obtain ⟨ad, hA, hb', hcx⟩ := (hX'.below hbr).at_ (j := j) hlt
        subst hA
        obtain ⟨dx, hdx⟩ : ∃ d, (digs x).getD j 0 = d := ⟨_, rfl⟩
        have bx : dx < 4294967296 := by rw [← hdx]; exact okD_getD (okD_digs x) j
        rw [hdx] at hcx
        have HDX := Lib.hid hdx
        clear hdx
        have hcell := hzo.cell (j := z + j) (by rw [HZL.out]; omega)
        have hfr := hzo.frozen (z + j)
        go_wp2_with fail
        go_roundw
        case rel =>
          obtain ⟨q, hq⟩ : ∃ q, q = carry + (P * dx + 0) := ⟨_, rfl⟩
          rw [shl_or hs1 (by rw [← HP.out]; exact hcar) bx, ← HP.out, show carry + dx * P = q by rw [hq, Nat.mul_comm]; rfl, show ((q : Int) % 4294967296) = ((q % 4294967296 : Nat) : Int) by omega, show ((q : Int) / 4294967296) = ((q / 4294967296 : Nat) : Int) by omega]
          have hqP : q / 4294967296 < P := by
            rw [Nat.div_lt_iff_lt_mul (by omega)]
            have : P * dx + P * 1 ≤ P * 4294967296 := by rw [← Nat.mul_add]; exact Nat.mul_le_mul_left _ (by omega)
            omega
          refine ⟨j + 1, _, _, by go_num, rfl, by omega, hqP, by rw [List.length_set]; exact HZL.out, okD_set hzd _ (by omega), hzo.set (z + j) _, hbr.setCell (Nat.le_refl _) _, ?_⟩
          rw [← Nat.add_assoc, val_take_set (by rw [HZL.out]; omega), val_take_succ', HDX.out, Bs_succ]
          have hv2 : val (zs.take (z + j)) + Bs (z + j) * carry = 0 + Bs z * (P * val ((digs x).take j)) := by rw [HV.out, ← HP.out, Nat.zero_add]
          have h := addmul_round hv2 _ q rfl hq (Bs_add z j)
          rw [Nat.mul_zero, Nat.add_zero, Nat.zero_add] at h
          exact h
        case measure => simp [intOf]; omega
      · obtain rfl : j = (digs x).length := by omega
        have hcell := hzo.cell (j := z + (digs x).length) (by rw [HZL.out]; omega)
        have hfr := hzo.frozen (z + (digs x).length)
        have hfin := hzo.set (z + (digs x).length) carry
        have hraw := hfin.raw_all (okD_set hzd _ (by omega)) (by rw [List.length_set, HZL.out]; omega) (z + (digs x).length + 1) (z + (digs x).length + 1) (by rw [List.length_set]; exact HZL.out.symm) (Nat.le_refl _)
        have hbf := hbr.setCell (p := ⟨w.heap.size, z + (digs x).length, none⟩) (Nat.le_refl _) (.int .u32 (carry : Int))
        have hval : val (zs.set (z + (digs x).length) carry) = x * 2 ^ k := by
          have e := val_take_set (ds := zs) (k := z + (digs x).length) (by rw [HZL.out]; omega) carry
          rw [val_take_all (by rw [List.length_set, HZL.out]; omega)] at e
          rw [e, HV.out, val_take_all (Nat.le_refl _), val_digs, pow_split k, ← HZ.out, ← HS.out, ← HP.out]
          grind
        have HVAL := Lib.hid hval
        clear hval
        go_wp2_with fail
        refine (trim_is hraw HVAL).mono ?_
        rintro e w' ⟨rfl, hN, rfl⟩
        go_wp2_with fail
        go_ret
        exact ⟨_, _, _, rfl, hN, hbf⟩
theorem shr_core (P t u : Nat) (hP : 0 < P) : u / P % (P * t) = (u / (P * t) % (P * t) * (P * t) + u % (P * t)) / P % (P * t) := by
  have h1 := Nat.div_add_mod u (P * t)
  have h2 := Nat.div_add_mod (u / (P * t)) (P * t)
  generalize u / (P * t) % (P * t) = b at *
  generalize u / (P * t) / (P * t) = a at *
  generalize u % (P * t) = c at *
  rw [← h2] at h1
  have h3 : u = P * (P * t * (t * a)) + (b * (P * t) + c) := by rw [← h1]; grind
  rw [h3, Nat.mul_add_div hP, Nat.mul_add_mod]
/-- A digit of a shifted number. -/
theorem shr_digit (x s i : Nat) (hs : s < 32) : x / 2 ^ s / Bs i % 4294967296 = (x / Bs (i + 1) % 4294967296 * 4294967296 + x / Bs i % 4294967296) / 2 ^ s % 4294967296 := by
  obtain ⟨t, ht⟩ : ∃ t, 4294967296 = 2 ^ s * t := ⟨2 ^ (32 - s), by rw [← Nat.pow_add, show s + (32 - s) = 32 by omega]⟩
  have e1 : x / Bs (i + 1) = x / Bs i / 4294967296 := by rw [Bs_succ, Nat.mul_comm, ← Nat.div_div_eq_div_mul]
  rw [Nat.div_div_eq_div_mul, Nat.mul_comm (2 ^ s), ← Nat.div_div_eq_div_mul, e1, ht]
  exact shr_core _ _ _ (Nat.pow_pos (by omega))

theorem shr_or {s hi lo : Nat} (hh : hi < 4294967296) (hl : lo < 4294967296) : bits .or .u64 ((hi : Int) * 4294967296) (lo : Int) / 2 ^ s = ((((hi * 4294967296 + lo) / 2 ^ s : Nat)) : Int) := by
  have := u64_or_nat (hi * 4294967296) lo (by omega) (by omega)
  rw [Int.natCast_mul, show ((4294967296 : Nat) : Int) = 4294967296 from rfl] at this
  rw [this, show hi * 4294967296 = hi <<< 32 by rw [Nat.shiftLeft_eq], ← Nat.shiftLeft_add_eq_or_of_lt (by omega), Nat.shiftLeft_eq]
  norm_cast

theorem digit_ix {A : Option Addr} {n c : Nat} {ds : List Nat} {w : World} (h : Raw w (.slice A n c) ds) {i d : Nat} {q : Int} (hq : q = (i : Int)) (hd : Hid (ds.getD i 0 = d)) :
    Calls Tryz.prog 135 #[.slice A n c, .int .i64 q] w fun e w' => e = .returned (.int .u64 (d : Int)) ∧ w = w' := by
  subst hq; exact digit_is h hd

set_option maxRecDepth 100000 in
set_option maxHeartbeats 800000 in
theorem shr_is {A : Option Addr} {n c x : Nat} {ds : List Nat} {w : World} (hx : Raw w (.slice A n c) ds) (hvx : Hid (val ds = x)) (k : Nat) (hk : k < 18446744073709551616) :
    Calls Tryz.prog 136 #[.slice A n c, .int .u64 (k : Int)] w fun e w' => ∃ B m d, e = .returned (.slice B m d) ∧ Num w' (.slice B m d) (x / 2 ^ k) ∧ Below w.heap.size w w' := by
  obtain ⟨z, hz⟩ : ∃ z, z = k / 32 := ⟨_, rfl⟩
  obtain ⟨s, hs⟩ : ∃ s, s = k % 32 := ⟨_, rfl⟩
  have hs1 : s < 32 := by omega
  have hzi : (k : Int) / 32 = (z : Int) := by omega
  have hsi : (k : Int) % 32 = (s : Int) := by omega
  have hzb : z < 1000000000000000000 := by omega
  have hxk : x / 2 ^ k = x / Bs z / 2 ^ s := by rw [pow_split k, ← hz, ← hs, ← Nat.div_div_eq_div_mul]
  have HZ := Lib.hid hz
  have HS := Lib.hid hs
  have HXK := Lib.hid hxk
  clear hz hs hxk
  have hxl : (digs x).length ≤ 1000000000 := by
    have := hx.len
    rw [← hvx.out]
    exact Nat.le_trans (digs_length_le (val_lt hx.okD)) this
  rcases Nat.lt_or_ge z (digs x).length with hlt | hge
  · have hdec : decide ((digs x).length ≤ z) = false := by rw [decide_eq_false_iff_not]; omega
    obtain ⟨L, hL⟩ : ∃ L, (digs x).length - z = L := ⟨_, rfl⟩
    obtain ⟨A2, hA2⟩ : ∃ A2, Option.map (fun a : Addr => a.add z) A = A2 := ⟨_, rfl⟩
    obtain ⟨w1, hmk, hown, hb, hsz⟩ := make_row Tryz.underlying59 L (by omega) w
    have hLb : L ≤ 1000000000 := by omega
    have HO := Lib.hid hown
    clear hown hsz
    go_enter Tryz.func136, Tryz.ntmps136
    go_wp2_with fail
    refine (trim_is hx hvx).mono ?_
    rintro e w' ⟨rfl, hX, rfl⟩
    have hX' : Raw w (.slice A (digs x).length c) (digs x) := hX
    have hcx := hX'.cap.2
    have hdrop := hX'.drop (k := z) (by omega)
    rw [if_neg (by omega), hA2, hL] at hdrop
    have hD := Lib.hid hdrop
    clear hdrop hX'
    go_wp2_with fail
    rw [hsi]
    have HLL := Lib.hid hL
    clear hL hA2
    go_loopw [27] (fun i wr => ∃ (j : Nat) (zs : List Nat), i = .int .i64 j ∧ j ≤ L ∧ zs.length = L ∧ OkD zs ∧ Own wr w.heap.size zs ∧ Below w.heap.size w wr ∧
      val (zs.take j) = x / Bs z / 2 ^ s % Bs j) (fun i _ => L - (intOf i).toNat)
    case atStart => exact ⟨0, _, rfl, Nat.zero_le _, by simp, okD_replicate _ (by omega), HO.out, hb, by simp [val, Bs_zero, Nat.mod_one]⟩
    case round =>
      obtain ⟨j, zs, rfl, hj, hzl, hzd, hzo, hbr, hv⟩ := hrel
      have HV := Lib.hid hv
      have HZL := Lib.hid hzl
      clear hv hzl
      rcases Nat.lt_or_ge j (L) with hjl | hge
      · obtain ⟨hi, hhi⟩ : ∃ d, ((digs x).drop z).getD (j + 1) 0 = d := ⟨_, rfl⟩
        obtain ⟨lo, hlo⟩ : ∃ d, ((digs x).drop z).getD j 0 = d := ⟨_, rfl⟩
        have bhi : hi < 4294967296 := by rw [← hhi]; exact okD_getD (okD_drop (okD_digs x) z) _
        have blo : lo < 4294967296 := by rw [← hlo]; exact okD_getD (okD_drop (okD_digs x) z) _
        have hcell := hzo.cell (j := j) (by rw [HZL.out]; omega)
        have hfr := hzo.frozen j
        have HHI := Lib.hid hhi
        have HLO := Lib.hid hlo
        clear hhi hlo
        go_wp2_with fail
        refine (digit_ix (hD.out.below hbr) (i := j + 1) (by simp) HHI).mono ?_
        rintro e w' ⟨rfl, rfl⟩
        go_wp2_with fail
        refine (digit_ix (hD.out.below hbr) (i := j) rfl HLO).mono ?_
        rintro e w' ⟨rfl, rfl⟩
        go_wp2_with fail
        go_roundw
        case rel =>
          obtain ⟨q, hq⟩ : ∃ q, q = (hi * 4294967296 + lo) / 2 ^ s := ⟨_, rfl⟩
          rw [shr_or bhi blo, ← hq, show ((q : Int) % 4294967296) = ((q % 4294967296 : Nat) : Int) by omega]
          refine ⟨j + 1, _, by go_num, by omega, by rw [List.length_set]; exact HZL.out, okD_set hzd _ (by omega), hzo.set j _, hbr.setCell (Nat.le_refl _) _, ?_⟩
          rw [val_take_set (by rw [HZL.out]; omega), HV.out, Bs_succ, Nat.mul_comm 4294967296, Nat.mod_mul]
          have e1 : hi = x / Bs z / Bs (j + 1) % 4294967296 := by rw [← HHI.out, val_digit _ (okD_drop (okD_digs x) z), val_drop _ (okD_digs x) z (by omega), val_digs]
          have e2 : lo = x / Bs z / Bs j % 4294967296 := by rw [← HLO.out, val_digit _ (okD_drop (okD_digs x) z), val_drop _ (okD_digs x) z (by omega), val_digs]
          rw [shr_digit _ s j hs1, hq, e1, e2]
        case measure => simp [intOf]; omega
      · have hjL : j = L := by omega
        have hval : val zs = x / 2 ^ k := by
          have h := HV.out
          rw [val_take_all (by rw [HZL.out]; omega)] at h
          rw [h, HXK.out]
          refine Nat.mod_eq_of_lt (Nat.lt_of_le_of_lt (Nat.div_le_self _ _) ?_)
          rw [Nat.div_lt_iff_lt_mul (Bs_pos z), ← Bs_add, hjL, show L + z = (digs x).length by have := HLL.out; omega]
          exact lt_of_digs_length (Nat.le_refl _)
        have hraw := hzo.raw_all hzd (by rw [HZL.out]; omega) (L) (L) HZL.out.symm (Nat.le_refl _)
        have HVAL := Lib.hid hval
        have HJ := Lib.hid hjL
        clear hval hjL
        go_wp2_with fail
        refine (trim_is hraw HVAL).mono ?_
        rintro e w' ⟨rfl, hN, rfl⟩
        go_wp2_with fail
        go_ret
        exact ⟨_, _, _, rfl, hN, hbr⟩
  · have hdec : decide ((digs x).length ≤ z) = true := by rw [decide_eq_true_iff]; omega
    have hval : x / 2 ^ k = 0 := by
      rw [HXK.out, Nat.div_eq_of_lt (digs_length_le_iff.1 hge), Nat.zero_div]
    have HVAL := Lib.hid hval
    clear hval
    go_enter Tryz.func136, Tryz.ntmps136
    go_wp2_with fail
    refine (trim_is hx hvx).mono ?_
    rintro e w' ⟨rfl, hX, rfl⟩
    go_wp2_with fail
    go_ret
    exact ⟨_, _, _, rfl, by rw [HVAL.out]; exact num_zero _ _, Below.refl _ _⟩
end Go.Proofs.YthmmnmajkeoaaabGreatDoor
namespace Go.Proofs.YthmmnmajkeoaaabGreatDoor

theorem est_le {P D T p0 P0 d1 d0 D0 b q : Nat} (hP : P = (T * 4294967296 + p0) * b + P0) (hD : D = (d1 * 4294967296 + d0) * b + D0) (hP0 : P0 < b) (hp0 : p0 < 4294967296) (h : q * D ≤ P) : q * d1 ≤ T := by
  rcases Nat.lt_or_ge T (q * d1) with hlt | hge
  · exfalso
    have h1 : (T + 1) * (4294967296 * b) ≤ q * d1 * (4294967296 * b) := Nat.mul_le_mul_right _ hlt
    have h2 : q * d1 * (4294967296 * b) ≤ q * D := by
      rw [hD, Nat.mul_assoc]
      refine Nat.mul_le_mul_left q ?_
      have : (d1 * 4294967296 + d0) * b = d1 * (4294967296 * b) + d0 * b := by grind
      omega
    have h3 : P < (T + 1) * (4294967296 * b) := by
      have h4 : (T * 4294967296 + p0) * b + b ≤ (T + 1) * (4294967296 * b) := by
        have : (T + 1) * (4294967296 * b) = (T * 4294967296 + 4294967296) * b := by grind
        rw [this, show (T * 4294967296 + p0) * b + b = (T * 4294967296 + p0 + 1) * b by grind]
        exact Nat.mul_le_mul_right b (by omega)
      omega
    omega
  · exact hge
theorem est_down {P D T p0 P0 d1 d0 D0 b q r : Nat} (hP : P = (T * 4294967296 + p0) * b + P0) (hD : D = (d1 * 4294967296 + d0) * b + D0) (hP0 : P0 < b) (hq : q * d1 + r = T) (h : r * 4294967296 + p0 < q * d0) : P < q * D := by
  have h1 : T * 4294967296 + p0 + 1 ≤ q * (d1 * 4294967296 + d0) := by
    have : q * (d1 * 4294967296 + d0) = q * d1 * 4294967296 + q * d0 := by grind
    rw [this, ← hq]; omega
  have h2 : (T * 4294967296 + p0 + 1) * b ≤ q * (d1 * 4294967296 + d0) * b := Nat.mul_le_mul_right b h1
  have h3 : q * (d1 * 4294967296 + d0) * b ≤ q * D := by
    rw [hD, Nat.mul_assoc]; exact Nat.mul_le_mul_left q (Nat.le_add_right _ _)
  have h4 : (T * 4294967296 + p0 + 1) * b = (T * 4294967296 + p0) * b + b := by grind
  omega
theorem est_up {P D T p0 P0 d1 d0 D0 b q r : Nat} (hP : P = (T * 4294967296 + p0) * b + P0) (hD : D = (d1 * 4294967296 + d0) * b + D0) (hD0 : D0 < b) (hd1 : 0 < d1) (hqB : q < 4294967296) (hq : q * d1 + r = T) (h : q * d0 ≤ r * 4294967296 + p0) : q ≤ P / D + 1 := by
  have h1 : q * (d1 * 4294967296 + d0) ≤ T * 4294967296 + p0 := by
    have : q * (d1 * 4294967296 + d0) = q * d1 * 4294967296 + q * d0 := by grind
    rw [this, ← hq]; omega
  have h2 : q * (d1 * 4294967296 + d0) * b ≤ (T * 4294967296 + p0) * b := Nat.mul_le_mul_right b h1
  have hq1 : q ≤ 4294967295 := by omega
  have hD1 : D0 ≤ b := by omega
  have h3 : q * D0 ≤ 4294967295 * b := Nat.mul_le_mul hq1 hD1
  have h4 : q * D = q * (d1 * 4294967296 + d0) * b + q * D0 := by rw [hD]; grind
  have h5a : 4294967296 ≤ d1 * 4294967296 + d0 := by omega
  have h5 : 4294967296 * b ≤ (d1 * 4294967296 + d0) * b := Nat.mul_le_mul_right b h5a
  have hDpos : 0 < D := by omega
  have h6 : q * D < P + D := by omega
  have h7 := Nat.div_add_mod P D
  have h8 := Nat.mod_lt P hDpos
  have h9 : q * D < (P / D + 2) * D := by
    have : (P / D + 2) * D = D * (P / D) + D + D := by grind
    omega
  have := Nat.lt_of_mul_lt_mul_right h9
  omega
end Go.Proofs.YthmmnmajkeoaaabGreatDoor
namespace Go.Proofs.YthmmnmajkeoaaabGreatDoor
open Go.RowKit

theorem u64_eq {a b : Int} (h : a = b) : Value.int .u64 a = Value.int .u64 b := by rw [h]
theorem val_top2 {ps : List Nat} {m : Nat} (hl : ps.length = m + 2) : val ps = (ps.getD (m + 1) 0 * 4294967296 + ps.getD m 0) * Bs m + val (ps.take m) := by
  have h1 := val_take_succ ps (m + 1) (by omega)
  have h2 := val_take_succ ps m (by omega)
  rw [val_take_all (by omega)] at h1
  have b1 : Bs (m + 1) = 4294967296 * Bs m := Bs_succ m
  rw [h1, h2, b1]
  generalize ps.getD (m + 1) 0 = u
  generalize ps.getD m 0 = v
  generalize val (ps.take m) = t
  generalize Bs m = b
  clear h1 h2 b1 hl
  grind
theorem val_top3 {ps : List Nat} {m : Nat} (hl : ps.length = m + 3) : val ps = ((ps.getD (m + 2) 0 * 4294967296 + ps.getD (m + 1) 0) * 4294967296 + ps.getD m 0) * Bs m + val (ps.take m) := by
  have h0 := val_take_succ ps (m + 2) (by omega)
  have h1 := val_take_succ ps (m + 1) (by omega)
  have h2 := val_take_succ ps m (by omega)
  rw [val_take_all (by omega)] at h0
  have b1 : Bs (m + 1) = 4294967296 * Bs m := Bs_succ m
  have b2 : Bs (m + 2) = 4294967296 * Bs (m + 1) := Bs_succ (m + 1)
  rw [h0, h1, h2, b2, b1]
  generalize ps.getD (m + 2) 0 = t
  generalize ps.getD (m + 1) 0 = u
  generalize ps.getD m 0 = v
  generalize val (ps.take m) = r
  generalize Bs m = b
  clear h0 h1 h2 b1 b2 hl
  grind

set_option maxRecDepth 100000 in
set_option maxHeartbeats 1600000 in
theorem estimate_any {A A' : Option Addr} {m n n' c c' : Nat} {ps es : List Nat} {w : World} (hx : Raw w (.slice A n c) ps) (hy : Raw w (.slice A' n' c') es) (hn : n = m + 3) (hn' : n' = m + 2) (hd1 : 0 < es.getD (m + 1) 0) (hlt : val ps < 4294967296 * val es) :
    Calls Tryz.prog 139 #[.slice A n c, .slice A' n' c'] w fun e w' => ∃ q : Nat, e = .returned (.int .u32 (q : Int)) ∧ q < 4294967296 ∧ val ps / val es ≤ q ∧ q ≤ val ps / val es + 1 ∧ ∃ j, w' = w.drewN j := by
  subst hn
  subst hn'
  have hl1 := hx.cap.1
  have hl2 := hy.cap.1
  have hm9 : m + 3 ≤ 1000000000 := by have := hx.len; omega
  obtain ⟨ad, hA, hb1, c2⟩ := hx.at_ (j := m + 2) (by omega)
  obtain ⟨ad2, hA2, hb2, c1⟩ := hx.at_ (j := m + 1) (by omega)
  obtain ⟨ad3, hA3, hb3, c0⟩ := hx.at_ (j := m) (by omega)
  obtain rfl : ad = ad2 := Option.some.inj (hA.symm.trans hA2)
  obtain rfl : ad = ad3 := Option.some.inj (hA.symm.trans hA3)
  obtain ⟨ae, hE, hb4, k1⟩ := hy.at_ (j := m + 1) (by omega)
  obtain ⟨ae2, hE2, hb5, k0⟩ := hy.at_ (j := m) (by omega)
  obtain rfl : ae = ae2 := Option.some.inj (hE.symm.trans hE2)
  subst hA
  subst hE
  clear hA2 hA3 hE2
  have vp := val_top3 hl1.symm
  have ve := val_top2 hl2.symm
  have tp := val_take_lt hx.okD m
  have te := val_take_lt hy.okD m
  obtain ⟨p2, h2⟩ : ∃ d, ps.getD (m + 2) 0 = d := ⟨_, rfl⟩
  obtain ⟨p1, h1⟩ : ∃ d, ps.getD (m + 1) 0 = d := ⟨_, rfl⟩
  obtain ⟨p0, h0⟩ : ∃ d, ps.getD m 0 = d := ⟨_, rfl⟩
  obtain ⟨d1, e1⟩ : ∃ d, es.getD (m + 1) 0 = d := ⟨_, rfl⟩
  obtain ⟨d0, e0⟩ : ∃ d, es.getD m 0 = d := ⟨_, rfl⟩
  have b2 : p2 < 4294967296 := by rw [← h2]; exact okD_getD hx.okD _
  have b1 : p1 < 4294967296 := by rw [← h1]; exact okD_getD hx.okD _
  have b0 : p0 < 4294967296 := by rw [← h0]; exact okD_getD hx.okD _
  have g1 : d1 < 4294967296 := by rw [← e1]; exact okD_getD hy.okD _
  have g0 : d0 < 4294967296 := by rw [← e0]; exact okD_getD hy.okD _
  rw [h2, h1, h0] at vp
  rw [h2] at c2
  rw [h1] at c1
  rw [h0] at c0
  rw [e1, e0] at ve
  rw [e1] at k1 hd1
  rw [e0] at k0
  obtain ⟨P, hP⟩ : ∃ P, val ps = P := ⟨_, rfl⟩
  obtain ⟨D, hD⟩ : ∃ D, val es = D := ⟨_, rfl⟩
  obtain ⟨T, hT⟩ : ∃ T, p2 * 4294967296 + p1 = T := ⟨_, rfl⟩
  rw [hP] at vp hlt ⊢
  rw [hD] at ve hlt ⊢
  rw [hT] at vp
  have hTb : T < 18446744073709551616 := by omega
  have hor := or_shift p2 p1 b2 b1
  rw [hT] at hor
  have VP := Lib.hid vp
  have VE := Lib.hid ve
  have TP := Lib.hid tp
  have TE := Lib.hid te
  have HLT := Lib.hid hlt
  clear vp ve tp te hlt h2 h1 h0 e1 e0 hP hD hl1 hl2 hx hy
  obtain ⟨tq, htq⟩ : ∃ t, T / d1 = t := ⟨_, rfl⟩
  have htqi : (T : Int) / (d1 : Int) = (tq : Int) := by rw [← htq]; norm_cast
  have htqT : tq ≤ T := by rw [← htq]; exact Nat.div_le_self _ _
  obtain ⟨q0, hq0⟩ : ∃ q, q = min tq 4294967295 := ⟨_, rfl⟩
  have hq0d : q0 * d1 ≤ T := by
    have : q0 * d1 ≤ tq * d1 := Nat.mul_le_mul_right _ (by omega)
    have h3 : tq * d1 ≤ T := by rw [← htq]; exact Nat.div_mul_le_self T d1
    omega
  have hmin : ∀ W : World, (Builtin.min_ #[108, 108] 108 #[.int .u64 (tq : Int), .int .u64 4294967295]).run Tryz.prog W = .ok (.int .u64 (q0 : Int)) W := fun W => by
    rw [run_min_int2]; congr 2; split <;> omega
  have hQ0 : P / D ≤ q0 := by
    have hle : P / D * D ≤ P := Nat.div_mul_le_self P D
    have h1 := est_le VP.out VE.out TP.out b0 hle
    have h2 : P / D ≤ tq := by rw [← htq]; exact (Nat.le_div_iff_mul_le hd1).2 h1
    have h3 : P / D < 4294967296 := Nat.div_lt_of_lt_mul (by rw [Nat.mul_comm]; exact HLT.out)
    omega
  have HQ0 := Lib.hid hQ0
  have HQ := Lib.hid hq0
  have hq0b : q0 < 4294967296 := by omega
  have HTQ := Lib.hid htq
  have HT := Lib.hid hT
  clear hQ0 hq0 htq hT
  have hmb := mul_bound2 hq0b g1
  have c2' : w.cell? ⟨ad.block, ad.off + (m + 1 + 1), none⟩ = some (.int .u32 (p2 : Int)) := by rw [← c2]; congr 1
  have c1' : w.cell? ⟨ad.block, ad.off + (m + 1), none⟩ = some (.int .u32 (p1 : Int)) := by rw [← c1]; congr 1
  have k1' : w.cell? ⟨ae.block, ae.off + (m + 1), none⟩ = some (.int .u32 (d1 : Int)) := by rw [← k1]; congr 1
  clear c2 c1 k1
  have i1 : IntKind.i64.wrap ((m : Int) + 2 - 1) = (m : Int) + 1 := by rw [IntWalk.i64_in _ (by omega)]; omega
  have i2 : IntKind.i64.wrap ((m : Int) + 2 - 2) = (m : Int) := by rw [IntWalk.i64_in _ (by omega)]; omega
  have i3 : ((m : Int) + 2).toNat = m + 2 := by omega
  have i4 : ((m : Int) + 1).toNat = m + 1 := by omega
  have i5 : (0 : Int) ≤ (m : Int) + 2 := by omega
  have i6 : (0 : Int) ≤ (m : Int) + 1 := by omega
  have i7 : (0 : Int) ≤ (m : Int) := by omega
  have i8 : (m : Int) + 2 < (m : Int) + 3 := by omega
  have i9 : (m : Int) + 1 < (m : Int) + 3 := by omega
  have i10 : (m : Int) + 1 < (m : Int) + 2 := by omega
  have i11 : (m : Int) < (m : Int) + 2 := by omega
  go_enter Tryz.func139, Tryz.ntmps139
  go_wp2_with fail
  go_quiet (fail)
  go_wp2_with fail
  go_loop [9, 10] (fun qv rv => ∃ q r : Nat, qv = .int .u64 q ∧ rv = .int .u64 r ∧ q < 4294967296 ∧ q * d1 + r = T ∧ P / D ≤ q) (fun qv _ => (intOf qv).toNat)
  case atStart => exact ⟨q0, T - q0 * d1, rfl, by congr 1; omega, hq0b, by omega, HQ0.out⟩
  case round =>
    obtain ⟨q, r, rfl, rfl, hqb, hqr, hQ⟩ := hrel
    clear hor htqi htqT hq0d hmin hq0b hmb c1' c2' k1' k0 i1 i3 i4 i5 i6 i8 i9 i10
    have HQR := Lib.hid hqr
    have HQQ := Lib.hid hQ
    have hrT : r < 18446744073709551616 := by omega
    have hqm := mul_bound2 hqb g0
    have hfin : q * d0 ≤ r * 4294967296 + p0 → q ≤ P / D + 1 := fun h => est_up VP.out VE.out TE.out hd1 hqb HQR.out h
    have HF := Lib.hid hfin
    clear hqr hQ hfin
    rcases Nat.lt_or_ge r 4294967296 with hrB | hrB
    · have hor2 := or_shift r p0 hrB b0
      obtain ⟨E, hE⟩ : ∃ E, r * 4294967296 + p0 = E := ⟨_, rfl⟩
      rw [hE] at hor2
      have hEb : E < 18446744073709551616 := by omega
      have HE := Lib.hid hE
      have HRB := Lib.hid hrB
      have hri : (r : Int) ≤ 4294967295 := by omega
      have hdc : decide ((r : Int) < 4294967296) = true := by rw [decide_eq_true_iff]; omega
      clear hE hrB
      rcases Nat.lt_or_ge E (q * d0) with hgt | hle
      · have hPq : P < q * D := est_down VP.out VE.out TP.out HQR.out (by rw [HE.out]; exact hgt)
        have hq1 : 1 ≤ q := by
          rcases Nat.eq_zero_or_pos q with h0 | h0
          · rw [h0] at hgt; omega
          · exact h0
        have hQ1 : P / D ≤ q - 1 := by
          have hDp : 0 < D := by
            rcases Nat.eq_zero_or_pos D with h0 | h0
            · rw [h0] at hPq; omega
            · exact h0
          have := (Nat.div_lt_iff_lt_mul hDp).2 hPq
          omega
        have hq2 : (q - 1) * d1 + (r + d1) = T := by
          have h := HQR.out
          have e : (q - 1) * d1 + d1 = q * d1 := by
            obtain ⟨q', rfl⟩ : ∃ q', q = q' + 1 := ⟨q - 1, by omega⟩
            rw [Nat.add_sub_cancel, Nat.add_mul, Nat.one_mul]
          omega
        have HPQ := Lib.hid hPq
        have HQ1 := Lib.hid hQ1
        have HQ2 := Lib.hid hq2
        have hdc2 : decide ((E : Int) < (q : Int) * (d0 : Int)) = true := by rw [decide_eq_true_iff]; exact_mod_cast hgt
        have hdc3 : decide (E < q * d0) = true := by rw [decide_eq_true_iff]; exact hgt
        clear hPq hQ1 hq2 hgt
        go_wp2_with fail
        go_round
        case rel => exact ⟨q - 1, r + d1, u64_eq (by clear hor2; omega), u64_eq (by clear hor2; omega), by clear hor2; omega, HQ2.out, HQ1.out⟩
        case measure => simp [intOf]; omega
      · have hdc2 : decide ((E : Int) < (q : Int) * (d0 : Int)) = false := by rw [decide_eq_false_iff_not]; exact_mod_cast (Nat.not_lt.2 hle)
        have hdc3 : decide (E < q * d0) = false := by rw [decide_eq_false_iff_not]; omega
        have HLE := Lib.hid hle
        clear hle
        go_wp2_with fail
        go_ret
        exact ⟨q, rfl, hqb, HQQ.out, HF.out (by rw [HE.out]; exact HLE.out), _, rfl⟩
    · have hle : q * d0 ≤ r * 4294967296 + p0 := by omega
      have HLE := Lib.hid hle
      have hdc : decide ((r : Int) < 4294967296) = false := by rw [decide_eq_false_iff_not]; omega
      clear hle hrB
      go_wp2_with fail
      go_ret
      exact ⟨q, rfl, hqb, HQQ.out, HF.out HLE.out, _, rfl⟩
end Go.Proofs.YthmmnmajkeoaaabGreatDoor
namespace Go.Proofs.YthmmnmajkeoaaabGreatDoor
open Go.RowKit

theorem u64_eq' {a b : Int} (h : a = b) : Value.int .u64 a = Value.int .u64 b := by rw [h]
theorem ret_i64' {a b : Int} (h : a = b) : Ending.returned (.int .i64 a) = .returned (.int .i64 b) := by rw [h]
theorem ret_bool {a b : Bool} (h : a = b) : Ending.returned (.bool a) = .returned (.bool b) := by rw [h]
theorem sub_step (pd md : Nat) (h1 : pd < 4294967296) (h2 : md < 4294967296) : ∃ d b' : Nat, d < 4294967296 ∧ b' ≤ 1 ∧
    IntKind.u64.wrap ((pd : Int) - (md : Int)) % 4294967296 = (d : Int) ∧ IntKind.u64.wrap ((pd : Int) - (md : Int)) / 9223372036854775808 = (b' : Int) ∧ d + md = pd + 4294967296 * b' ∧ (b' = 1 → pd < md) := by
  rw [IntKind.wrap_u64]
  by_cases h : md ≤ pd
  · exact ⟨pd - md, 0, by omega, by omega, by omega, by omega, by omega, by omega⟩
  · exact ⟨4294967296 + pd - md, 1, by omega, by omega, by omega, by omega, by omega, by omega⟩
theorem sub_carry {c q dy b' pd : Nat} (hc : c < 4294967296) (hq : q < 4294967296) (hd : dy < 4294967296) (hb : b' ≤ 1) (h : b' = 1 → pd < (c + q * dy) % 4294967296) : (c + q * dy) / 4294967296 + b' < 4294967296 := by
  have h1 : q * dy ≤ 4294967295 * 4294967295 := Nat.mul_le_mul (by omega) (by omega)
  generalize q * dy = t at *
  omega
theorem submul_round {V b Bo q E dz S carry d md b' bk dy Cq : Nat} (h : V + Bo * (q * E) = S + b * carry) (hb : b = Bo * bk) (h1 : carry + q * dy = md + 4294967296 * Cq) (h2 : d + md = dz + 4294967296 * b') :
    V + b * d + Bo * (q * (E + bk * dy)) = S + b * dz + 4294967296 * b * (Cq + b') := by
  subst hb; grind
theorem submul_last {V b X S carry d pn b' : Nat} (h : V + X = S + b * carry) (h2 : d + carry = pn + 4294967296 * b') : V + b * d + X = S + b * pn + 4294967296 * b * b' := by
  grind

set_option maxRecDepth 100000 in
set_option maxHeartbeats 1600000 in
theorem submul_any {g o n c c' : Nat} {A' : Option Addr} {zs es : List Nat} {w : World} (q : Nat) (hq : q < 4294967296) (hz : Own w g zs) (hzd : OkD zs) (hzl : zs.length ≤ 1000000000)
    (hy : Raw w (.slice A' n c') es) (hne : 0 < es.length → ∀ ad, A' = some ad → ad.block ≠ g) (hon : o + n + 1 ≤ zs.length) (hc : n + 1 ≤ c) :
    Calls Tryz.prog 140 #[.slice (some ⟨g, o, none⟩) (n + 1) c, .slice A' n c', .int .u32 (q : Int)] w fun e w' => ∃ (nb : Nat) (zs' : List Nat), e = .returned (.bool (nb == 1)) ∧ nb ≤ 1 ∧ Own w' g zs' ∧ OkD zs' ∧ zs'.length = zs.length ∧ w.grownBy w' (some g) ∧
      zs'.take o = zs.take o ∧ zs'.drop (o + n + 1) = zs.drop (o + n + 1) ∧ val (zs'.take (o + n + 1)) + Bs o * (q * val es) = val (zs.take (o + n + 1)) + Bs (o + n + 1) * nb := by
  obtain ⟨hn, hc'⟩ := hy.cap
  subst hn
  go_enter Tryz.func140, Tryz.ntmps140
  go_wp2_with fail
  go_loopw [8, 15] (fun cr i wr => ∃ (k carry : Nat) (zk : List Nat), i = .int .i64 k ∧ cr = .int .u64 carry ∧ k ≤ es.length ∧ carry < 4294967296 ∧ zk.length = zs.length ∧ OkD zk ∧ Own wr g zk ∧ w.grownBy wr (some g) ∧
      zk.take o = zs.take o ∧ zk.drop (o + k) = zs.drop (o + k) ∧ val (zk.take (o + k)) + Bs o * (q * val (es.take k)) = val (zs.take (o + k)) + Bs (o + k) * carry) (fun _ i _ => es.length - (intOf i).toNat)
  case atStart => exact ⟨0, 0, zs, rfl, rfl, Nat.zero_le _, by omega, rfl, hzd, hz, World.grownBy.refl w _, rfl, rfl, by simp [val]⟩
  case round =>
    obtain ⟨k, carry, zk, rfl, rfl, hk, hcar, hzkl, hzkd, hzko, hgr, ht, hdr, hv⟩ := hrel
    have HV := Lib.hid hv
    have HT := Lib.hid ht
    have HDR := Lib.hid hdr
    have HZL := Lib.hid hzkl
    clear hv ht hdr hzkl
    obtain ⟨dz, hdz⟩ : ∃ d, zk.getD (o + k) 0 = d := ⟨_, rfl⟩
    have bz : dz < 4294967296 := by rw [← hdz]; exact okD_getD hzkd _
    have hcz := hzko.cell (j := o + k) (by rw [HZL.out]; omega)
    have hfr := hzko.frozen (o + k)
    rw [hdz] at hcz
    have HDZ := Lib.hid hdz
    clear hdz
    have hgz : zs.getD (o + k) 0 = dz := by rw [← HDZ.out]; exact (getD_of_drop HDR.out).symm
    have HGZ := Lib.hid hgz
    clear hgz
    rcases Nat.lt_or_ge k es.length with hlt | hge
    · obtain ⟨ad', hA', hb', hcy⟩ := (hy.keepBut hgr (fun h0 A n c hv ad hA => hne h0 ad (by injection hv with h1; rw [h1]; exact hA))).at_ (j := k) hlt
      subst hA'
      obtain ⟨dy, hdy⟩ : ∃ d, es.getD k 0 = d := ⟨_, rfl⟩
      have by_ : dy < 4294967296 := by rw [← hdy]; exact okD_getD hy.okD k
      rw [hdy] at hcy
      have HDY := Lib.hid hdy
      clear hdy
      have m2 := mul_bound2 hq by_
      go_wp2_with fail
      go_roundw
      case rel =>
        obtain ⟨C, hC⟩ : ∃ C, C = carry + q * dy := ⟨_, rfl⟩
        have eC : ((carry : Int) + (q : Int) * (dy : Int)) = (C : Int) := by rw [hC]; simp
        rw [eC, and_mask (by omega) (by omega)]
        obtain ⟨d, b', hd, hb1, s1, s2, s3, s4⟩ := sub_step dz (C % 4294967296) bz (by omega)
        rw [show ((C : Int) % 4294967296) = ((C % 4294967296 : Nat) : Int) by omega, s1, s2, show ((C : Int) / 4294967296) = ((C / 4294967296 : Nat) : Int) by omega]
        have hcb : C / 4294967296 + b' < 4294967296 := by rw [hC]; exact sub_carry hcar hq by_ hb1 (by rw [← hC]; exact s4)
        refine ⟨k + 1, C / 4294967296 + b', _, by go_num, u64_eq' (by rw [IntKind.wrap_u64]; omega), by omega, hcb, by rw [List.length_set]; exact HZL.out, okD_set hzkd _ hd, hzko.set (o + k) _, only_set hgr _ _, ?_, ?_, ?_⟩
        · rw [List.take_set_of_le (by omega), HT.out]
        · rw [List.drop_set_of_lt (by omega), ← Nat.add_assoc, ← List.drop_drop, HDR.out, List.drop_drop]
        · rw [← Nat.add_assoc, val_take_set (by rw [HZL.out]; omega), val_take_succ', val_take_succ', HDY.out, HGZ.out, Bs_succ]
          exact submul_round HV.out (Bs_add o k) (by rw [← hC]; omega) s3
      case measure => simp [intOf]; omega
    · obtain rfl : k = es.length := by omega
      have hv := HV.out
      rw [val_take_all (Nat.le_refl _)] at hv
      have HV2 := Lib.hid hv
      clear hv
      have fin : ∀ d b' : Nat, d < 4294967296 → b' ≤ 1 → d + carry = dz + 4294967296 * b' → ∃ zs' : List Nat, zs' = zk.set (o + es.length) d ∧ OkD zs' ∧ zs'.length = zs.length ∧ zs'.take o = zs.take o ∧ zs'.drop (o + es.length + 1) = zs.drop (o + es.length + 1) ∧ val (zs'.take (o + es.length + 1)) + Bs o * (q * val es) = val (zs.take (o + es.length + 1)) + Bs (o + es.length + 1) * b' := by
        intro d b' hd _ hdb
        refine ⟨_, rfl, okD_set hzkd _ hd, by rw [List.length_set]; exact HZL.out, ?_, ?_, ?_⟩
        · rw [List.take_set_of_le (by omega), HT.out]
        · rw [List.drop_set_of_lt (by omega), ← List.drop_drop, HDR.out, List.drop_drop]
        · rw [val_take_set (by rw [HZL.out]; omega), val_take_succ', HGZ.out, Bs_succ]
          exact submul_last HV2.out hdb
      have FIN := Lib.hid fin
      clear fin
      rcases Nat.lt_or_ge dz carry with hlt | hge2
      · have hdc : (IntKind.u64.wrap ((dz : Int) - (carry : Int)) / 9223372036854775808 == 1) = true := by
          rw [IntKind.wrap_u64, beq_iff_eq]; omega
        have e1 : IntKind.u64.wrap ((dz : Int) - (carry : Int)) % 4294967296 = ((4294967296 + dz - carry : Nat) : Int) := by rw [IntKind.wrap_u64]; omega
        obtain ⟨zs', hzs', f1, f2, f3, f4, f5⟩ := FIN.out (4294967296 + dz - carry) 1 (by omega) (by omega) (by omega)
        have E1 := Lib.hid e1
        have HZS := Lib.hid hzs'
        have F2 := Lib.hid f2
        have F3 := Lib.hid f3
        have F4 := Lib.hid f4
        have F5 := Lib.hid f5
        have HDC := Lib.hid hdc
        clear e1 hzs' f2 f3 f4 f5 hdc
        go_wp2_with fail
        go_ret
        exact ⟨1, zs', ret_bool HDC.out, by omega, by rw [E1.out, HZS.out]; exact hzko.set _ _, f1, F2.out, only_set hgr _ _, F3.out, F4.out, F5.out⟩
      · have e1 : (dz : Int) - (carry : Int) = ((dz - carry : Nat) : Int) := by omega
        have hdc : (((dz : Int) - (carry : Int)) / 9223372036854775808 == 1) = false := by rw [beq_eq_false_iff_ne]; omega
        obtain ⟨zs', hzs', f1, f2, f3, f4, f5⟩ := FIN.out (dz - carry) 0 (by omega) (by omega) (by omega)
        have E1 := Lib.hid e1
        have HZS := Lib.hid hzs'
        have F2 := Lib.hid f2
        have F3 := Lib.hid f3
        have F4 := Lib.hid f4
        have F5 := Lib.hid f5
        have HDC := Lib.hid hdc
        clear e1 hzs' f2 f3 f4 f5 hdc
        go_wp2_with fail
        go_ret
        exact ⟨0, zs', ret_bool HDC.out, by omega, by rw [E1.out, HZS.out]; exact hzko.set _ _, f1, F2.out, only_set hgr _ _, F3.out, F4.out, F5.out⟩
end Go.Proofs.YthmmnmajkeoaaabGreatDoor
namespace Go.Proofs.YthmmnmajkeoaaabGreatDoor

/-- What lies above the part is 0, and the part is less than base times divisor. -/
theorem round_part {zs : List Nat} {j n D : Nat} (hlen : j + n + 1 ≤ zs.length) (hD : D < Bs n) (hR : val zs < Bs (j + 1) * D) :
    val (zs.drop (j + n + 1)) = 0 ∧ val zs = val (zs.take j) + Bs j * val ((zs.drop j).take (n + 1)) ∧ val ((zs.drop j).take (n + 1)) < 4294967296 * D := by
  have h1 := val_take_drop zs (j + n + 1) hlen
  have h2 : Bs (j + 1) * D ≤ Bs (j + n + 1) := by
    rw [show j + n + 1 = (j + 1) + n by omega, Bs_add (j + 1) n]; exact Nat.mul_le_mul_left _ (by omega)
  have h3 : val (zs.drop (j + n + 1)) = 0 := by
    rcases Nat.eq_zero_or_pos (val (zs.drop (j + n + 1))) with h | h
    · exact h
    · have := Nat.mul_le_mul_left (Bs (j + n + 1)) h
      omega
  have h4 := val_take_drop zs j (by omega)
  have h5 := val_take_drop (zs.drop j) (n + 1) (by rw [List.length_drop]; omega)
  rw [List.drop_drop, show j + (n + 1) = j + n + 1 by omega, h3, Nat.mul_zero, Nat.add_zero] at h5
  rw [h5] at h4
  refine ⟨h3, h4, ?_⟩
  have h6 : Bs j * val ((zs.drop j).take (n + 1)) < Bs j * (4294967296 * D) := by
    have : Bs j * (4294967296 * D) = Bs (j + 1) * D := by rw [Bs_succ]; grind
    omega
  exact Nat.lt_of_mul_lt_mul_left h6

theorem take_split {zs : List Nat} {j n : Nat} (hlen : j + n ≤ zs.length) : val (zs.take (j + n)) = val (zs.take j) + Bs j * val ((zs.drop j).take n) := by
  have h := val_take_drop (zs.take (j + n)) j (by rw [List.length_take]; omega)
  rw [List.take_take, Nat.min_eq_left (by omega), List.drop_take, show j + n - j = n by omega] at h
  exact h
theorem cancel_round {T b p x y z : Nat} (hb : 0 < b) (h : T + b * p + b * x = T + b * y + b * z) : p + x = y + z := by
  have : b * (p + x) = b * (y + z) := by rw [Nat.mul_add, Nat.mul_add]; omega
  exact Nat.eq_of_mul_eq_mul_left hb this

/-- The estimate was right: nothing is to be taken back. -/
theorem round_right {P D q P' : Nat} (hle : P / D ≤ q) (hD : 0 < D) (h : P' + q * D = P) : q = P / D ∧ P' = P % D := by
  have h1 : q ≤ P / D := (Nat.le_div_iff_mul_le hD).2 (by omega)
  have h2 : q = P / D := by omega
  refine ⟨h2, ?_⟩
  have h3 := Nat.div_add_mod P D
  rw [← h2, Nat.mul_comm] at h3
  omega
/-- The estimate was too great by 1. -/
theorem round_wrong {P D q P' bn : Nat} (hle : q ≤ P / D + 1) (hP' : P' < 4294967296 * bn) (h : P' + q * D = P + 4294967296 * bn) : q = P / D + 1 ∧ P' + D = P % D + 4294967296 * bn := by
  have h1 : ¬ q ≤ P / D := fun hq => by
    have := Nat.mul_le_mul_right D hq
    have h3 := Nat.div_mul_le_self P D
    omega
  have h2 : q = P / D + 1 := by omega
  refine ⟨h2, ?_⟩
  have h3 := Nat.div_add_mod P D
  rw [h2, Nat.add_mul, Nat.one_mul, Nat.mul_comm] at h
  omega
/-- Adding the divisor back: the carry is 1, the highest digit becomes 0. -/
theorem round_back {low low2 pn carry bn r D : Nat} (hlow : low < bn) (hlow2 : low2 < bn) (hpn : pn < 4294967296) (hr : r < D) (hD : D < bn) (h1 : low2 + bn * carry = low + D) (h2 : low + bn * pn + D = r + 4294967296 * bn) : carry = 1 ∧ pn = 4294967295 ∧ low2 = r := by
  have e1 : low2 + bn * (carry + pn) = r + bn * 4294967296 := by rw [Nat.mul_add]; omega
  have e2 : (low2 + bn * (carry + pn)) % bn = low2 := by rw [Nat.add_mul_mod_self_left, Nat.mod_eq_of_lt hlow2]
  have e3 : (r + bn * 4294967296) % bn = r := by rw [Nat.add_mul_mod_self_left, Nat.mod_eq_of_lt (by omega)]
  have e4 : low2 = r := by rw [← e2, e1, e3]
  rw [e4] at e1
  have e5 : bn * (carry + pn) = bn * 4294967296 := by omega
  have e6 := Nat.eq_of_mul_eq_mul_left (by omega) e5
  have e7 : carry < 2 := by
    rcases Nat.lt_or_ge carry 2 with h | h
    · exact h
    · have := Nat.mul_le_mul_left bn h
      omega
  exact ⟨by omega, by omega, e4⟩
theorem round_inv {X bj D V R T P : Nat} (hX : X = 4294967296 * bj * (D * V) + R) (hR : R = T + bj * P) : X = bj * (D * (P / D + 4294967296 * V)) + (T + bj * (P % D)) := by
  have h := Nat.div_add_mod P D
  rw [hX, hR]
  conv => lhs; rw [← h]
  grind
theorem round_small {bj T r D : Nat} (hT : T < bj) (hr : r < D) : T + bj * r < bj * D := by
  have := Nat.mul_le_mul_left bj (show r + 1 ≤ D from hr)
  rw [Nat.mul_add] at this
  omega
theorem shifted_bounds {y s m t : Nat} (ht : t * Bs (m + 1) ≤ y) (ht2 : y < (t + 1) * Bs (m + 1)) (h1 : 2147483648 ≤ t * 2 ^ s) (h2 : (t + 1) * 2 ^ s ≤ 4294967296) : Bs (m + 1) * 2147483648 ≤ y * 2 ^ s ∧ y * 2 ^ s < Bs (m + 2) := by
  have a1 : t * Bs (m + 1) * 2 ^ s ≤ y * 2 ^ s := Nat.mul_le_mul_right _ ht
  have a2 : Bs (m + 1) * 2147483648 ≤ Bs (m + 1) * (t * 2 ^ s) := Nat.mul_le_mul_left _ h1
  have a3 : Bs (m + 1) * (t * 2 ^ s) = t * Bs (m + 1) * 2 ^ s := by grind
  have b1 : y * 2 ^ s < (t + 1) * Bs (m + 1) * 2 ^ s := Nat.mul_lt_mul_of_pos_right ht2 (Nat.pow_pos (by omega))
  have b2 : Bs (m + 1) * ((t + 1) * 2 ^ s) ≤ Bs (m + 1) * 4294967296 := Nat.mul_le_mul_left _ h2
  have b3 : Bs (m + 1) * ((t + 1) * 2 ^ s) = (t + 1) * Bs (m + 1) * 2 ^ s := by grind
  have b4 : Bs (m + 2) = 4294967296 * Bs (m + 1) := Bs_succ (m + 1)
  omega
/-- The first rest is small enough. -/
theorem start_small {x s m r D : Nat} (hx : x < Bs (m + 2 + r)) (hs : 2 ^ s ≤ 2147483648) (hD : Bs (m + 1) * 2147483648 ≤ D) : x * 2 ^ s < Bs (r + 1) * D := by
  have a1 : x * 2 ^ s < Bs (m + 2 + r) * 2 ^ s := Nat.mul_lt_mul_of_pos_right hx (Nat.pow_pos (by omega))
  have a2 : Bs (m + 2 + r) * 2 ^ s ≤ Bs (m + 2 + r) * 2147483648 := Nat.mul_le_mul_left _ hs
  have a3 : Bs (r + 1) * (Bs (m + 1) * 2147483648) ≤ Bs (r + 1) * D := Nat.mul_le_mul_left _ hD
  have a4 : Bs (m + 2 + r) = Bs (r + 1) * Bs (m + 1) := by rw [← Bs_add]; congr 1; omega
  have a5 : Bs (m + 2 + r) * 2147483648 = Bs (r + 1) * (Bs (m + 1) * 2147483648) := by rw [a4, Nat.mul_assoc]
  omega
theorem final_div {x y P V R : Nat} (hP : 0 < P) (hX : x * P = y * P * V + R) (hR : R < y * P) : V = x / y ∧ R / P = x % y := by
  have hy : 0 < y := by
    rcases Nat.eq_zero_or_pos y with h | h
    · subst h; omega
    · exact h
  have h1 : R = P * (R / P) := by
    have h2 := Nat.div_add_mod R P
    have h3 : R % P = 0 := by
      have h4 : (x * P) % P = (y * P * V + R) % P := by rw [hX]
      rw [Nat.mul_mod_left, show y * P * V = P * (y * V) by grind, Nat.mul_add_mod] at h4
      exact h4.symm
    omega
  generalize R / P = r at *
  subst h1
  have h5 : x = y * V + r := by
    have : P * x = P * (y * V + r) := by grind
    exact Nat.eq_of_mul_eq_mul_left hP this
  have h6 : r < y := by
    have : P * r < P * y := by grind
    exact Nat.lt_of_mul_lt_mul_left this
  subst h5
  exact ⟨by rw [Nat.mul_add_div hy, Nat.div_eq_of_lt h6]; omega, by rw [Nat.mul_add_mod, Nat.mod_eq_of_lt h6]⟩
theorem set_drop {qs : List Nat} {j v : Nat} (h : j < qs.length) : (qs.set j v).drop j = v :: qs.drop (j + 1) := by
  rw [List.drop_eq_getElem_cons (by rw [List.length_set]; exact h), List.getElem_set_self, List.drop_set_of_lt (by omega)]
/-- What a round hands on. -/
theorem round_done {X D P T R j : Nat} {qs qf : List Nat} (hX : X = Bs (j + 1) * (D * val (qs.drop (j + 1))) + R) (hR : R = T + Bs j * P) (hT : T < Bs j) (hD : 0 < D) (hq : qf.drop j = (P / D) :: qs.drop (j + 1)) :
    X = Bs j * (D * val (qf.drop j)) + (T + Bs j * (P % D)) ∧ T + Bs j * (P % D) < Bs j * D := by
  rw [hq, val_cons]
  rw [Bs_succ] at hX
  exact ⟨round_inv hX hR, round_small hT (Nat.mod_lt _ hD)⟩
/-- What the subtraction says of the part. -/
theorem part_eq {zs zs' : List Nat} {j n q D nb P : Nat} (h1 : j + n + 1 ≤ zs.length) (h2 : j + n + 1 ≤ zs'.length) (ht : zs'.take j = zs.take j) (hP : val ((zs.drop j).take (n + 1)) = P)
    (h : val (zs'.take (j + n + 1)) + Bs j * (q * D) = val (zs.take (j + n + 1)) + Bs (j + n + 1) * nb) : val ((zs'.drop j).take (n + 1)) + q * D = P + 4294967296 * Bs n * nb := by
  have e1 := take_split (zs := zs) (j := j) (n := n + 1) (by omega)
  have e2 := take_split (zs := zs') (j := j) (n := n + 1) (by omega)
  rw [show j + (n + 1) = j + n + 1 by omega] at e1 e2
  rw [e1, e2, ht, hP, show j + n + 1 = j + (n + 1) by omega, Bs_add j (n + 1), Bs_succ] at h
  refine cancel_round (b := Bs j) (T := val (zs.take j)) (y := P) (Bs_pos j) ?_
  have : Bs j * (4294967296 * Bs n) * nb = Bs j * (4294967296 * Bs n * nb) := by grind
  omega
theorem whole_eq {zs' : List Nat} {j n : Nat} (h2 : j + n + 1 ≤ zs'.length) (hup : val (zs'.drop (j + n + 1)) = 0) : val zs' = val (zs'.take j) + Bs j * val ((zs'.drop j).take (n + 1)) := by
  have h := val_take_drop zs' (j + n + 1) h2
  rw [hup, Nat.mul_zero, Nat.add_zero] at h
  rw [h, show j + n + 1 = j + (n + 1) by omega]
  exact take_split (by omega)
/-- What adding the divisor back says of the part. -/
theorem back_eq {zs' zs2 : List Nat} {j n D carry P' r : Nat} (hd : OkD zs') (hd2 : OkD zs2) (h1 : j + n + 1 ≤ zs'.length) (h2 : zs2.length = zs'.length) (ht : zs2.take j = zs'.take j) (hP' : val ((zs'.drop j).take (n + 1)) = P')
    (h : val (zs2.take (j + n)) + Bs (j + n) * carry = val (zs'.take (j + n)) + Bs j * (1 * D)) (hr : r < D) (hD : D < Bs n) (hw : P' + D = r + 4294967296 * Bs n) :
    carry = 1 ∧ zs'.getD (j + n) 0 = 4294967295 ∧ val (zs2.take (j + n)) = val (zs2.take j) + Bs j * r := by
  have e1 := take_split (zs := zs') (j := j) (n := n) (by omega)
  have e2 := take_split (zs := zs2) (j := j) (n := n) (by omega)
  have e3 := val_take_succ (zs'.drop j) n (by rw [List.length_drop]; omega)
  rw [hP'] at e3
  have e4 : (zs'.drop j).getD n 0 = zs'.getD (j + n) 0 := by rw [List.getD_eq_getElem?_getD, List.getD_eq_getElem?_getD, List.getElem?_drop]
  rw [e4] at e3
  have hlow := val_take_lt (okD_drop hd j) n
  have hlow2 := val_take_lt (okD_drop hd2 j) n
  have hpn := okD_getD hd (j + n)
  rw [e1, e2, ht, Nat.one_mul, Bs_add] at h
  generalize val ((zs'.drop j).take n) = low at *
  generalize hg : val ((zs2.drop j).take n) = low2 at *
  generalize zs'.getD (j + n) 0 = pn at *
  have h5 : low2 + Bs n * carry = low + D := by
    refine cancel_round (b := Bs j) (T := val (zs'.take j)) (Bs_pos j) ?_
    have : Bs j * Bs n * carry = Bs j * (Bs n * carry) := Nat.mul_assoc _ _ _
    omega
  obtain ⟨f1, f2, f3⟩ := round_back hlow hlow2 hpn hr hD h5 (by omega)
  exact ⟨f1, f2, by rw [e2, f3]⟩
end Go.Proofs.YthmmnmajkeoaaabGreatDoor
