/-
  Right, Left, Num, Num2, Less, Prod in one text.
-/
import Derived.Test.YthmmnmajkeoaaabGreatDoorOS1
import Derived.StillTailTactics
namespace Go.Proofs.YthmmnmajkeoaaabGreatDoor
open Go.RowKit

theorem or_shift' (lo hi : Nat) (hl : lo < 4294967296) (hh : hi < 4294967296) : bits .or .u64 (lo : Int) ((hi : Int) * 4294967296) = ((hi * 4294967296 + lo : Nat) : Int) := by
  have := u64_or_nat lo (hi * 4294967296) (by omega) (by omega)
  rw [Int.natCast_mul, show ((4294967296 : Nat) : Int) = 4294967296 from rfl] at this
  rw [this]
  congr 1
  rw [show hi * 4294967296 = hi <<< 32 by rw [Nat.shiftLeft_eq], Nat.or_comm, ← Nat.shiftLeft_add_eq_or_of_lt (by omega)]

set_option maxRecDepth 100000 in
set_option maxHeartbeats 800000 in
theorem right_is {A : Option Addr} {n c x : Nat} {w : World} (hx : Num w (.slice A n c) x) (k : Nat) (hk : k ≤ 1048576) :
    Calls Tryz.prog 133 #[.slice A n c, .int .i64 (k : Int)] w fun e w' => ∃ B m d, e = .returned (.slice B m d) ∧ Num w' (.slice B m d) (x / 2 ^ k) ∧ Below w.heap.size w w' := by
  obtain ⟨z, hz⟩ : ∃ z, z = k / 32 := ⟨_, rfl⟩
  obtain ⟨s, hs⟩ : ∃ s, s = k % 32 := ⟨_, rfl⟩
  have hs1 : s < 32 := by omega
  have hzi : (k : Int) / 32 = (z : Int) := by omega
  have hsi : (k : Int) % 32 = (s : Int) := by omega
  have hzb : z < 1000000000000000000 := by omega
  have hxk : x / 2 ^ k = x / Bs z / 2 ^ s := by rw [pow_split k, ← hz, ← hs, ← Nat.div_div_eq_div_mul]
  have HZ := Lib.hid hz
  have HS := Lib.hid hs
  have HXK := Lib.hid hxk
  clear hz hs hxk
  have hxl : (digs x).length ≤ 1000000000 := by
    exact Raw.len hx
  have hn := (Raw.cap hx).1
  subst hn
  rcases Nat.lt_or_ge z (digs x).length with hlt | hge
  · have hdec : decide ((digs x).length ≤ z) = false := by rw [decide_eq_false_iff_not]; omega
    obtain ⟨L, hL⟩ : ∃ L, (digs x).length - z = L := ⟨_, rfl⟩
    obtain ⟨A2, hA2⟩ : ∃ A2, Option.map (fun a : Addr => a.add z) A = A2 := ⟨_, rfl⟩
    obtain ⟨w1, hmk, hown, hb, hsz⟩ := make_row Tryz.underlying44 L (by omega) w
    have hLb : L ≤ 1000000000 := by omega
    have HO := Lib.hid hown
    clear hown hsz
    go_enter Tryz.func133, Tryz.ntmps133
    have hX' : Raw w (.slice A (digs x).length c) (digs x) := hx
    have hcx := hX'.cap.2
    have hdrop := hX'.drop (k := z) (by omega)
    rw [if_neg (by omega), hA2, hL] at hdrop
    have hD := Lib.hid hdrop
    clear hdrop hX'
    go_wp2_with fail
    rw [hsi]
    have HLL := Lib.hid hL
    clear hL hA2
    go_loopw [28] (fun i wr => ∃ (j : Nat) (zs : List Nat), i = .int .i64 j ∧ j ≤ L ∧ zs.length = L ∧ OkD zs ∧ Own wr w.heap.size zs ∧ Below w.heap.size w wr ∧
      val (zs.take j) = x / Bs z / 2 ^ s % Bs j) (fun i _ => L - (intOf i).toNat)
    case atStart => exact ⟨0, _, rfl, Nat.zero_le _, by simp, okD_replicate _ (by omega), HO.out, hb, by simp [val, Bs_zero, Nat.mod_one]⟩
    case round =>
      obtain ⟨j, zs, rfl, hj, hzl, hzd, hzo, hbr, hv⟩ := hrel
      have HV := Lib.hid hv
      have HZL := Lib.hid hzl
      clear hv hzl
      rcases Nat.lt_or_ge j (L) with hjl | hge
      · obtain ⟨hi, hhi⟩ : ∃ d, ((digs x).drop z).getD (j + 1) 0 = d := ⟨_, rfl⟩
        obtain ⟨lo, hlo⟩ : ∃ d, ((digs x).drop z).getD j 0 = d := ⟨_, rfl⟩
        have bhi : hi < 4294967296 := by rw [← hhi]; exact okD_getD (okD_drop (okD_digs x) z) _
        have blo : lo < 4294967296 := by rw [← hlo]; exact okD_getD (okD_drop (okD_digs x) z) _
        have hcell := hzo.cell (j := j) (by rw [HZL.out]; omega)
        have hfr := hzo.frozen j
        have HHI := Lib.hid hhi
        have HLO := Lib.hid hlo
        clear hhi hlo
        obtain ⟨a2, hA2', hb2', hc2⟩ := (hD.out.below hbr).at_ (j := j) (by rw [List.length_drop]; have := HLL.out; omega)
        subst hA2'
        rw [HLO.out] at hc2
        obtain ⟨E, hE⟩ : ∃ E, hi * 4294967296 + lo = E := ⟨_, rfl⟩
        have hEb : E < 18446744073709551616 := by omega
        have hq : ((E : Int) / 2 ^ s) % 4294967296 = ((E / 2 ^ s % 4294967296 : Nat) : Int) := by
          rw [show (E : Int) / 2 ^ s = ((E / 2 ^ s : Nat) : Int) by norm_cast]
          generalize E / 2 ^ s = q
          omega
        have hqb : E / 2 ^ s % 4294967296 < 4294967296 := Nat.mod_lt _ (by omega)
        have hvn : val ((zs.set j (E / 2 ^ s % 4294967296)).take (j + 1)) = x / Bs z / 2 ^ s % Bs (j + 1) := by
          rw [val_take_set (by rw [HZL.out]; omega), HV.out, Bs_succ, Nat.mul_comm 4294967296, Nat.mod_mul]
          have e1 : hi = x / Bs z / Bs (j + 1) % 4294967296 := by rw [← HHI.out, val_digit _ (okD_drop (okD_digs x) z), val_drop _ (okD_digs x) z (by omega), val_digs]
          have e2 : lo = x / Bs z / Bs j % 4294967296 := by rw [← HLO.out, val_digit _ (okD_drop (okD_digs x) z), val_drop _ (okD_digs x) z (by omega), val_digs]
          rw [shr_digit _ s j hs1, ← hE, e1, e2]
        have HVN := Lib.hid hvn
        have HQ := Lib.hid hq
        have HQB := Lib.hid hqb
        clear hvn hq hqb
        rcases Nat.lt_or_ge (j + 1) L with hj1 | hj1
        · obtain ⟨a3, hA3', hb3', hc3⟩ := (hD.out.below hbr).at_ (j := j + 1) (by rw [List.length_drop]; have := HLL.out; omega)
          obtain rfl : a2 = a3 := Option.some.inj hA3'
          rw [HHI.out] at hc3
          have hc3' : wr.cell? ⟨a2.block, a2.off + (j + 1), none⟩ = some (.int .u32 (hi : Int)) := by rw [← hc3]; congr 1
          clear hc3 hA3'
          have hor := or_shift' lo hi blo bhi
          rw [hE] at hor
          have HE := Lib.hid hE
          clear hE
          go_wp2_with fail
          go_roundw
          case rel =>
            rw [HQ.out]
            exact ⟨j + 1, _, by go_num, by omega, by rw [List.length_set]; exact HZL.out, okD_set hzd _ HQB.out, hzo.set j _, hbr.setCell (Nat.le_refl _) _, HVN.out⟩
          case measure => simp [intOf]; omega
        · have hi0 : hi = 0 := by rw [← HHI.out]; exact getD_of_ge (by rw [List.length_drop]; have := HLL.out; omega)
          have hEl : lo = E := by rw [← hE, hi0]; omega
          subst hEl
          clear hE hi0
          go_wp2_with fail
          go_roundw
          case rel =>
            rw [HQ.out]
            exact ⟨j + 1, _, by go_num, by omega, by rw [List.length_set]; exact HZL.out, okD_set hzd _ HQB.out, hzo.set j _, hbr.setCell (Nat.le_refl _) _, HVN.out⟩
          case measure => simp [intOf]; omega
      · have hjL : j = L := by omega
        have hval : val zs = x / 2 ^ k := by
          have h := HV.out
          rw [val_take_all (by rw [HZL.out]; omega)] at h
          rw [h, HXK.out]
          refine Nat.mod_eq_of_lt (Nat.lt_of_le_of_lt (Nat.div_le_self _ _) ?_)
          rw [Nat.div_lt_iff_lt_mul (Bs_pos z), ← Bs_add, hjL, show L + z = (digs x).length by have := HLL.out; omega]
          exact lt_of_digs_length (Nat.le_refl _)
        have hraw := hzo.raw_all hzd (by rw [HZL.out]; omega) (L) (L) HZL.out.symm (Nat.le_refl _)
        have HVAL := Lib.hid hval
        have HJ := Lib.hid hjL
        clear hval hjL
        go_wp2_with fail
        refine (ntrim_is hraw HVAL).mono ?_
        rintro e w' ⟨rfl, hN, rfl⟩
        go_wp2_with fail
        go_ret
        exact ⟨_, _, _, rfl, hN, hbr⟩
  · have hdec : decide ((digs x).length ≤ z) = true := by rw [decide_eq_true_iff]; omega
    have hval : x / 2 ^ k = 0 := by
      rw [HXK.out, Nat.div_eq_of_lt (digs_length_le_iff.1 hge), Nat.zero_div]
    have HVAL := Lib.hid hval
    clear hval
    go_enter Tryz.func133, Tryz.ntmps133
    go_wp2_with fail
    go_ret
    exact ⟨_, _, _, rfl, by rw [HVAL.out]; exact num_zero _ _, Below.refl _ _⟩

end Go.Proofs.YthmmnmajkeoaaabGreatDoor
namespace Go.Proofs.YthmmnmajkeoaaabGreatDoor
open Go.RowKit

theorem wrap_shl {s dx : Nat} (hs : s < 32) (hd : dx < 4294967296) : IntKind.u64.wrap ((dx : Int) * 2 ^ s) = ((dx * 2 ^ s : Nat) : Int) := by
  have hp := pow_le31 hs
  have hb : dx * 2 ^ s < 18446744073709551616 := by
    have : dx * 2 ^ s ≤ 4294967295 * 2147483648 := Nat.mul_le_mul (by omega) hp
    omega
  rw [show ((dx : Int) * 2 ^ s) = ((dx * 2 ^ s : Nat) : Int) by norm_cast, IntKind.wrap_u64]
  revert hb; generalize dx * 2 ^ s = q; intro hb; omega
theorem or_low {s cz dx : Nat} (hs : s < 32) (hc : cz < 2 ^ s) : bits .or .u32 (cz : Int) ((dx * 2 ^ s % 4294967296 : Nat) : Int) = ((cz + dx * 2 ^ s % 4294967296 : Nat) : Int) ∧ cz + dx * 2 ^ s % 4294967296 < 4294967296 := by
  obtain ⟨u, hu⟩ : ∃ u, 2 ^ (32 - s) = u := ⟨_, rfl⟩
  have ht : 4294967296 = u * 2 ^ s := by rw [← hu, ← Nat.pow_add, show 32 - s + s = 32 by omega]
  have hm : dx * 2 ^ s % 4294967296 = dx % u * 2 ^ s := by rw [ht, Nat.mul_mod_mul_right]
  have hp := pow_le31 hs
  have hlt : dx * 2 ^ s % 4294967296 < 4294967296 := Nat.mod_lt _ (by omega)
  have hsum : cz + dx % u * 2 ^ s < 4294967296 := by
    have hup : 0 < u := by rw [← hu]; exact Nat.pow_pos (by omega)
    have h1 : (dx % u + 1) * 2 ^ s ≤ u * 2 ^ s := Nat.mul_le_mul_right _ (Nat.mod_lt dx hup)
    rw [Nat.add_mul, Nat.one_mul] at h1
    omega
  rw [u32_or_nat cz _ (by omega) hlt, hm]
  refine ⟨?_, hsum⟩
  congr 1
  rw [show dx % u * 2 ^ s = (dx % u) <<< s by rw [Nat.shiftLeft_eq], Nat.or_comm, ← Nat.shiftLeft_add_eq_or_of_lt hc, Nat.add_comm]
theorem or_zero {h : Nat} (hh : h < 4294967296) : bits .or .u32 0 (h : Int) = (h : Int) := by
  have := u32_or_nat 0 h (by omega) hh
  simpa using this
theorem left_round {V b cz Bz P E bj dx t lo hi : Nat} (h : V + b * cz = Bz * (P * E)) (ht : t = dx * P) (hl : t = lo + 4294967296 * hi) (hb : b = Bz * bj) : V + b * (cz + lo) + 4294967296 * b * hi = Bz * (P * (E + bj * dx)) := by
  have : b * (cz + lo) + 4294967296 * b * hi = b * cz + b * t := by rw [hl]; grind
  rw [Nat.add_assoc, this, ← Nat.add_assoc, h, ht, hb]; grind

set_option maxRecDepth 100000 in
set_option maxHeartbeats 1600000 in
theorem left_own {A : Option Addr} {n c x : Nat} {w : World} (hx : Num w (.slice A n c) x) (k : Nat) (hk : k ≤ 1000000) (hl : (digs x).length ≤ 1000000) :
    Calls Tryz.prog 132 #[.slice A n c, .int .i64 (k : Int)] w fun e w' => ∃ m d, e = .returned (.slice (some ⟨w.heap.size, 0, none⟩) m d) ∧ Num w' (.slice (some ⟨w.heap.size, 0, none⟩) m d) (x * 2 ^ k) ∧ Below w.heap.size w w' := by
  have hn := (Raw.cap hx).1
  obtain ⟨len, hlen⟩ : ∃ len, (digs x).length = len := ⟨_, rfl⟩
  rw [hlen] at hn hl
  subst hn
  obtain ⟨z, hz⟩ : ∃ z, z = k / 32 := ⟨_, rfl⟩
  obtain ⟨s, hs⟩ : ∃ s, s = k % 32 := ⟨_, rfl⟩
  have hz1 : z ≤ 1000000 := by omega
  have hs1 : s < 32 := by omega
  have hzi : (k : Int) / 32 = (z : Int) := by omega
  have hsi : (k : Int) % 32 = (s : Int) := by omega
  obtain ⟨w1, hmk, hown, hb, hsz⟩ := make_row Tryz.underlying44 (z + n + 1) (by omega) w
  rw [show ((z + n + 1 : Nat) : Int) = (z : Int) + (n : Int) + 1 by omega] at hmk
  have HO := Lib.hid hown
  have HZ := Lib.hid hz
  have HS := Lib.hid hs
  have HLEN := Lib.hid hlen
  clear hown hz hs hsz hlen
  go_enter Tryz.func132, Tryz.ntmps132
  go_wp2_with fail
  rw [hsi]
  go_loopw [22] (fun i wr => ∃ (j : Nat) (zs : List Nat), i = .int .i64 j ∧ j ≤ n ∧ zs.length = z + n + 1 ∧ OkD zs ∧ Own wr w.heap.size zs ∧ Below w.heap.size w wr ∧ zs.getD (z + j) 0 < 2 ^ s ∧ (∀ q, z + j < q → zs.getD q 0 = 0) ∧
      val (zs.take (z + j)) + Bs (z + j) * zs.getD (z + j) 0 = Bs z * (2 ^ s * val ((digs x).take j))) (fun i _ => n - (intOf i).toNat)
  case atStart =>
    have hr0 : ∀ q, (List.replicate (z + n + 1) 0).getD q 0 = 0 := fun q => by
      rw [List.getD_eq_getElem?_getD, List.getElem?_replicate]; split <;> rfl
    exact ⟨0, _, rfl, Nat.zero_le _, by simp, okD_replicate _ (by omega), HO.out, hb, by rw [hr0]; exact Nat.pow_pos (by omega), fun q _ => hr0 q, by rw [hr0, List.take_replicate, val_replicate]; simp [val]⟩
  case round =>
    obtain ⟨j, zs, rfl, hj, hzl, hzd, hzo, hbr, hcz, hze, hv⟩ := hrel
    obtain ⟨cz, hczd⟩ : ∃ d, zs.getD (z + j) 0 = d := ⟨_, rfl⟩
    rw [hczd] at hcz hv
    have HV := Lib.hid hv
    have HZL := Lib.hid hzl
    have HCZ := Lib.hid hcz
    have HCZD := Lib.hid hczd
    have HZE := Lib.hid hze
    clear hv hzl hcz hczd hze
    rcases Nat.lt_or_ge j n with hlt | hge
    · obtain ⟨ad, hA, hb', hcx⟩ := (Num.below hx hbr).at_ (j := j) (by rw [HLEN.out]; exact hlt)
      subst hA
      obtain ⟨dx, hdx⟩ : ∃ d, (digs x).getD j 0 = d := ⟨_, rfl⟩
      have bx : dx < 4294967296 := by rw [← hdx]; exact okD_getD (okD_digs x) j
      rw [hdx] at hcx
      have HDX := Lib.hid hdx
      clear hdx
      have hc1 := hzo.cell (j := z + j) (by rw [HZL.out]; omega)
      rw [HCZD.out] at hc1
      have hf1 := hzo.frozen (z + j)
      have hc2 := hzo.cell (j := z + j + 1) (by rw [HZL.out]; omega)
      rw [HZE.out (z + j + 1) (by omega)] at hc2
      have hf2 := hzo.frozen (z + j + 1)
      have hsh := wrap_shl hs1 bx
      obtain ⟨t, ht⟩ : ∃ t, dx * 2 ^ s = t := ⟨_, rfl⟩
      obtain ⟨o1, o2⟩ := or_low (dx := dx) hs1 HCZ.out
      rw [ht] at hsh o1 o2
      have htb : t < 18446744073709551616 := by
        rw [← ht]
        have : dx * 2 ^ s ≤ 4294967295 * 2147483648 := Nat.mul_le_mul (by omega) (pow_le31 hs1)
        omega
      have HSH := Lib.hid hsh
      have HT := Lib.hid ht
      have O1 := Lib.hid o1
      have O2 := Lib.hid o2
      clear o1 o2 ht hsh
      have hc2' : wr.cell? ⟨w.heap.size, z + j + 1, none⟩ = some (.int .u32 0) := hc2
      clear hc2
      go_wp2_with fail
      go_roundw
      case rel =>
        have hlo : t % 4294967296 < 4294967296 := Nat.mod_lt _ (by omega)
        have hhi : t / 4294967296 < 4294967296 := by omega
        have e1 : (t : Int) % 4294967296 = ((t % 4294967296 : Nat) : Int) := by omega
        have e2 : (t : Int) / 4294967296 % 4294967296 = ((t / 4294967296 : Nat) : Int) := by omega
        rw [HSH.out, e1, e2, O1.out, or_zero hhi]
        have hne : ∀ q, q ≠ z + j → q ≠ z + j + 1 → ((zs.set (z + j) (cz + t % 4294967296)).set (z + j + 1) (t / 4294967296)).getD q 0 = zs.getD q 0 := fun q h1 h2 => by
          rw [List.getD_eq_getElem?_getD, List.getD_eq_getElem?_getD, List.getElem?_set_ne (Ne.symm h2), List.getElem?_set_ne (Ne.symm h1)]
        have hself : ((zs.set (z + j) (cz + t % 4294967296)).set (z + j + 1) (t / 4294967296)).getD (z + j + 1) 0 = t / 4294967296 := getD_set_self (by rw [List.length_set, HZL.out]; omega) _
        refine ⟨j + 1, (zs.set (z + j) (cz + t % 4294967296)).set (z + j + 1) (t / 4294967296), by go_num, by omega, by rw [List.length_set, List.length_set]; exact HZL.out, okD_set (okD_set hzd _ O2.out) _ hhi, (hzo.set _ _).set _ _, (hbr.setCell (Nat.le_refl _) _).setCell (Nat.le_refl _) _, ?_, ?_, ?_⟩
        · rw [← Nat.add_assoc, hself, Nat.div_lt_iff_lt_mul (by omega), ← HT.out, Nat.mul_comm]
          exact Nat.mul_lt_mul_of_pos_left bx (Nat.pow_pos (by omega))
        · intro q hq
          rw [hne q (by omega) (by omega)]
          exact HZE.out q (by omega)
        · rw [← Nat.add_assoc, hself, List.take_set_of_le (Nat.le_refl _), val_take_set (by rw [HZL.out]; omega), val_take_succ', HDX.out, Bs_succ]
          exact left_round HV.out HT.out.symm (by omega) (Bs_add z j)
      case measure => simp [intOf]; omega
    · obtain rfl : j = n := by omega
      have hval : val zs = x * 2 ^ k := by
        have h := val_take_succ zs (z + j) (by rw [HZL.out]; omega)
        rw [val_take_all (by rw [HZL.out]; omega), HCZD.out, HV.out, val_take_all (by rw [HLEN.out]; omega), val_digs] at h
        rw [h, pow_split k, ← HZ.out, ← HS.out]
        grind
      have hraw := hzo.raw_all hzd (by rw [HZL.out]; omega) (z + j + 1) (z + j + 1) HZL.out.symm (Nat.le_refl _)
      have HVAL := Lib.hid hval
      clear hval
      go_wp2_with fail
      refine (ntrim_is hraw HVAL).mono ?_
      rintro e w' ⟨rfl, hN, rfl⟩
      go_wp2_with fail
      go_ret
      exact ⟨_, _, rfl, hN, hbr⟩
section
variable {A A' : Option Addr} {n n' c c' x y L L' : Nat} {w : World}
end
end Go.Proofs.YthmmnmajkeoaaabGreatDoor
namespace Go.Proofs.YthmmnmajkeoaaabGreatDoor
open Go.RowKit

theorem sign_neg {z : Int} (h : z < 0) (w : World) : Calls Tryz.prog 116 #[.int .i64 z] w fun e w' => e = .returned (.int .i64 (-1)) ∧ w = w' := by
  have h2 : ¬ 0 < z := by omega
  go_enter Tryz.func116, Tryz.ntmps116
  go_wp2
  go_ret
  exact ⟨rfl, rfl⟩
theorem sign_pos {z : Int} (h : 0 < z) (w : World) : Calls Tryz.prog 116 #[.int .i64 z] w fun e w' => e = .returned (.int .i64 1) ∧ w = w' := by
  go_enter Tryz.func116, Tryz.ntmps116
  go_wp2
  go_ret
  exact ⟨rfl, rfl⟩

set_option maxRecDepth 100000 in
set_option maxHeartbeats 800000 in
theorem ncmp_is {A A' : Option Addr} {n n' c c' x y : Nat} {w : World} (hX : Num w (.slice A n c) x) (hY : Num w (.slice A' n' c') y) :
    Calls Tryz.prog 86 #[.slice A n c, .slice A' n' c'] w fun e w' => e = .returned (.int .i64 (cmpI x y)) ∧ ∃ j, w' = w.drewN j := by
  have hn := (Raw.cap hX).1
  have hn' := (Raw.cap hY).1
  subst hn
  subst hn'
  have hX' : Raw w (.slice A (digs x).length c) (digs x) := hX
  have hY' : Raw w (.slice A' (digs y).length c') (digs y) := hY
  have hl := hX'.len
  have hl' := hY'.len
  go_enter Tryz.func86, Tryz.ntmps86
  by_cases hlen : (digs x).length = (digs y).length
  · have hlB : (((digs x).length : Int) != ((digs y).length : Int)) = false := by simp [hlen]
    have HL := Lib.hid hlen
    clear hlen
    go_wp2_with fail
    go_loopw [5] (fun i wr => ∃ k j : Nat, k ≤ (digs x).length ∧ i = .int .i64 ((k : Int) - 1) ∧ (digs x).drop k = (digs y).drop k ∧ wr = w.drewN j) (fun i _ => (intOf i + 1).toNat)
    case atStart => exact ⟨(digs x).length, 0, Nat.le_refl _, rfl, by rw [List.drop_eq_nil_of_le (Nat.le_refl _), List.drop_eq_nil_of_le (by rw [HL.out]; exact Nat.le_refl _)], rfl⟩
    case round =>
      obtain ⟨k, j, hk, rfl, ht, rfl⟩ := hrel
      rcases Nat.eq_zero_or_pos k with rfl | hk0
      · have hxy : x = y := digs_inj (by simpa using ht)
        have HE := Lib.hid hxy
        clear hxy ht
        go_wp2_with fail
        go_ret
        exact ⟨by rw [cmpI_eq HE.out]; rfl, _, rfl⟩
      · obtain ⟨m, rfl⟩ : ∃ m, k = m + 1 := ⟨k - 1, by omega⟩
        have HT := Lib.hid ht
        clear ht
        have hlt : m < (digs x).length := by omega
        have hlt' : m < (digs y).length := by have := HL.out; omega
        obtain ⟨ad, hA, hb, hcx⟩ := hX'.at_ (j := m) hlt
        obtain ⟨ad', hA', hb', hcy⟩ := hY'.at_ (j := m) hlt'
        subst hA
        subst hA'
        obtain ⟨dx, hdx⟩ : ∃ d, (digs x).getD m 0 = d := ⟨_, rfl⟩
        obtain ⟨dy, hdy⟩ : ∃ d, (digs y).getD m 0 = d := ⟨_, rfl⟩
        rw [hdx] at hcx
        rw [hdy] at hcy
        have HDX := Lib.hid hdx
        have HDY := Lib.hid hdy
        clear hdx hdy
        have ei : ((m + 1 : Nat) : Int) - 1 = (m : Int) := by omega
        rw [ei]
        clear ei
        by_cases he : dx = dy
        · subst he
          have hd1 : decide (dx < dx) = false := by simp
          go_wp2_with fail
          go_quiet (fail)
          go_wp2_with fail
          go_quiet (fail)
          go_wp2_with fail
          go_roundw
          case rel => exact ⟨m, _, by omega, rfl, drop_eq_pred hlt hlt' HT.out (by rw [HDX.out, HDY.out]), rfl⟩
          case measure => simp [intOf]
        · rcases Nat.lt_or_ge dx dy with h | h
          · have hres := cmpI_lt (cmp_digit (okD_digs x) hlt hlt' HT.out (by rw [HDX.out, HDY.out]; exact h))
            rw [val_digs, val_digs] at hres
            have HR := Lib.hid hres
            clear hres he
            have hd1 : decide (dy < dx) = false := by rw [decide_eq_false_iff_not]; omega
            go_wp2_with fail
            go_quiet (fail)
            go_wp2_with fail
            go_quiet (fail)
            go_wp2_with fail
            go_ret
            refine ⟨by rw [HR.out]; rfl, ?_⟩
            simp only [World.drewN_drewN]
            exact ⟨_, rfl⟩
          · have h' : dy < dx := by omega
            have hres := cmpI_gt (cmp_digit (okD_digs y) hlt' hlt HT.out.symm (by rw [HDX.out, HDY.out]; exact h'))
            rw [val_digs, val_digs] at hres
            have HR := Lib.hid hres
            clear hres he h
            go_wp2_with fail
            go_quiet (fail)
            go_wp2_with fail
            go_ret
            refine ⟨by rw [HR.out]; rfl, ?_⟩
            simp only [World.drewN_drewN]
            exact ⟨_, rfl⟩
  · have hlB : (((digs x).length : Int) != ((digs y).length : Int)) = true := by rw [bne_iff_ne]; omega
    rcases Nat.lt_or_ge (digs x).length (digs y).length with h | h
    · have hres := cmpI_lt (lt_of_len h)
      have HR := Lib.hid hres
      clear hres hlen
      go_wp2_with fail
      refine (sign_neg (by omega) _).mono ?_
      rintro e w' ⟨rfl, rfl⟩
      go_wp2_with fail
      go_ret
      exact ⟨by rw [HR.out]; rfl, 0, rfl⟩
    · have h' : (digs y).length < (digs x).length := by omega
      have hres := cmpI_gt (lt_of_len h')
      have HR := Lib.hid hres
      clear hres hlen h
      go_wp2_with fail
      refine (sign_pos (by omega) _).mono ?_
      rintro e w' ⟨rfl, rfl⟩
      go_wp2_with fail
      go_ret
      exact ⟨by rw [HR.out]; rfl, 0, rfl⟩

theorem add32_any (x y cr : Nat) (hx : x < 4294967296) (hy : y < 4294967296) (hc : cr ≤ 1) (w : World) : Calls Tryz.prog 119 #[.int .u32 (x : Int), .int .u32 (y : Int), .int .u32 (cr : Int)] w fun e w' => e = .returned (.tuple #[.int .u32 (((x + y + cr) % 4294967296 : Nat) : Int), .int .u32 (((x + y + cr) / 4294967296 : Nat) : Int)]) ∧ w = w' := by
  have h1 : ((x : Int) + (y : Int) + (cr : Int)) % 4294967296 = (((x + y + cr) % 4294967296 : Nat) : Int) := by omega
  have h2 : ((x : Int) + (y : Int) + (cr : Int)) / 4294967296 = (((x + y + cr) / 4294967296 : Nat) : Int) := by omega
  have H1 := Lib.hid h1
  have H2 := Lib.hid h2
  clear h1 h2
  go_enter Tryz.func119, Tryz.ntmps119
  go_wp2
  go_ret2
  rw [← H1.out, ← H2.out]
  exact ⟨rfl, rfl⟩

set_option maxRecDepth 100000 in
set_option maxHeartbeats 1600000 in
theorem nsum_is {A A' : Option Addr} {n n' c c' x y : Nat} {w : World} (hX : Num w (.slice A n c) x) (hY : Num w (.slice A' n' c') y) (hn9 : n < 1000000000) (hn9' : n' < 1000000000) :
    Calls Tryz.prog 92 #[.slice A n c, .slice A' n' c'] w fun e w' => ∃ B k d, e = .returned (.slice B k d) ∧ Num w' (.slice B k d) (x + y) ∧ Below w.heap.size w w' := by
  have hlx := (Raw.cap hX).1
  have hly := (Raw.cap hY).1
  obtain ⟨m, hm⟩ : ∃ m, m = max n n' := ⟨_, rfl⟩
  have hm1 : m < 1000000000 := by omega
  obtain ⟨w1, hmk, hown, hb, hsz⟩ := make_row Tryz.underlying44 (m + 1) (by omega) w
  have hmax : ∀ W : World, (Builtin.max_ #[3, 3] 3 #[.int .i64 (n : Int), .int .i64 (n' : Int)]).run Tryz.prog W = .ok (.int .i64 (m : Int)) W := fun W => by
    rw [run_max_int2]; subst hm; congr 2; split <;> omega
  rw [Int.natCast_add, Int.natCast_one] at hmk
  have hmn : n ≤ m := by omega
  have hmn' : n' ≤ m := by omega
  have HLX := Lib.hid hlx
  have HLY := Lib.hid hly
  have HO := Lib.hid hown
  clear hm hown hsz hlx hly
  go_enter Tryz.func92, Tryz.ntmps92
  go_wp2_with fail
  go_loopw [7, 8] (fun cr i wr => ∃ (k carry : Nat) (zs : List Nat), i = .int .i64 k ∧ cr = .int .u32 carry ∧ k ≤ m ∧ carry ≤ 1 ∧ zs.length = m + 1 ∧ OkD zs ∧ Own wr w.heap.size zs ∧ Below w.heap.size w wr ∧
      val (zs.take k) + Bs k * carry = val ((digs x).take k) + val ((digs y).take k)) (fun _ i _ => m - (intOf i).toNat)
  case atStart => exact ⟨0, 0, _, rfl, rfl, Nat.zero_le _, by omega, by simp, okD_replicate _ (by omega), HO.out, hb, by simp [val]⟩
  case round =>
    obtain ⟨k, carry, zs, rfl, rfl, hk, hcar, hzl, hzd, hzo, hbr, hv⟩ := hrel
    have HV := Lib.hid hv
    have HZL := Lib.hid hzl
    clear hv hzl
    have hcell := hzo.cell (j := k) (by have := HZL.out; omega)
    have hfr := hzo.frozen k
    rcases Nat.lt_or_ge k m with hlt | hge
    · obtain ⟨dx, hdx⟩ : ∃ d, (digs x).getD k 0 = d := ⟨_, rfl⟩
      obtain ⟨dy, hdy⟩ : ∃ d, (digs y).getD k 0 = d := ⟨_, rfl⟩
      have bx : dx < 4294967296 := by rw [← hdx]; exact okD_getD (okD_digs _) k
      have by_ : dy < 4294967296 := by rw [← hdy]; exact okD_getD (okD_digs _) k
      have hfin : OkD (zs.set k ((dx + dy + carry) % 4294967296)) ∧ val ((zs.set k ((dx + dy + carry) % 4294967296)).take (k + 1)) + Bs (k + 1) * ((dx + dy + carry) / 4294967296) = val ((digs x).take (k + 1)) + val ((digs y).take (k + 1)) := by
        refine ⟨okD_set hzd k (Nat.mod_lt _ (by omega)), ?_⟩
        rw [Bs_succ, val_take_set (by have := HZL.out; omega), val_take_succ', val_take_succ', hdx, hdy, show dx + dy + carry = carry + (dx + dy) by omega]
        exact add_round HV.out
      have HFIN := Lib.hid hfin
      have hadd := add32_any dx dy carry bx by_ hcar
      have HADD := Lib.hid hadd
      clear hadd hfin
      have hxc : (k < n ∧ ∃ ad, A = some ad ∧ wr.cell? (ad.add k) = some (.int .u32 (dx : Int))) ∨ (n ≤ k ∧ dx = 0) := by
        rcases Nat.lt_or_ge k n with h | h
        · obtain ⟨ad, e1, _, e3⟩ := (Num.below hX hbr).at_ (j := k) (by rw [← HLX.out]; exact h)
          exact .inl ⟨h, ad, e1, by rw [e3, hdx]⟩
        · exact .inr ⟨h, by rw [← hdx]; exact getD_of_ge (by rw [← HLX.out]; exact h)⟩
      have hyc : (k < n' ∧ ∃ ad, A' = some ad ∧ wr.cell? (ad.add k) = some (.int .u32 (dy : Int))) ∨ (n' ≤ k ∧ dy = 0) := by
        rcases Nat.lt_or_ge k n' with h | h
        · obtain ⟨ad, e1, _, e3⟩ := (Num.below hY hbr).at_ (j := k) (by rw [← HLY.out]; exact h)
          exact .inl ⟨h, ad, e1, by rw [e3, hdy]⟩
        · exact .inr ⟨h, by rw [← hdy]; exact getD_of_ge (by rw [← HLY.out]; exact h)⟩
      clear hdx hdy
      obtain ⟨sm, hsm⟩ : ∃ q, (dx + dy + carry) % 4294967296 = q := ⟨_, rfl⟩
      obtain ⟨cn, hcn⟩ : ∃ q, (dx + dy + carry) / 4294967296 = q := ⟨_, rfl⟩
      have hcn1 : cn ≤ 1 := by omega
      rw [hsm, hcn] at HADD HFIN
      clear hsm hcn
      rcases hxc with ⟨hkx, ad, rfl, hcx⟩ | ⟨hkx, rfl⟩ <;> rcases hyc with ⟨hky, ad', rfl, hcy⟩ | ⟨hky, rfl⟩
      all_goals
        go_wp2_with fail
        refine (HADD.out _).mono ?_
        rintro e w' ⟨rfl, rfl⟩
        go_wp2_with fail
        go_roundw
        case rel => exact ⟨k + 1, cn, _, by go_num, rfl, by omega, hcn1, by rw [List.length_set]; exact HZL.out, HFIN.out.1, hzo.set k _, hbr.setCell (Nat.le_refl _) _, HFIN.out.2⟩
        case measure => simp [intOf]; omega
    · obtain rfl : m = k := by omega
      have hfin := hzo.set m carry
      have hraw := hfin.raw_all (okD_set hzd m (by omega)) (by rw [List.length_set, HZL.out]; omega) (m + 1) (m + 1) (by rw [List.length_set]; exact HZL.out.symm) (Nat.le_refl _)
      have hbf := hbr.setCell (p := ⟨w.heap.size, m, none⟩) (Nat.le_refl _) (.int .u32 (carry : Int))
      have hval : val (zs.set m carry) = x + y := by
        have e := val_take_set (ds := zs) (k := m) (by have := HZL.out; omega) carry
        rw [val_take_all (by rw [List.length_set, HZL.out]; omega)] at e
        rw [e, HV.out, val_take_all (by rw [← HLX.out]; exact hmn), val_take_all (by rw [← HLY.out]; exact hmn'), val_digs, val_digs]
      have HVAL := Lib.hid hval
      clear hval
      go_wp2_with fail
      refine (ntrim_is hraw HVAL).mono ?_
      rintro e w' ⟨rfl, hN, rfl⟩
      go_wp2_with fail
      go_ret
      exact ⟨_, _, _, rfl, hN, hbf⟩

end Go.Proofs.YthmmnmajkeoaaabGreatDoor
namespace Go.Proofs.YthmmnmajkeoaaabGreatDoor
open Go.RowKit

theorem bv_and (a b : BitVec 32) : bits .and .u32 (a.toNat : Int) (b.toNat : Int) = ((a &&& b).toNat : Int) := by
  show IntKind.u32.wrap ((BitVec.ofInt 32 (a.toNat : Int) &&& BitVec.ofInt 32 (b.toNat : Int)).toNat : Int) = _
  rw [IntKind.wrap_u32, BitVec.ofInt_natCast, BitVec.ofInt_natCast, BitVec.ofNat_toNat, BitVec.ofNat_toNat, BitVec.setWidth_eq, BitVec.setWidth_eq]
  have := (a &&& b).isLt
  omega
theorem bv_or (a b : BitVec 32) : bits .or .u32 (a.toNat : Int) (b.toNat : Int) = ((a ||| b).toNat : Int) := by
  show IntKind.u32.wrap ((BitVec.ofInt 32 (a.toNat : Int) ||| BitVec.ofInt 32 (b.toNat : Int)).toNat : Int) = _
  rw [IntKind.wrap_u32, BitVec.ofInt_natCast, BitVec.ofInt_natCast, BitVec.ofNat_toNat, BitVec.ofNat_toNat, BitVec.setWidth_eq, BitVec.setWidth_eq]
  have := (a ||| b).isLt
  omega
theorem bv_xor (a b : BitVec 32) : bits .xor .u32 (a.toNat : Int) (b.toNat : Int) = ((a ^^^ b).toNat : Int) := by
  show IntKind.u32.wrap ((BitVec.ofInt 32 (a.toNat : Int) ^^^ BitVec.ofInt 32 (b.toNat : Int)).toNat : Int) = _
  rw [IntKind.wrap_u32, BitVec.ofInt_natCast, BitVec.ofInt_natCast, BitVec.ofNat_toNat, BitVec.ofNat_toNat, BitVec.setWidth_eq, BitVec.setWidth_eq]
  have := (a ^^^ b).isLt
  omega
theorem bv_ones : IntKind.u32.max = ((BitVec.allOnes 32).toNat : Int) := rfl
theorem bv_top (a : BitVec 32) : ((a.toNat : Int) / 2147483648) = ((if a.msb then 1 else 0 : Nat) : Int) := by
  have h := a.isLt
  rw [BitVec.msb_eq_decide]
  by_cases h2 : 2 ^ (32 - 1) ≤ a.toNat
  · simp only [h2, decide_true, if_true]; omega
  · simp only [h2, decide_false]
    simp only [Bool.false_eq_true, if_false]; omega
theorem borrow_bits {x y d : Nat} (hx : x < 4294967296) (hy : y < 4294967296) (hd : d < 4294967296) (b : Nat) (hb : b ≤ 1) (e : ((x : Int) - y - b) % 4294967296 = d) :
    ∃ bo : Nat, bo ≤ 1 ∧ d + y + b = x + 4294967296 * bo ∧
    bits .or .u32 (bits .and .u32 (bits .xor .u32 IntKind.u32.max (x : Int)) (y : Int)) (bits .and .u32 (bits .xor .u32 IntKind.u32.max (bits .xor .u32 (x : Int) (y : Int))) (d : Int)) / 2147483648 = (bo : Int) := by
  have ex : x = (BitVec.ofNat 32 x).toNat := by rw [BitVec.toNat_ofNat]; omega
  have ey : y = (BitVec.ofNat 32 y).toNat := by rw [BitVec.toNat_ofNat]; omega
  have ed : d = (BitVec.ofNat 32 d).toNat := by rw [BitVec.toNat_ofNat]; omega
  generalize BitVec.ofNat 32 x = X at ex
  generalize BitVec.ofNat 32 y = Y at ey
  generalize BitVec.ofNat 32 d = D at ed
  have mx := BitVec.msb_eq_decide X
  have my := BitVec.msb_eq_decide Y
  have md := BitVec.msb_eq_decide D
  rw [← ex] at mx
  rw [← ey] at my
  rw [← ed] at md
  rw [show (2 : Nat) ^ (32 - 1) = 2147483648 from rfl] at mx my md
  have key : bits .or .u32 (bits .and .u32 (bits .xor .u32 IntKind.u32.max (x : Int)) (y : Int)) (bits .and .u32 (bits .xor .u32 IntKind.u32.max (bits .xor .u32 (x : Int) (y : Int))) (d : Int)) / 2147483648 = ((if (!decide (2147483648 ≤ x) && decide (2147483648 ≤ y) || !(decide (2147483648 ≤ x) ^^ decide (2147483648 ≤ y)) && decide (2147483648 ≤ d)) then 1 else 0 : Nat) : Int) := by
    rw [ex, ey, ed, bv_ones, bv_xor, bv_xor, bv_xor, bv_and, bv_and, bv_or, bv_top]
    rw [← ex, ← ey, ← ed]
    simp only [BitVec.msb_or, BitVec.msb_and, BitVec.msb_xor, show (BitVec.allOnes 32).msb = true from rfl, mx, my, md, Bool.true_xor]
  rw [key]
  clear key mx my md
  split <;> rename_i hc <;> simp at hc <;> refine ⟨_, ?_, ?_, rfl⟩ <;> omega

theorem sub32_any (x y b : Nat) (hx : x < 4294967296) (hy : y < 4294967296) (hb : b ≤ 1) (w : World) : Calls Tryz.prog 120 #[.int .u32 (x : Int), .int .u32 (y : Int), .int .u32 (b : Int)] w fun e w' => ∃ d bo : Nat, e = .returned (.tuple #[.int .u32 (d : Int), .int .u32 (bo : Int)]) ∧ d < 4294967296 ∧ bo ≤ 1 ∧ d + y + b = x + 4294967296 * bo ∧ w = w' := by
  obtain ⟨d, hd⟩ : ∃ d : Nat, ((x : Int) - y - b) % 4294967296 = d := ⟨(((x : Int) - y - b) % 4294967296).toNat, by omega⟩
  have hd1 : d < 4294967296 := by omega
  obtain ⟨bo, h1, h2, h3⟩ := borrow_bits hx hy hd1 b hb hd
  have HD := Lib.hid hd
  have H2 := Lib.hid h2
  have H3 := Lib.hid h3
  clear hd h2 h3
  go_enter Tryz.func120, Tryz.ntmps120
  go_wp2
  go_ret2
  rw [HD.out, H3.out]
  exact ⟨d, bo, rfl, hd1, h1, H2.out, rfl⟩
end Go.Proofs.YthmmnmajkeoaaabGreatDoor
namespace Go.Proofs.YthmmnmajkeoaaabGreatDoor
open Go.RowKit

theorem less_round {V b bo E D dx dy d b' : Nat} (hv : V + E = D + b * bo) (h : d + dy + bo = dx + 4294967296 * b') :
    V + b * d + (E + b * dy) = D + b * dx + 4294967296 * b * b' := by
  have : b * (d + dy + bo) = b * (dx + 4294967296 * b') := by rw [h]
  grind
theorem less_final {V y x b bo : Nat} (h : V + y = x + b * bo) (hV : V < b) (hy : y ≤ x) : V = x - y := by
  rcases Nat.eq_zero_or_pos bo with rfl | h0
  · rw [Nat.mul_zero] at h; omega
  · have : b ≤ b * bo := Nat.le_mul_of_pos_right _ h0
    omega

set_option maxRecDepth 100000 in
set_option maxHeartbeats 1600000 in
theorem nless_own {A A' : Option Addr} {n n' c c' x y : Nat} {w : World} (hX : Num w (.slice A n c) x) (hY : Num w (.slice A' n' c') y) (hle : y ≤ x) (hn9 : n < 1000000000) :
    Calls Tryz.prog 93 #[.slice A n c, .slice A' n' c'] w fun e w' => ∃ k d, e = .returned (.slice (some ⟨w.heap.size, 0, none⟩) k d) ∧ Num w' (.slice (some ⟨w.heap.size, 0, none⟩) k d) (x - y) ∧ Below w.heap.size w w' := by
  have hlx := (Raw.cap hX).1
  have hly := (Raw.cap hY).1
  have hll : n' ≤ n := by rw [hlx, hly]; exact digs_length_mono hle
  obtain ⟨w1, hmk, hown, hb, hsz⟩ := make_row Tryz.underlying44 n (by omega) w
  have HLX := Lib.hid hlx
  have HLY := Lib.hid hly
  have HO := Lib.hid hown
  have HLE := Lib.hid hle
  clear hown hsz hlx hly hle
  go_enter Tryz.func93, Tryz.ntmps93
  go_wp2_with fail
  go_loopw [6, 14] (fun bo i wr => ∃ (k borrow : Nat) (zs : List Nat), i = .int .i64 k ∧ bo = .int .u32 borrow ∧ k ≤ n ∧ borrow ≤ 1 ∧ zs.length = n ∧ OkD zs ∧ Own wr w.heap.size zs ∧ Below w.heap.size w wr ∧
      val (zs.take k) + val ((digs y).take k) = val ((digs x).take k) + Bs k * borrow) (fun _ i _ => n - (intOf i).toNat)
  case atStart => exact ⟨0, 0, _, rfl, rfl, Nat.zero_le _, by omega, by simp, okD_replicate _ (by omega), HO.out, hb, by simp [val]⟩
  case round =>
    obtain ⟨k, borrow, zs, rfl, rfl, hk, hbo, hzl, hzd, hzo, hbr, hv⟩ := hrel
    have HV := Lib.hid hv
    have HZL := Lib.hid hzl
    clear hv hzl
    rcases Nat.lt_or_ge k n with hlt | hge
    · have hcell := hzo.cell (j := k) (by have := HZL.out; omega)
      have hfr := hzo.frozen k
      obtain ⟨dx, hdx⟩ : ∃ d, (digs x).getD k 0 = d := ⟨_, rfl⟩
      obtain ⟨dy, hdy⟩ : ∃ d, (digs y).getD k 0 = d := ⟨_, rfl⟩
      have bx : dx < 4294967296 := by rw [← hdx]; exact okD_getD (okD_digs _) k
      have by_ : dy < 4294967296 := by rw [← hdy]; exact okD_getD (okD_digs _) k
      have hfin : ∀ d b' : Nat, d < 4294967296 → d + dy + borrow = dx + 4294967296 * b' → OkD (zs.set k d) ∧ val ((zs.set k d).take (k + 1)) + val ((digs y).take (k + 1)) = val ((digs x).take (k + 1)) + Bs (k + 1) * b' := fun d b' hd h => by
        refine ⟨okD_set hzd k hd, ?_⟩
        rw [Bs_succ, val_take_set (by have := HZL.out; omega), val_take_succ', val_take_succ', hdx, hdy]
        exact less_round HV.out h
      have HFIN := Lib.hid hfin
      have hsub := sub32_any dx dy borrow bx by_ hbo
      have HSUB := Lib.hid hsub
      clear hsub hfin
      obtain ⟨ad, e1, _, hcx⟩ := (Num.below hX hbr).at_ (j := k) (by rw [← HLX.out]; exact hlt)
      rw [hdx] at hcx
      subst e1
      have hyc : (k < n' ∧ ∃ ad, A' = some ad ∧ wr.cell? (ad.add k) = some (.int .u32 (dy : Int))) ∨ (n' ≤ k ∧ dy = 0) := by
        rcases Nat.lt_or_ge k n' with h | h
        · obtain ⟨ad, e1, _, e3⟩ := (Num.below hY hbr).at_ (j := k) (by rw [← HLY.out]; exact h)
          exact .inl ⟨h, ad, e1, by rw [e3, hdy]⟩
        · exact .inr ⟨h, by rw [← hdy]; exact getD_of_ge (by rw [← HLY.out]; exact h)⟩
      clear hdx hdy
      rcases hyc with ⟨hky, ad', rfl, hcy⟩ | ⟨hky, rfl⟩
      all_goals
        go_wp2_with fail
        refine (HSUB.out _).mono ?_
        rintro e w' ⟨d, b', rfl, hd, hb1, heq, rfl⟩
        go_wp2_with fail
        go_roundw
        case rel => exact ⟨k + 1, b', _, by go_num, rfl, by omega, hb1, by rw [List.length_set]; exact HZL.out, (HFIN.out d b' hd heq).1, hzo.set k _, hbr.setCell (Nat.le_refl _) _, (HFIN.out d b' hd heq).2⟩
        case measure => simp [intOf]; omega
    · obtain rfl : n = k := by omega
      have hraw := hzo.raw_all hzd (by rw [HZL.out]; omega) n n HZL.out.symm (Nat.le_refl _)
      have hval : val zs = x - y := by
        have h := HV.out
        rw [val_take_all (by rw [HZL.out]; omega), val_take_all (by rw [← HLY.out]; exact hll), val_take_all (by rw [← HLX.out]; exact Nat.le_refl _), val_digs, val_digs] at h
        have hz := val_lt hzd
        rw [HZL.out] at hz
        exact less_final h hz HLE.out
      have HVAL := Lib.hid hval
      clear hval
      go_wp2_with fail
      refine (ntrim_is hraw HVAL).mono ?_
      rintro e w' ⟨rfl, hN, rfl⟩
      go_wp2_with fail
      go_ret
      exact ⟨_, _, rfl, hN, hbr⟩
theorem nless_is {A A' : Option Addr} {n n' c c' x y : Nat} {w : World} (hX : Num w (.slice A n c) x) (hY : Num w (.slice A' n' c') y) (hle : y ≤ x) (hn9 : n < 1000000000) :
    Calls Tryz.prog 93 #[.slice A n c, .slice A' n' c'] w fun e w' => ∃ B k d, e = .returned (.slice B k d) ∧ Num w' (.slice B k d) (x - y) ∧ Below w.heap.size w w' := by
  refine (nless_own hX hY hle hn9).mono ?_
  rintro e w' ⟨m, d, rfl, hN, hb⟩
  exact ⟨_, _, _, rfl, hN, hb⟩
end Go.Proofs.YthmmnmajkeoaaabGreatDoor
namespace Go.Proofs.YthmmnmajkeoaaabGreatDoor
open Go.RowKit
attribute [local go_sem ↓] Go.wp_at_zero Go.wp_at_succ

theorem prod_round {V b carry S D E d de dz t q z bk : Nat} (h : V + b * carry = S + D * (d * E)) (hq : q = t + 4294967296 * z) (hs : q = d * de + dz + carry) (hb : b = D * bk) :
    V + b * t + 4294967296 * b * z = S + b * dz + D * (d * (E + bk * de)) := by
  have e : b * (t + 4294967296 * z) = b * (d * de + dz + carry) := by rw [← hq, hs]
  subst hb
  grind
theorem drop_set_succ {zs : List Nat} {i d : Nat} {ys : List Nat} (h : zs.drop i = ys.drop i) : (zs.set i d).drop (i + 1) = ys.drop (i + 1) := by
  rw [List.drop_set_of_lt (by omega), ← List.drop_drop, h, List.drop_drop]

set_option maxRecDepth 100000 in
set_option maxHeartbeats 1600000 in
theorem nprod_one {A A' : Option Addr} {n n' c c' x y : Nat} {w : World} (hX : Num w (.slice A n c) x) (hY : Num w (.slice A' n' c') y) (h1 : n = 1) (h2 : n' = 1) :
    Calls Tryz.prog 61 #[.slice A n c, .slice A' n' c'] w fun e w' => ∃ B k d, e = .returned (.slice B k d) ∧ Num w' (.slice B k d) (x * y) ∧ Below w.heap.size w w' := by
  have hlx := (Raw.cap hX).1
  have hly := (Raw.cap hY).1
  have hx : x < 4294967296 := by have := lt_of_digs_length (x := x) (k := 1) (by omega); rwa [Bs_one] at this
  have hy : y < 4294967296 := by have := lt_of_digs_length (x := y) (k := 1) (by omega); rwa [Bs_one] at this
  have hm := mul_bound hx hy
  obtain ⟨ad, hA, _, hcx⟩ := Raw.at_ (j := 0) hX (by omega)
  obtain ⟨ad', hA', _, hcy⟩ := Raw.at_ (j := 0) hY (by omega)
  rw [digs_digit, Bs_zero, Nat.div_one, Nat.mod_eq_of_lt hx] at hcx
  rw [digs_digit, Bs_zero, Nat.div_one, Nat.mod_eq_of_lt hy] at hcy
  rw [show ad.add 0 = ad from rfl] at hcx
  rw [show ad'.add 0 = ad' from rfl] at hcy
  subst hA hA' h1 h2
  clear hlx hly
  go_enter Tryz.func61, Tryz.ntmps61
  go_wp2_with fail
  go_still_tail 9, (by kernel_rfl)
  change wpList _ _ _ _ _ w.drew
  rw [show w.drew = w.drewN 1 from rfl]
  go_wp2_with fail
  refine (word_any (x * y) (by omega) _).mono ?_
  rintro e w' ⟨B, k, d, rfl, hN, hbl⟩
  go_wp2_with fail
  go_ret
  exact ⟨B, k, d, rfl, hN, (below_drewN (Below.refl _ _) 1).trans hbl⟩

set_option maxRecDepth 100000 in
set_option maxHeartbeats 1600000 in
theorem nprod_many {A A' : Option Addr} {n n' c c' x y : Nat} {w : World} (hX : Num w (.slice A n c) x) (hY : Num w (.slice A' n' c') y) (hl : n + n' ≤ 1000000000) (hne : n ≠ 1 ∨ (n = 1 ∧ n' ≠ 1)) :
    Calls Tryz.prog 61 #[.slice A n c, .slice A' n' c'] w fun e w' => ∃ B k d, e = .returned (.slice B k d) ∧ Num w' (.slice B k d) (x * y) ∧ Below w.heap.size w w' := by
  obtain ⟨w1, hmk, hown, hb, hsz⟩ := make_row Tryz.underlying44 (n + n') hl w
  rw [Int.natCast_add] at hmk
  have hlx := (Raw.cap hX).1
  have hly := (Raw.cap hY).1
  have HLX := Lib.hid hlx
  have HLY := Lib.hid hly
  have HO := Lib.hid hown
  clear hown hsz hlx hly
  have hcase : (((n : Int) == 1) = false) ∨ (((n : Int) == 1) = true ∧ ((n' : Int) == 1) = false) := by
    rcases hne with h | ⟨h1, h2⟩
    · exact .inl (by rw [beq_eq_false_iff_ne]; omega)
    · exact .inr ⟨by rw [beq_iff_eq]; omega, by rw [beq_eq_false_iff_ne]; omega⟩
  clear hne
  rcases hcase with q1 | ⟨q1, q2⟩
  all_goals
    go_enter Tryz.func61, Tryz.ntmps61
    go_wp2_with fail
    go_loopw [38] (fun i wr => ∃ (k : Nat) (zs : List Nat), i = .int .i64 k ∧ k ≤ n ∧ zs.length = n + n' ∧ OkD zs ∧ Own wr w.heap.size zs ∧ Below w.heap.size w wr ∧
        val (zs.take (k + n')) = val ((digs x).take k) * y) (fun i _ => n - (intOf i).toNat)
    case atStart => exact ⟨0, _, rfl, Nat.zero_le _, by simp, okD_replicate _ (by omega), HO.out, hb, by rw [List.take_replicate, val_replicate]; simp [val]⟩
    case round =>
      obtain ⟨k, zs, rfl, hk, hzl, hzd, hzo, hbr, hv⟩ := hrel
      have HV := Lib.hid hv
      have HZL := Lib.hid hzl
      clear hv hzl
      rcases Nat.lt_or_ge k n with hlt | hge
      · obtain ⟨ad, hA, hb', hcx⟩ := (Num.below hX hbr).at_ (j := k) (by rw [← HLX.out]; exact hlt)
        subst hA
        obtain ⟨dx, hdx⟩ : ∃ d, (digs x).getD k 0 = d := ⟨_, rfl⟩
        have bx : dx < 4294967296 := by rw [← hdx]; exact okD_getD (okD_digs x) k
        rw [hdx] at hcx
        have HDX := Lib.hid hdx
        clear hdx
        go_wp2_with fail
        go_loopw [8, 45] (fun cr i wi => ∃ (j carry : Nat) (zk : List Nat), i = .int .i64 j ∧ cr = .int .u64 carry ∧ j ≤ n' ∧ carry < 4294967296 ∧ zk.length = n + n' ∧ OkD zk ∧ Own wi w.heap.size zk ∧ Below w.heap.size w wi ∧
            zk.drop (k + j) = zs.drop (k + j) ∧ val (zk.take (k + j)) + Bs (k + j) * carry = val (zs.take (k + j)) + Bs k * (dx * val ((digs y).take j))) (fun _ i _ => n' - (intOf i).toNat)
        case atStart => exact ⟨0, 0, zs, rfl, rfl, Nat.zero_le _, by omega, HZL.out, hzd, hzo, hbr, rfl, by simp [val]⟩
        case round =>
          obtain ⟨j, carry, zk, rfl, rfl, hj, hcar, hzkl, hzkd, hzko, hbi, hdr, hv⟩ := hrel
          have HV2 := Lib.hid hv
          have HDR := Lib.hid hdr
          have HZK := Lib.hid hzkl
          clear hv hdr hzkl
          rcases Nat.lt_or_ge j n' with hjt | hjge
          · obtain ⟨ad', hA', _, hcy⟩ := (Num.below hY hbi).at_ (j := j) (by rw [← HLY.out]; exact hjt)
            subst hA'
            have hcz := hzko.cell (j := k + j) (by rw [HZK.out]; omega)
            have hfr := hzko.frozen (k + j)
            obtain ⟨dz, hdz⟩ : ∃ d, zk.getD (k + j) 0 = d := ⟨_, rfl⟩
            obtain ⟨dy, hdy⟩ : ∃ d, (digs y).getD j 0 = d := ⟨_, rfl⟩
            have bz : dz < 4294967296 := by rw [← hdz]; exact okD_getD hzkd _
            have by_ : dy < 4294967296 := by rw [← hdy]; exact okD_getD (okD_digs y) j
            rw [hdz] at hcz
            rw [hdy] at hcy
            have HDZ := Lib.hid hdz
            have HDY := Lib.hid hdy
            clear hdz hdy
            have m2 := mul_bound bx by_
            have i1 : (0 : Int) ≤ (k : Int) + (j : Int) := by omega
            have i2 : (k : Int) + (j : Int) < (n : Int) + (n' : Int) := by omega
            have i3 : ((k : Int) + (j : Int)).toNat = k + j := by omega
            have i4 : IntKind.i64.wrap ((k : Int) + (j : Int)) = (k : Int) + (j : Int) := IntWalk.i64_in _ (by omega)
            go_wp2_with fail
            go_roundw
            case rel =>
              obtain ⟨q, hq⟩ : ∃ q, q = dx * dy + dz + carry := ⟨_, rfl⟩
              have eq : ((dx : Int) * (dy : Int) + (dz : Int) + (carry : Int)) = (q : Int) := by rw [hq]; simp
              rw [eq, show ((q : Int) % 4294967296) = ((q % 4294967296 : Nat) : Int) by omega, show ((q : Int) / 4294967296) = ((q / 4294967296 : Nat) : Int) by omega]
              have hgz : zs.getD (k + j) 0 = dz := by rw [← HDZ.out]; exact (getD_of_drop HDR.out).symm
              refine ⟨j + 1, q / 4294967296, _, by go_num, rfl, by omega, by omega, by rw [List.length_set]; exact HZK.out, okD_set hzkd (k + j) (d := q % 4294967296) (by omega), hzko.set (k + j) _, hbi.setCell (Nat.le_refl _) _, drop_set_succ HDR.out, ?_⟩
              rw [← Nat.add_assoc, val_take_set (by rw [HZK.out]; omega), val_take_succ', val_take_succ', HDY.out, hgz, Bs_succ]
              exact prod_round HV2.out (Nat.mod_add_div q 4294967296).symm hq (Bs_add k j)
            case measure => simp [intOf]; omega
          · obtain rfl : n' = j := by omega
            have hcz := hzko.cell (j := k + n') (by rw [HZK.out]; omega)
            have hfr := hzko.frozen (k + n')
            have i1 : (0 : Int) ≤ (k : Int) + (n' : Int) := by omega
            have i2 : (k : Int) + (n' : Int) < (n : Int) + (n' : Int) := by omega
            have i3 : ((k : Int) + (n' : Int)).toNat = k + n' := by omega
            have i4 : IntKind.i64.wrap ((k : Int) + (n' : Int)) = (k : Int) + (n' : Int) := IntWalk.i64_in _ (by omega)
            go_wp2_with fail
            go_roundw
            case rel =>
              refine ⟨k + 1, _, by go_num, by omega, by rw [List.length_set]; exact HZK.out, okD_set hzkd (k + n') hcar, hzko.set (k + n') _, hbi.setCell (Nat.le_refl _) _, ?_⟩
              have hv' := HV2.out
              rw [val_take_all (ds := digs y) (by rw [← HLY.out]; exact Nat.le_refl _), val_digs] at hv'
              rw [show k + 1 + n' = k + n' + 1 by omega, val_take_set (by rw [HZK.out]; omega), val_take_succ', HDX.out]
              exact mul_round HV.out hv' rfl
            case measure => simp [intOf]; omega
      · obtain rfl : n = k := by omega
        have hval : val zs = x * y := by
          have h := HV.out
          rw [val_take_all (by rw [HZL.out]; omega), val_take_all (by rw [← HLX.out]; exact Nat.le_refl _), val_digs] at h
          exact h
        have hraw := hzo.raw_all hzd (by rw [HZL.out]; omega) (n + n') (n + n') HZL.out.symm (Nat.le_refl _)
        have HVAL := Lib.hid hval
        clear hval
        go_wp2_with fail
        refine (ntrim_is hraw HVAL).mono ?_
        rintro e w' ⟨rfl, hN, rfl⟩
        go_wp2_with fail
        go_ret
        exact ⟨_, _, _, rfl, hN, hbr⟩

theorem nprod_is {A A' : Option Addr} {n n' c c' x y : Nat} {w : World} (hX : Num w (.slice A n c) x) (hY : Num w (.slice A' n' c') y) (hl : n + n' ≤ 1000000000) :
    Calls Tryz.prog 61 #[.slice A n c, .slice A' n' c'] w fun e w' => ∃ B k d, e = .returned (.slice B k d) ∧ Num w' (.slice B k d) (x * y) ∧ Below w.heap.size w w' := by
  by_cases h1 : n = 1
  · by_cases h2 : n' = 1
    · exact nprod_one hX hY h1 h2
    · exact nprod_many hX hY hl (.inr ⟨h1, h2⟩)
  · exact nprod_many hX hY hl (.inl h1)
end Go.Proofs.YthmmnmajkeoaaabGreatDoor
