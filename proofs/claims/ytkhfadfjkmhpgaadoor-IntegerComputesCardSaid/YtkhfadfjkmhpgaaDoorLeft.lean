/-
  The contract of the reference's Left.
-/
import Derived.Test.YtkhfadfjkmhpgaaDoorRight
namespace Go.Proofs.YtkhfadfjkmhpgaaDoor
open Go.RowKit

theorem wrap_shl {s dx : Nat} (hs : s < 32) (hd : dx < 4294967296) : IntKind.u64.wrap ((dx : Int) * 2 ^ s) = ((dx * 2 ^ s : Nat) : Int) := by
  have hp := pow_le31 hs
  have hb : dx * 2 ^ s < 18446744073709551616 := by
    have : dx * 2 ^ s ≤ 4294967295 * 2147483648 := Nat.mul_le_mul (by omega) hp
    omega
  rw [show ((dx : Int) * 2 ^ s) = ((dx * 2 ^ s : Nat) : Int) by norm_cast, IntKind.wrap_u64]
  revert hb; generalize dx * 2 ^ s = q; intro hb; omega
theorem or_low {s cz dx : Nat} (hs : s < 32) (hc : cz < 2 ^ s) : bits .or .u32 (cz : Int) ((dx * 2 ^ s % 4294967296 : Nat) : Int) = ((cz + dx * 2 ^ s % 4294967296 : Nat) : Int) ∧ cz + dx * 2 ^ s % 4294967296 < 4294967296 := by
  obtain ⟨u, hu⟩ : ∃ u, 2 ^ (32 - s) = u := ⟨_, rfl⟩
  have ht : 4294967296 = u * 2 ^ s := by rw [← hu, ← Nat.pow_add, show 32 - s + s = 32 by omega]
  have hm : dx * 2 ^ s % 4294967296 = dx % u * 2 ^ s := by rw [ht, Nat.mul_mod_mul_right]
  have hp := pow_le31 hs
  have hlt : dx * 2 ^ s % 4294967296 < 4294967296 := Nat.mod_lt _ (by omega)
  have hsum : cz + dx % u * 2 ^ s < 4294967296 := by
    have hup : 0 < u := by rw [← hu]; exact Nat.pow_pos (by omega)
    have h1 : (dx % u + 1) * 2 ^ s ≤ u * 2 ^ s := Nat.mul_le_mul_right _ (Nat.mod_lt dx hup)
    rw [Nat.add_mul, Nat.one_mul] at h1
    omega
  rw [u32_or_nat cz _ (by omega) hlt, hm]
  refine ⟨?_, hsum⟩
  congr 1
  rw [show dx % u * 2 ^ s = (dx % u) <<< s by rw [Nat.shiftLeft_eq], Nat.or_comm, ← Nat.shiftLeft_add_eq_or_of_lt hc, Nat.add_comm]
theorem or_zero {h : Nat} (hh : h < 4294967296) : bits .or .u32 0 (h : Int) = (h : Int) := by
  have := u32_or_nat 0 h (by omega) hh
  simpa using this
theorem left_round {V b cz Bz P E bj dx t lo hi : Nat} (h : V + b * cz = Bz * (P * E)) (ht : t = dx * P) (hl : t = lo + 4294967296 * hi) (hb : b = Bz * bj) : V + b * (cz + lo) + 4294967296 * b * hi = Bz * (P * (E + bj * dx)) := by
  have : b * (cz + lo) + 4294967296 * b * hi = b * cz + b * t := by rw [hl]; grind
  rw [Nat.add_assoc, this, ← Nat.add_assoc, h, ht, hb]; grind

set_option maxRecDepth 100000 in
set_option maxHeartbeats 1600000 in
theorem left_own {A : Option Addr} {n c x : Nat} {w : World} (hx : Num w (.slice A n c) x) (k : Nat) (hk : k ≤ 1000000) (hl : (digs x).length ≤ 1000000) :
    Calls Tryd.prog 74 #[.slice A n c, .int .i64 (k : Int)] w fun e w' => ∃ m d, e = .returned (.slice (some ⟨w.heap.size, 0, none⟩) m d) ∧ Num w' (.slice (some ⟨w.heap.size, 0, none⟩) m d) (x * 2 ^ k) ∧ Below w.heap.size w w' := by
  have hn := (Raw.cap hx).1
  obtain ⟨len, hlen⟩ : ∃ len, (digs x).length = len := ⟨_, rfl⟩
  rw [hlen] at hn hl
  subst hn
  obtain ⟨z, hz⟩ : ∃ z, z = k / 32 := ⟨_, rfl⟩
  obtain ⟨s, hs⟩ : ∃ s, s = k % 32 := ⟨_, rfl⟩
  have hz1 : z ≤ 1000000 := by omega
  have hs1 : s < 32 := by omega
  have hzi : (k : Int) / 32 = (z : Int) := by omega
  have hsi : (k : Int) % 32 = (s : Int) := by omega
  obtain ⟨w1, hmk, hown, hb, hsz⟩ := make_row Tryd.underlying25 (z + n + 1) (by omega) w
  rw [show ((z + n + 1 : Nat) : Int) = (z : Int) + (n : Int) + 1 by omega] at hmk
  have HO := Lib.hid hown
  have HZ := Lib.hid hz
  have HS := Lib.hid hs
  have HLEN := Lib.hid hlen
  clear hown hz hs hsz hlen
  go_enter Tryd.func74, Tryd.ntmps74
  go_wp2_with fail
  rw [hsi]
  go_loopw [22] (fun i wr => ∃ (j : Nat) (zs : List Nat), i = .int .i64 j ∧ j ≤ n ∧ zs.length = z + n + 1 ∧ OkD zs ∧ Own wr w.heap.size zs ∧ Below w.heap.size w wr ∧ zs.getD (z + j) 0 < 2 ^ s ∧ (∀ q, z + j < q → zs.getD q 0 = 0) ∧
      val (zs.take (z + j)) + Bs (z + j) * zs.getD (z + j) 0 = Bs z * (2 ^ s * val ((digs x).take j))) (fun i _ => n - (intOf i).toNat)
  case atStart =>
    have hr0 : ∀ q, (List.replicate (z + n + 1) 0).getD q 0 = 0 := fun q => by
      rw [List.getD_eq_getElem?_getD, List.getElem?_replicate]; split <;> rfl
    exact ⟨0, _, rfl, Nat.zero_le _, by simp, okD_replicate _ (by omega), HO.out, hb, by rw [hr0]; exact Nat.pow_pos (by omega), fun q _ => hr0 q, by rw [hr0, List.take_replicate, val_replicate]; simp [val]⟩
  case round =>
    obtain ⟨j, zs, rfl, hj, hzl, hzd, hzo, hbr, hcz, hze, hv⟩ := hrel
    obtain ⟨cz, hczd⟩ : ∃ d, zs.getD (z + j) 0 = d := ⟨_, rfl⟩
    rw [hczd] at hcz hv
    have HV := Lib.hid hv
    have HZL := Lib.hid hzl
    have HCZ := Lib.hid hcz
    have HCZD := Lib.hid hczd
    have HZE := Lib.hid hze
    clear hv hzl hcz hczd hze
    rcases Nat.lt_or_ge j n with hlt | hge
    · obtain ⟨ad, hA, hb', hcx⟩ := (Num.below hx hbr).at_ (j := j) (by rw [HLEN.out]; exact hlt)
      subst hA
      obtain ⟨dx, hdx⟩ : ∃ d, (digs x).getD j 0 = d := ⟨_, rfl⟩
      have bx : dx < 4294967296 := by rw [← hdx]; exact okD_getD (okD_digs x) j
      rw [hdx] at hcx
      have HDX := Lib.hid hdx
      clear hdx
      have hc1 := hzo.cell (j := z + j) (by rw [HZL.out]; omega)
      rw [HCZD.out] at hc1
      have hf1 := hzo.frozen (z + j)
      have hc2 := hzo.cell (j := z + j + 1) (by rw [HZL.out]; omega)
      rw [HZE.out (z + j + 1) (by omega)] at hc2
      have hf2 := hzo.frozen (z + j + 1)
      have hsh := wrap_shl hs1 bx
      obtain ⟨t, ht⟩ : ∃ t, dx * 2 ^ s = t := ⟨_, rfl⟩
      obtain ⟨o1, o2⟩ := or_low (dx := dx) hs1 HCZ.out
      rw [ht] at hsh o1 o2
      have htb : t < 18446744073709551616 := by
        rw [← ht]
        have : dx * 2 ^ s ≤ 4294967295 * 2147483648 := Nat.mul_le_mul (by omega) (pow_le31 hs1)
        omega
      have HSH := Lib.hid hsh
      have HT := Lib.hid ht
      have O1 := Lib.hid o1
      have O2 := Lib.hid o2
      clear o1 o2 ht hsh
      have hc2' : wr.cell? ⟨w.heap.size, z + j + 1, none⟩ = some (.int .u32 0) := hc2
      clear hc2
      go_wp2_with fail
      go_roundw
      case rel =>
        have hlo : t % 4294967296 < 4294967296 := Nat.mod_lt _ (by omega)
        have hhi : t / 4294967296 < 4294967296 := by omega
        have e1 : (t : Int) % 4294967296 = ((t % 4294967296 : Nat) : Int) := by omega
        have e2 : (t : Int) / 4294967296 % 4294967296 = ((t / 4294967296 : Nat) : Int) := by omega
        rw [HSH.out, e1, e2, O1.out, or_zero hhi]
        have hne : ∀ q, q ≠ z + j → q ≠ z + j + 1 → ((zs.set (z + j) (cz + t % 4294967296)).set (z + j + 1) (t / 4294967296)).getD q 0 = zs.getD q 0 := fun q h1 h2 => by
          rw [List.getD_eq_getElem?_getD, List.getD_eq_getElem?_getD, List.getElem?_set_ne (Ne.symm h2), List.getElem?_set_ne (Ne.symm h1)]
        have hself : ((zs.set (z + j) (cz + t % 4294967296)).set (z + j + 1) (t / 4294967296)).getD (z + j + 1) 0 = t / 4294967296 := getD_set_self (by rw [List.length_set, HZL.out]; omega) _
        refine ⟨j + 1, (zs.set (z + j) (cz + t % 4294967296)).set (z + j + 1) (t / 4294967296), by go_num, by omega, by rw [List.length_set, List.length_set]; exact HZL.out, okD_set (okD_set hzd _ O2.out) _ hhi, (hzo.set _ _).set _ _, (hbr.setCell (Nat.le_refl _) _).setCell (Nat.le_refl _) _, ?_, ?_, ?_⟩
        · rw [← Nat.add_assoc, hself, Nat.div_lt_iff_lt_mul (by omega), ← HT.out, Nat.mul_comm]
          exact Nat.mul_lt_mul_of_pos_left bx (Nat.pow_pos (by omega))
        · intro q hq
          rw [hne q (by omega) (by omega)]
          exact HZE.out q (by omega)
        · rw [← Nat.add_assoc, hself, List.take_set_of_le (Nat.le_refl _), val_take_set (by rw [HZL.out]; omega), val_take_succ', HDX.out, Bs_succ]
          exact left_round HV.out HT.out.symm (by omega) (Bs_add z j)
      case measure => simp [intOf]; omega
    · obtain rfl : j = n := by omega
      have hval : val zs = x * 2 ^ k := by
        have h := val_take_succ zs (z + j) (by rw [HZL.out]; omega)
        rw [val_take_all (by rw [HZL.out]; omega), HCZD.out, HV.out, val_take_all (by rw [HLEN.out]; omega), val_digs] at h
        rw [h, pow_split k, ← HZ.out, ← HS.out]
        grind
      have hraw := hzo.raw_all hzd (by rw [HZL.out]; omega) (z + j + 1) (z + j + 1) HZL.out.symm (Nat.le_refl _)
      have HVAL := Lib.hid hval
      clear hval
      go_wp2_with fail
      refine (ntrim_is hraw HVAL).mono ?_
      rintro e w' ⟨rfl, hN, rfl⟩
      go_wp2_with fail
      go_ret
      exact ⟨_, _, rfl, hN, hbr⟩
theorem left_is {A : Option Addr} {n c x : Nat} {w : World} (hx : Num w (.slice A n c) x) (k : Nat) (hk : k ≤ 1000000) (hl : (digs x).length ≤ 1000000) :
    Calls Tryd.prog 74 #[.slice A n c, .int .i64 (k : Int)] w fun e w' => ∃ B m d, e = .returned (.slice B m d) ∧ Num w' (.slice B m d) (x * 2 ^ k) ∧ Below w.heap.size w w' := by
  refine (left_own hx k hk hl).mono ?_
  rintro e w' ⟨m, d, rfl, hN, hb⟩
  exact ⟨_, _, _, rfl, hN, hb⟩
section
variable {A A' : Option Addr} {n n' c c' x y L L' : Nat} {w : World}
theorem left_v (hx : NV w (.slice A n c) x L) (hL : L ≤ 1000000) (k : Nat) (hk : k ≤ 5000) :
    Calls Tryd.prog 74 #[.slice A n c, .int .i64 (k : Int)] w fun e w' => ∃ B m d, e = .returned (.slice B m d) ∧ NV w' (.slice B m d) (x * 2 ^ k) (L + 200) ∧ Below w.heap.size w w' := by
  have hk2 : k ≤ 32 * 200 := by omega
  have hb : x * 2 ^ k < Bs (L + 200) := by
    rw [Bs_add]
    exact Nat.lt_of_lt_of_le (Nat.mul_lt_mul_of_pos_right hx.2 (Nat.pow_pos (by omega))) (Nat.mul_le_mul_left _ (pow_le_Bs hk2))
  have hl := digs_length_le hx.2
  refine (left_is hx.1 k (by omega) (by omega)).mono ?_
  rintro e w' ⟨B, m, d, rfl, hN, hbl⟩
  exact ⟨_, _, _, rfl, ⟨hN, hb⟩, hbl⟩
theorem right_v (hx : NV w (.slice A n c) x L) (k : Nat) (hk : k ≤ 1048576) :
    Calls Tryd.prog 75 #[.slice A n c, .int .i64 (k : Int)] w fun e w' => ∃ B m d, e = .returned (.slice B m d) ∧ NV w' (.slice B m d) (x / 2 ^ k) L ∧ Below w.heap.size w w' := by
  refine (right_is hx.1 k hk).mono ?_
  rintro e w' ⟨B, m, d, rfl, hN, hbl⟩
  exact ⟨_, _, _, rfl, ⟨hN, Nat.lt_of_le_of_lt (Nat.div_le_self _ _) hx.2⟩, hbl⟩
end
end Go.Proofs.YtkhfadfjkmhpgaaDoor
