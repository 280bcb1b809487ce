/-
  The contract of the reference's Product.
-/
import Derived.Test.YtkhfadfjkmhpgaaDoorLess
import Derived.StillTailTactics
namespace Go.Proofs.YtkhfadfjkmhpgaaDoor
open Go.RowKit
attribute [local go_sem ↓] Go.wp_at_zero Go.wp_at_succ

theorem prod_round {V b carry S D E d de dz t q z bk : Nat} (h : V + b * carry = S + D * (d * E)) (hq : q = t + 4294967296 * z) (hs : q = d * de + dz + carry) (hb : b = D * bk) :
    V + b * t + 4294967296 * b * z = S + b * dz + D * (d * (E + bk * de)) := by
  have e : b * (t + 4294967296 * z) = b * (d * de + dz + carry) := by rw [← hq, hs]
  subst hb
  grind
theorem drop_set_succ {zs : List Nat} {i d : Nat} {ys : List Nat} (h : zs.drop i = ys.drop i) : (zs.set i d).drop (i + 1) = ys.drop (i + 1) := by
  rw [List.drop_set_of_lt (by omega), ← List.drop_drop, h, List.drop_drop]

set_option maxRecDepth 100000 in
set_option maxHeartbeats 1600000 in
theorem nprod_one {A A' : Option Addr} {n n' c c' x y : Nat} {w : World} (hX : Num w (.slice A n c) x) (hY : Num w (.slice A' n' c') y) (h1 : n = 1) (h2 : n' = 1) :
    Calls Tryd.prog 40 #[.slice A n c, .slice A' n' c'] w fun e w' => ∃ B k d, e = .returned (.slice B k d) ∧ Num w' (.slice B k d) (x * y) ∧ Below w.heap.size w w' := by
  have hlx := (Raw.cap hX).1
  have hly := (Raw.cap hY).1
  have hx : x < 4294967296 := by have := lt_of_digs_length (x := x) (k := 1) (by omega); rwa [Bs_one] at this
  have hy : y < 4294967296 := by have := lt_of_digs_length (x := y) (k := 1) (by omega); rwa [Bs_one] at this
  have hm := mul_bound hx hy
  obtain ⟨ad, hA, _, hcx⟩ := Raw.at_ (j := 0) hX (by omega)
  obtain ⟨ad', hA', _, hcy⟩ := Raw.at_ (j := 0) hY (by omega)
  rw [digs_digit, Bs_zero, Nat.div_one, Nat.mod_eq_of_lt hx] at hcx
  rw [digs_digit, Bs_zero, Nat.div_one, Nat.mod_eq_of_lt hy] at hcy
  rw [show ad.add 0 = ad from rfl] at hcx
  rw [show ad'.add 0 = ad' from rfl] at hcy
  subst hA hA' h1 h2
  clear hlx hly
  go_enter Tryd.func40, Tryd.ntmps40
  go_wp2_with fail
  go_still_tail 9, (by kernel_rfl)
  change wpList _ _ _ _ _ w.drew
  rw [show w.drew = w.drewN 1 from rfl]
  go_wp2_with fail
  refine (word_any (x * y) (by omega) _).mono ?_
  rintro e w' ⟨B, k, d, rfl, hN, hbl⟩
  go_wp2_with fail
  go_ret
  exact ⟨B, k, d, rfl, hN, (below_drewN (Below.refl _ _) 1).trans hbl⟩

set_option maxRecDepth 100000 in
set_option maxHeartbeats 1600000 in
theorem nprod_many {A A' : Option Addr} {n n' c c' x y : Nat} {w : World} (hX : Num w (.slice A n c) x) (hY : Num w (.slice A' n' c') y) (hl : n + n' ≤ 1000000000) (hne : n ≠ 1 ∨ (n = 1 ∧ n' ≠ 1)) :
    Calls Tryd.prog 40 #[.slice A n c, .slice A' n' c'] w fun e w' => ∃ B k d, e = .returned (.slice B k d) ∧ Num w' (.slice B k d) (x * y) ∧ Below w.heap.size w w' := by
  obtain ⟨w1, hmk, hown, hb, hsz⟩ := make_row Tryd.underlying25 (n + n') hl w
  rw [Int.natCast_add] at hmk
  have hlx := (Raw.cap hX).1
  have hly := (Raw.cap hY).1
  have HLX := Lib.hid hlx
  have HLY := Lib.hid hly
  have HO := Lib.hid hown
  clear hown hsz hlx hly
  have hcase : (((n : Int) == 1) = false) ∨ (((n : Int) == 1) = true ∧ ((n' : Int) == 1) = false) := by
    rcases hne with h | ⟨h1, h2⟩
    · exact .inl (by rw [beq_eq_false_iff_ne]; omega)
    · exact .inr ⟨by rw [beq_iff_eq]; omega, by rw [beq_eq_false_iff_ne]; omega⟩
  clear hne
  rcases hcase with q1 | ⟨q1, q2⟩
  all_goals
    go_enter Tryd.func40, Tryd.ntmps40
    go_wp2_with fail
    go_loopw [38] (fun i wr => ∃ (k : Nat) (zs : List Nat), i = .int .i64 k ∧ k ≤ n ∧ zs.length = n + n' ∧ OkD zs ∧ Own wr w.heap.size zs ∧ Below w.heap.size w wr ∧
        val (zs.take (k + n')) = val ((digs x).take k) * y) (fun i _ => n - (intOf i).toNat)
    case atStart => exact ⟨0, _, rfl, Nat.zero_le _, by simp, okD_replicate _ (by omega), HO.out, hb, by rw [List.take_replicate, val_replicate]; simp [val]⟩
    case round =>
      obtain ⟨k, zs, rfl, hk, hzl, hzd, hzo, hbr, hv⟩ := hrel
      have HV := Lib.hid hv
      have HZL := Lib.hid hzl
      clear hv hzl
      rcases Nat.lt_or_ge k n with hlt | hge
      · obtain ⟨ad, hA, hb', hcx⟩ := (Num.below hX hbr).at_ (j := k) (by rw [← HLX.out]; exact hlt)
        subst hA
        obtain ⟨dx, hdx⟩ : ∃ d, (digs x).getD k 0 = d := ⟨_, rfl⟩
        have bx : dx < 4294967296 := by rw [← hdx]; exact okD_getD (okD_digs x) k
        rw [hdx] at hcx
        have HDX := Lib.hid hdx
        clear hdx
        go_wp2_with fail
        go_loopw [8, 45] (fun cr i wi => ∃ (j carry : Nat) (zk : List Nat), i = .int .i64 j ∧ cr = .int .u64 carry ∧ j ≤ n' ∧ carry < 4294967296 ∧ zk.length = n + n' ∧ OkD zk ∧ Own wi w.heap.size zk ∧ Below w.heap.size w wi ∧
            zk.drop (k + j) = zs.drop (k + j) ∧ val (zk.take (k + j)) + Bs (k + j) * carry = val (zs.take (k + j)) + Bs k * (dx * val ((digs y).take j))) (fun _ i _ => n' - (intOf i).toNat)
        case atStart => exact ⟨0, 0, zs, rfl, rfl, Nat.zero_le _, by omega, HZL.out, hzd, hzo, hbr, rfl, by simp [val]⟩
        case round =>
          obtain ⟨j, carry, zk, rfl, rfl, hj, hcar, hzkl, hzkd, hzko, hbi, hdr, hv⟩ := hrel
          have HV2 := Lib.hid hv
          have HDR := Lib.hid hdr
          have HZK := Lib.hid hzkl
          clear hv hdr hzkl
          rcases Nat.lt_or_ge j n' with hjt | hjge
          · obtain ⟨ad', hA', _, hcy⟩ := (Num.below hY hbi).at_ (j := j) (by rw [← HLY.out]; exact hjt)
            subst hA'
            have hcz := hzko.cell (j := k + j) (by rw [HZK.out]; omega)
            have hfr := hzko.frozen (k + j)
            obtain ⟨dz, hdz⟩ : ∃ d, zk.getD (k + j) 0 = d := ⟨_, rfl⟩
            obtain ⟨dy, hdy⟩ : ∃ d, (digs y).getD j 0 = d := ⟨_, rfl⟩
            have bz : dz < 4294967296 := by rw [← hdz]; exact okD_getD hzkd _
            have by_ : dy < 4294967296 := by rw [← hdy]; exact okD_getD (okD_digs y) j
            rw [hdz] at hcz
            rw [hdy] at hcy
            have HDZ := Lib.hid hdz
            have HDY := Lib.hid hdy
            clear hdz hdy
            have m2 := mul_bound bx by_
            have i1 : (0 : Int) ≤ (k : Int) + (j : Int) := by omega
            have i2 : (k : Int) + (j : Int) < (n : Int) + (n' : Int) := by omega
            have i3 : ((k : Int) + (j : Int)).toNat = k + j := by omega
            have i4 : IntKind.i64.wrap ((k : Int) + (j : Int)) = (k : Int) + (j : Int) := IntWalk.i64_in _ (by omega)
            go_wp2_with fail
            go_roundw
            case rel =>
              obtain ⟨q, hq⟩ : ∃ q, q = dx * dy + dz + carry := ⟨_, rfl⟩
              have eq : ((dx : Int) * (dy : Int) + (dz : Int) + (carry : Int)) = (q : Int) := by rw [hq]; simp
              rw [eq, show ((q : Int) % 4294967296) = ((q % 4294967296 : Nat) : Int) by omega, show ((q : Int) / 4294967296) = ((q / 4294967296 : Nat) : Int) by omega]
              have hgz : zs.getD (k + j) 0 = dz := by rw [← HDZ.out]; exact (getD_of_drop HDR.out).symm
              refine ⟨j + 1, q / 4294967296, _, by go_num, rfl, by omega, by omega, by rw [List.length_set]; exact HZK.out, okD_set hzkd (k + j) (d := q % 4294967296) (by omega), hzko.set (k + j) _, hbi.setCell (Nat.le_refl _) _, drop_set_succ HDR.out, ?_⟩
              rw [← Nat.add_assoc, val_take_set (by rw [HZK.out]; omega), val_take_succ', val_take_succ', HDY.out, hgz, Bs_succ]
              exact prod_round HV2.out (Nat.mod_add_div q 4294967296).symm hq (Bs_add k j)
            case measure => simp [intOf]; omega
          · obtain rfl : n' = j := by omega
            have hcz := hzko.cell (j := k + n') (by rw [HZK.out]; omega)
            have hfr := hzko.frozen (k + n')
            have i1 : (0 : Int) ≤ (k : Int) + (n' : Int) := by omega
            have i2 : (k : Int) + (n' : Int) < (n : Int) + (n' : Int) := by omega
            have i3 : ((k : Int) + (n' : Int)).toNat = k + n' := by omega
            have i4 : IntKind.i64.wrap ((k : Int) + (n' : Int)) = (k : Int) + (n' : Int) := IntWalk.i64_in _ (by omega)
            go_wp2_with fail
            go_roundw
            case rel =>
              refine ⟨k + 1, _, by go_num, by omega, by rw [List.length_set]; exact HZK.out, okD_set hzkd (k + n') hcar, hzko.set (k + n') _, hbi.setCell (Nat.le_refl _) _, ?_⟩
              have hv' := HV2.out
              rw [val_take_all (ds := digs y) (by rw [← HLY.out]; exact Nat.le_refl _), val_digs] at hv'
              rw [show k + 1 + n' = k + n' + 1 by omega, val_take_set (by rw [HZK.out]; omega), val_take_succ', HDX.out]
              exact mul_round HV.out hv' rfl
            case measure => simp [intOf]; omega
      · obtain rfl : n = k := by omega
        have hval : val zs = x * y := by
          have h := HV.out
          rw [val_take_all (by rw [HZL.out]; omega), val_take_all (by rw [← HLX.out]; exact Nat.le_refl _), val_digs] at h
          exact h
        have hraw := hzo.raw_all hzd (by rw [HZL.out]; omega) (n + n') (n + n') HZL.out.symm (Nat.le_refl _)
        have HVAL := Lib.hid hval
        clear hval
        go_wp2_with fail
        refine (ntrim_is hraw HVAL).mono ?_
        rintro e w' ⟨rfl, hN, rfl⟩
        go_wp2_with fail
        go_ret
        exact ⟨_, _, _, rfl, hN, hbr⟩

theorem nprod_is {A A' : Option Addr} {n n' c c' x y : Nat} {w : World} (hX : Num w (.slice A n c) x) (hY : Num w (.slice A' n' c') y) (hl : n + n' ≤ 1000000000) :
    Calls Tryd.prog 40 #[.slice A n c, .slice A' n' c'] w fun e w' => ∃ B k d, e = .returned (.slice B k d) ∧ Num w' (.slice B k d) (x * y) ∧ Below w.heap.size w w' := by
  by_cases h1 : n = 1
  · by_cases h2 : n' = 1
    · exact nprod_one hX hY h1 h2
    · exact nprod_many hX hY hl (.inr ⟨h1, h2⟩)
  · exact nprod_many hX hY hl (.inl h1)
end Go.Proofs.YtkhfadfjkmhpgaaDoor
