/-
  The contract of Mul.
-/
import Derived.Test.YtkhfadfjkmhpgaaDoorAddMul
import Derived.Deep.RegionHeld3
import Derived.Deep.DrawnRows
namespace Go.Proofs.YtkhfadfjkmhpgaaDoor
open Go.RowKit
attribute [local go_sem ↓] Go.wp_at_zero Go.wp_at_succ

theorem mul_round {V V' b bm carry X d y D : Nat} (h1 : V = X * y) (h2 : V' + bm * carry = V + b * (d * y)) (hD : D = V' + bm * carry) : D = (X + b * d) * y := by
  subst hD; rw [h2, h1]; grind

set_option maxRecDepth 100000 in
set_option maxHeartbeats 1600000 in
theorem mul_is {A A' : Option Addr} {n n' c c' x y : Nat} {ds es : List Nat} {w : World} (hx : Raw w (.slice A n c) ds) (hy : Raw w (.slice A' n' c') es) (hvx : Hid (val ds = x)) (hvy : Hid (val es = y)) (hl : (digs x).length + (digs y).length ≤ 1000000000) :
    Calls Tryd.prog 39 #[.slice A n c, .slice A' n' c'] w fun e w' => ∃ B k d, e = .returned (.slice B k d) ∧ Num w' (.slice B k d) (x * y) ∧ Below w.heap.size w w' := by
  obtain ⟨w1, hmk, hown, hb, hsz⟩ := make_row Tryd.underlying26 ((digs x).length + (digs y).length) hl w
  rw [Int.natCast_add] at hmk
  have HO := Lib.hid hown
  have HZ := Lib.hid hsz
  clear hown hsz
  go_enter Tryd.func39, Tryd.ntmps39
  go_wp2_with fail
  refine (trim_is hx hvx).mono ?_
  rintro e w' ⟨rfl, hX, rfl⟩
  go_wp2_with fail
  refine (trim_is hy hvy).mono ?_
  rintro e w' ⟨rfl, hY, rfl⟩
  clear hx hy
  have hX' : Raw w (.slice A (digs x).length c) (digs x) := hX
  have hY' : Raw w (.slice A' (digs y).length c') (digs y) := hY
  have hlx := hX'.len
  have hly := hY'.len
  go_wp2_with fail
  go_loopw [19] (fun i wr => ∃ (k : Nat) (zs : List Nat), i = .int .i64 k ∧ k ≤ (digs x).length ∧ zs.length = (digs x).length + (digs y).length ∧ OkD zs ∧ Own wr w.heap.size zs ∧ Below w.heap.size w wr ∧
      val (zs.take (k + (digs y).length)) = val ((digs x).take k) * y) (fun i _ => (digs x).length - (intOf i).toNat)
  case atStart => exact ⟨0, _, rfl, Nat.zero_le _, by simp, okD_replicate _ (by omega), HO.out, hb, by rw [List.take_replicate, val_replicate]; simp [val]⟩
  case round =>
    obtain ⟨k, zs, rfl, hk, hzl, hzd, hzo, hbr, hv⟩ := hrel
    have HV := Lib.hid hv
    have HZL := Lib.hid hzl
    clear hv hzl
    rcases Nat.lt_or_ge k (digs x).length with hlt | hge
    · obtain ⟨ad, hA, hb', hcx⟩ := hX'.at_ (j := k) hlt
      subst hA
      obtain ⟨dx, hdx⟩ : ∃ d, (digs x).getD k 0 = d := ⟨_, rfl⟩
      have bx : dx < 4294967296 := by rw [← hdx]; exact okD_getD (okD_digs x) k
      rw [hdx] at hcx
      have HDX := Lib.hid hdx
      clear hdx
      have hcx' : wr.cell? (ad.add k) = some (.int .u32 (dx : Int)) := (hbr.cell (by rw [addr_add_block]; exact hb')).trans hcx
      have i1 : (0 : Int) ≤ (k : Int) := by omega
      have i2 : (k : Int) < ((digs x).length : Int) := by omega
      have i3 : (k : Int) + ((digs y).length : Int) < ((digs x).length : Int) + ((digs y).length : Int) := by omega
      have i4 : (k : Int) ≤ (k : Int) + ((digs y).length : Int) := by omega
      have i5 : (k : Int) + ((digs y).length : Int) ≤ ((digs x).length : Int) + ((digs y).length : Int) := by omega
      have i6 : (0 : Int) ≤ (k : Int) + ((digs y).length : Int) := by omega
      have i7 : ((k : Int) + ((digs y).length : Int)).toNat = k + (digs y).length := by omega
      have i8 : IntKind.i64.wrap ((k : Int) + ((digs y).length : Int)) = (k : Int) + ((digs y).length : Int) := IntWalk.i64_in _ (by omega)
      have i9 : ¬ (digs x).length + (digs y).length = k := by omega
      go_wp2_with fail
      have hYr := hY'.below hbr
      have hneY : 0 < (digs y).length → ∀ ad, A' = some ad → ad.block ≠ w.heap.size := fun h0 ad hA => Nat.ne_of_lt (hY'.block h0 ad hA)
      have HNE := Lib.hid hneY
      have hna : ∀ j, ad.add k ≠ ⟨w.heap.size, j, none⟩ := fun j e => by
        have h := congrArg Addr.block e
        rw [addr_add_block] at h
        simp at h
        omega
      have HNA := Lib.hid hna
      clear hna
      clear hneY
      go_region_held3 (fun W => W.cell? (ad.add k) = some (.int .u32 (dx : Int))) (first | go_keep | exact HK.out | exact (World.cell?_setCell_other _ _ _ _ (HNA.out _)).trans HK.out | exact (World.cell?_setCell_other _ _ _ _ (fun e => HNA.out _ e.symm)).trans HK.out)
        ((go_at_call 59; refine (addmul_any (g := w.heap.size) (o := k) (zs := zs) (es := digs y) dx bx (by exact hzo) hzd (by have := HZL.out; omega) (by exact hYr) HNE.out (by have := HZL.out; omega) (by omega)).mono ?_; rintro e w' ⟨carry, zs', rfl, hcar, hzo', hzd', hzl', hgr, htk, hdr, hv'⟩; have HV' := Lib.hid hv'; have HTK := Lib.hid htk; have HDR := Lib.hid hdr; have HZL' := Lib.hid hzl'; clear hv' htk hdr hzl'; have hcell := hzo'.cell (j := k + (digs y).length) (by rw [HZL'.out]; have := HZL.out; omega); have hfr := hzo'.frozen (k + (digs y).length); have hk' := hgr.cell hcx' (by intro h; injection h with h; rw [addr_add_block] at h; omega); have HK := Lib.hid hk'; clear hk'))
      go_wp2_with fail
      go_roundw
      case rel =>
        have hmono : Below w.heap.size w w' := (hbr.drew).grown hgr (by exact hbr.size) (by rintro g h; injection h with h; omega)
        refine ⟨k + 1, _, by go_num, by omega, by rw [List.length_set, HZL'.out]; exact HZL.out, okD_set hzd' _ hcar, hzo'.set _ _, hmono.setCell (Nat.le_refl _) _, ?_⟩
        have hv' := HV'.out
        rw [val_digs] at hv'
        rw [show k + 1 + (digs y).length = k + (digs y).length + 1 by omega, val_take_set (by rw [HZL'.out]; have := HZL.out; omega), val_take_succ', HDX.out]
        exact mul_round HV.out hv' rfl
      case measure => simp [intOf]; omega
    · obtain rfl : k = (digs x).length := by omega
      have hval : val zs = x * y := by
        have h := HV.out
        rw [val_take_all (by rw [HZL.out]; omega), val_take_all (Nat.le_refl _), val_digs] at h
        exact h
      have hraw := hzo.raw_all hzd (by rw [HZL.out]; omega) ((digs x).length + (digs y).length) ((digs x).length + (digs y).length) HZL.out.symm (Nat.le_refl _)
      have HVAL := Lib.hid hval
      clear hval
      go_wp2_with fail
      refine (trim_is hraw HVAL).mono ?_
      rintro e w' ⟨rfl, hN, rfl⟩
      go_wp2_with fail
      go_ret
      exact ⟨_, _, _, rfl, hN, hbr⟩
end Go.Proofs.YtkhfadfjkmhpgaaDoor
