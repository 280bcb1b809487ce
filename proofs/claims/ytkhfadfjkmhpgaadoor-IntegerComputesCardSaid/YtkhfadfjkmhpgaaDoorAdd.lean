/-
  The contract of Add.
-/
import Derived.Test.YtkhfadfjkmhpgaaDoorTrim
namespace Go.Proofs.YtkhfadfjkmhpgaaDoor
open Go.RowKit

theorem add_round {a b x y carry dx dy : Nat} (h : a + b * carry = x + y) :
    a + b * ((carry + (dx + dy)) % 4294967296) + 4294967296 * b * ((carry + (dx + dy)) / 4294967296) = x + b * dx + (y + b * dy) := by
  have e := Nat.mod_add_div (carry + (dx + dy)) 4294967296
  have : b * ((carry + (dx + dy)) % 4294967296) + 4294967296 * b * ((carry + (dx + dy)) / 4294967296) = b * (carry + (dx + dy)) := by
    conv => rhs; rw [← e]
    rw [Nat.mul_add, Nat.mul_comm 4294967296 b, Nat.mul_assoc]
  rw [Nat.add_assoc, this, Nat.mul_add, Nat.mul_add]; omega

set_option maxRecDepth 100000 in
set_option maxHeartbeats 800000 in
theorem add_any {A A' : Option Addr} {n n' c c' : Nat} {ds es : List Nat} {w : World} (hx : Raw w (.slice A n c) ds) (hy : Raw w (.slice A' n' c') es) (hdl : ds.length < 1000000000) (hel : es.length < 1000000000) :
    Calls Tryd.prog 29 #[.slice A n c, .slice A' n' c'] w fun e w' => ∃ B k d, e = .returned (.slice B k d) ∧ Num w' (.slice B k d) (val ds + val es) ∧ Below w.heap.size w w' := by
  have hxl : (digs (val ds)).length ≤ ds.length := digs_length_le (val_lt hx.okD)
  have hyl : (digs (val es)).length ≤ es.length := digs_length_le (val_lt hy.okD)
  obtain ⟨m, hm⟩ : ∃ m, m = max (digs (val ds)).length (digs (val es)).length := ⟨_, rfl⟩
  have hm1 : m < 1000000000 := by omega
  obtain ⟨w1, hmk, hown, hb, hsz⟩ := make_row Tryd.underlying26 (m + 1) (by omega) w
  have hmax : ∀ W : World, (Builtin.max_ #[3, 3] 3 #[.int .i64 ((digs (val ds)).length : Int), .int .i64 ((digs (val es)).length : Int)]).run Tryd.prog W = .ok (.int .i64 (m : Int)) W := fun W => by
    rw [run_max_int2]; subst hm; congr 2; split <;> omega
  rw [Int.natCast_add, Int.natCast_one] at hmk
  have HM := Lib.hid hm
  have HO := Lib.hid hown
  have HZ := Lib.hid hsz
  clear hm hown hsz
  go_enter Tryd.func29, Tryd.ntmps29
  go_wp2_with fail
  refine (trim_any hx).mono ?_
  rintro e w' ⟨rfl, hX, -, rfl⟩
  go_wp2_with fail
  refine (trim_any hy).mono ?_
  rintro e w' ⟨rfl, hY, -, rfl⟩
  go_wp2_with fail
  have HX := hX.below hb
  have HY := hY.below hb
  go_loopw [7, 22] (fun cr i wr => ∃ (k carry : Nat) (zs : List Nat), i = .int .i64 k ∧ cr = .int .u64 carry ∧ k ≤ m ∧ carry ≤ 1 ∧ zs.length = m + 1 ∧ OkD zs ∧ Own wr w.heap.size zs ∧ Below w.heap.size w wr ∧
      val (zs.take k) + Bs k * carry = val ((digs (val ds)).take k) + val ((digs (val es)).take k)) (fun _ i _ => m - (intOf i).toNat)
  case atStart => exact ⟨0, 0, _, rfl, rfl, Nat.zero_le _, by omega, by simp, okD_replicate _ (by omega), HO.out, hb, by simp [val]⟩
  case round =>
    obtain ⟨k, carry, zs, rfl, rfl, hk, hcar, hzl, hzd, hzo, hbr, hv⟩ := hrel
    have HV := Lib.hid hv
    have HZL := Lib.hid hzl
    clear hv hzl
    obtain ⟨dx, hdx⟩ : ∃ d, (digs (val ds)).getD k 0 = d := ⟨_, rfl⟩
    obtain ⟨dy, hdy⟩ : ∃ d, (digs (val es)).getD k 0 = d := ⟨_, rfl⟩
    have bx : dx < 4294967296 := by rw [← hdx]; exact okD_getD (okD_digs _) k
    have by_ : dy < 4294967296 := by rw [← hdy]; exact okD_getD (okD_digs _) k
    have HDX := Lib.hid hdx
    have HDY := Lib.hid hdy
    clear hdx hdy
    have hcell := hzo.cell (j := k) (by have := HZL.out; omega)
    have hfr := hzo.frozen k
    have hbk := hbr.size
    rcases Nat.lt_or_ge k m with hlt | hge
    · go_wp2_with fail
      refine (digit_is (hX.below hbr) HDX).mono ?_
      rintro e w' ⟨rfl, rfl⟩
      go_wp2_with fail
      refine (digit_is (hY.below hbr) HDY).mono ?_
      rintro e w' ⟨rfl, rfl⟩
      go_wp2_with fail
      go_roundw
      case rel =>
        have e1 : ((carry : Int) + ((dx : Int) + (dy : Int))) / 4294967296 = ((carry + (dx + dy)) / 4294967296 : Nat) := by omega
        have e2 : ((carry : Int) + ((dx : Int) + (dy : Int))) % 4294967296 = ((carry + (dx + dy)) % 4294967296 : Nat) := by omega
        rw [e1, e2]
        refine ⟨k + 1, _, _, by go_num, rfl, by omega, by omega, by rw [List.length_set]; exact HZL.out, okD_set hzd k (by omega), hzo.set k _, hbr.setCell (Nat.le_refl _) _, ?_⟩
        rw [Bs_succ, val_take_set (by have := HZL.out; omega), val_take_succ', val_take_succ', HDX.out, HDY.out]
        exact add_round HV.out
      case measure => simp [intOf]; omega
    · obtain rfl : m = k := by omega
      have hfin := hzo.set m carry
      have hraw := hfin.raw_all (okD_set hzd m (by omega)) (by rw [List.length_set, HZL.out]; omega) (m + 1) (m + 1) (by rw [List.length_set]; exact HZL.out.symm) (Nat.le_refl _)
      have hbf := hbr.setCell (p := ⟨w.heap.size, m, none⟩) (Nat.le_refl _) (.int .u32 (carry : Int))
      have hval : val (zs.set m carry) = val ds + val es := by
        have e := val_take_set (ds := zs) (k := m) (by have := HZL.out; omega) carry
        rw [val_take_all (by rw [List.length_set, HZL.out]; omega)] at e
        rw [e, HV.out, val_take_all (by rw [HM.out]; omega), val_take_all (by rw [HM.out]; omega), val_digs, val_digs]
      have HVAL := Lib.hid hval
      clear hval
      go_wp2_with fail
      refine (trim_any hraw).mono ?_
      rintro e w' ⟨rfl, hN, -, rfl⟩
      rw [HVAL.out] at hN
      go_wp2_with fail
      go_ret
      exact ⟨_, _, _, rfl, by rw [HVAL.out]; exact hN, hbf⟩
end Go.Proofs.YtkhfadfjkmhpgaaDoor
