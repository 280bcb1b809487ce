/-
  The contracts of trim, digit and order.
-/
import Derived.Test.YtkhfadfjkmhpgaaDoorGrow
namespace Go.Proofs.YtkhfadfjkmhpgaaDoor
open Go.RowKit

theorem trim_core (A : Option Addr) (n : Nat) (ds : List Nat) (c : Nat) (w : World) (h : Raw w (.slice A n c) ds) :
    Calls Tryd.prog 50 #[.slice A n c] w fun e w' => ∃ k, e = .returned (.slice A k c) ∧ k ≤ n ∧ digs (val ds) = ds.take k ∧ w = w' := by
  obtain ⟨hn, hlc⟩ := h.cap
  have hd := h.okD
  have hl := h.len
  subst hn
  have HC := Lib.hid (fun j (hj : j < ds.length) => h.at_ hj)
  clear h
  go_enter Tryd.func50, Tryd.ntmps50
  go_wp2
  go_loop [3] (fun n => ∃ k : Nat, k ≤ ds.length ∧ n = .int .i64 k ∧ val (ds.take k) = val ds) (fun n => (intOf n).toNat)
  case atStart => exact ⟨ds.length, Nat.le_refl _, rfl, by simp⟩
  case round =>
    obtain ⟨k, hk, rfl, hv⟩ := hrel
    have HV := Lib.hid hv
    clear hv
    rcases Nat.eq_zero_or_pos k with rfl | hk0
    · go_wp2
      go_ret
      exact ⟨0, rfl, by omega, digs_of_take hd (by omega) HV.out (.inl rfl), rfl⟩
    · have hlt : k - 1 < ds.length := by omega
      obtain ⟨ad, hA, hb, hc⟩ := HC.out (k - 1) hlt
      subst hA
      have hsucc := val_take_succ ds (k - 1) hlt
      rw [show k - 1 + 1 = k by omega] at hsucc
      have HS := Lib.hid hsucc
      clear hsucc
      generalize hdd : ds.getD (k - 1) 0 = d at *
      have HD := Lib.hid hdd
      clear hdd
      by_cases hz : d = 0
      · subst hz
        go_wp2
        go_round
        case rel => exact ⟨k - 1, by omega, by go_num, by rw [← HV.out, HS.out]; simp⟩
        case measure => simp [intOf]; omega
      · have hz' : ((d : Int) == 0) = false := by simpa using hz
        have HZ := Lib.hid hz
        clear hz
        go_wp2
        go_ret
        exact ⟨k, rfl, hk, digs_of_take hd hk HV.out (.inr (by rw [HD.out]; exact HZ.out)), rfl⟩

/-- trim returns the canonical digits, in the memory of its argument; the world stays. -/
theorem trim_any {A : Option Addr} {n c : Nat} {ds : List Nat} {w : World} (h : Raw w (.slice A n c) ds) :
    Calls Tryd.prog 50 #[.slice A n c] w fun e w' => e = .returned (.slice A (digs (val ds)).length c) ∧ Num w (.slice A (digs (val ds)).length c) (val ds) ∧ digs (val ds) = ds.take (digs (val ds)).length ∧ w = w' := by
  refine (trim_core A n ds c w h).mono ?_
  rintro e w' ⟨k, rfl, hk, hd, rfl⟩
  have hc := h.cap
  have hlen : (digs (val ds)).length = k := by rw [hd, List.length_take]; omega
  refine ⟨by rw [hlen], ?_, by rw [hlen]; exact hd, rfl⟩
  rw [hlen]; unfold Num; rw [hd]
  exact h.take (by omega)

/-- The same with a name for the value. -/
theorem trim_is {A : Option Addr} {n c x : Nat} {ds : List Nat} {w : World} (h : Raw w (.slice A n c) ds) (hv : Hid (val ds = x)) :
    Calls Tryd.prog 50 #[.slice A n c] w fun e w' => e = .returned (.slice A (digs x).length c) ∧ Num w (.slice A (digs x).length c) x ∧ w = w' := by
  refine (trim_any h).mono ?_
  rintro e w' ⟨rfl, hn, -, rfl⟩
  rw [hv.out] at hn ⊢
  exact ⟨rfl, hn, rfl⟩

theorem digit_any {A : Option Addr} {n c : Nat} {ds : List Nat} {w : World} (h : Raw w (.slice A n c) ds) (i : Nat) :
    Calls Tryd.prog 53 #[.slice A n c, .int .i64 (i : Int)] w fun e w' => e = .returned (.int .u64 (ds.getD i 0 : Nat)) ∧ w = w' := by
  obtain ⟨hn, hlc⟩ := h.cap
  have hl := h.len
  have hd := okD_getD h.okD i
  subst hn
  by_cases hlt : i < ds.length
  · obtain ⟨ad, hA, hb, hc⟩ := h.at_ hlt
    subst hA
    generalize hdd : ds.getD i 0 = d at *
    have HD := Lib.hid hdd
    clear hdd h
    go_enter Tryd.func53, Tryd.ntmps53
    go_wp2
    go_ret
    exact ⟨rfl, rfl⟩
  · have hz : ds.getD i 0 = 0 := by rw [List.getD_eq_getElem?_getD, List.getElem?_eq_none (by omega)]; rfl
    rw [hz]
    clear h hz hd
    go_enter Tryd.func53, Tryd.ntmps53
    go_wp2
    go_ret
    exact ⟨rfl, rfl⟩

/-- The same with a name for the digit. -/
theorem digit_is {A : Option Addr} {n c : Nat} {ds : List Nat} {w : World} (h : Raw w (.slice A n c) ds) {i d : Nat} (hd : Hid (ds.getD i 0 = d)) :
    Calls Tryd.prog 53 #[.slice A n c, .int .i64 (i : Int)] w fun e w' => e = .returned (.int .u64 (d : Int)) ∧ w = w' := by
  have := digit_any h i
  rw [hd.out] at this
  exact this

theorem order_any (b : Bool) (w : World) : Calls Tryd.prog 71 #[.bool b] w fun e w' => e = .returned (.int .i64 (if b then -1 else 1)) ∧ w = w' := by
  cases b
  · go_enter Tryd.func71, Tryd.ntmps71
    go_wp2
    go_ret
    exact ⟨rfl, rfl⟩
  · go_enter Tryd.func71, Tryd.ntmps71
    go_wp2
    go_ret
    exact ⟨rfl, rfl⟩
end Go.Proofs.YtkhfadfjkmhpgaaDoor
