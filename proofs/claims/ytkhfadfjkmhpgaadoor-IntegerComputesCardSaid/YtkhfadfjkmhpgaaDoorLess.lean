/-
  The contract of the reference's Less.
-/
import Derived.Test.YtkhfadfjkmhpgaaDoorNum2
namespace Go.Proofs.YtkhfadfjkmhpgaaDoor
open Go.RowKit

theorem less_round {V b bo E D dx dy d b' : Nat} (hv : V + E = D + b * bo) (h : d + dy + bo = dx + 4294967296 * b') :
    V + b * d + (E + b * dy) = D + b * dx + 4294967296 * b * b' := by
  have : b * (d + dy + bo) = b * (dx + 4294967296 * b') := by rw [h]
  grind
theorem less_final {V y x b bo : Nat} (h : V + y = x + b * bo) (hV : V < b) (hy : y ≤ x) : V = x - y := by
  rcases Nat.eq_zero_or_pos bo with rfl | h0
  · rw [Nat.mul_zero] at h; omega
  · have : b ≤ b * bo := Nat.le_mul_of_pos_right _ h0
    omega

set_option maxRecDepth 100000 in
set_option maxHeartbeats 1600000 in
theorem nless_own {A A' : Option Addr} {n n' c c' x y : Nat} {w : World} (hX : Num w (.slice A n c) x) (hY : Num w (.slice A' n' c') y) (hle : y ≤ x) (hn9 : n < 1000000000) :
    Calls Tryd.prog 38 #[.slice A n c, .slice A' n' c'] w fun e w' => ∃ k d, e = .returned (.slice (some ⟨w.heap.size, 0, none⟩) k d) ∧ Num w' (.slice (some ⟨w.heap.size, 0, none⟩) k d) (x - y) ∧ Below w.heap.size w w' := by
  have hlx := (Raw.cap hX).1
  have hly := (Raw.cap hY).1
  have hll : n' ≤ n := by rw [hlx, hly]; exact digs_length_mono hle
  obtain ⟨w1, hmk, hown, hb, hsz⟩ := make_row Tryd.underlying25 n (by omega) w
  have HLX := Lib.hid hlx
  have HLY := Lib.hid hly
  have HO := Lib.hid hown
  have HLE := Lib.hid hle
  clear hown hsz hlx hly hle
  go_enter Tryd.func38, Tryd.ntmps38
  go_wp2_with fail
  go_loopw [6, 14] (fun bo i wr => ∃ (k borrow : Nat) (zs : List Nat), i = .int .i64 k ∧ bo = .int .u32 borrow ∧ k ≤ n ∧ borrow ≤ 1 ∧ zs.length = n ∧ OkD zs ∧ Own wr w.heap.size zs ∧ Below w.heap.size w wr ∧
      val (zs.take k) + val ((digs y).take k) = val ((digs x).take k) + Bs k * borrow) (fun _ i _ => n - (intOf i).toNat)
  case atStart => exact ⟨0, 0, _, rfl, rfl, Nat.zero_le _, by omega, by simp, okD_replicate _ (by omega), HO.out, hb, by simp [val]⟩
  case round =>
    obtain ⟨k, borrow, zs, rfl, rfl, hk, hbo, hzl, hzd, hzo, hbr, hv⟩ := hrel
    have HV := Lib.hid hv
    have HZL := Lib.hid hzl
    clear hv hzl
    rcases Nat.lt_or_ge k n with hlt | hge
    · have hcell := hzo.cell (j := k) (by have := HZL.out; omega)
      have hfr := hzo.frozen k
      obtain ⟨dx, hdx⟩ : ∃ d, (digs x).getD k 0 = d := ⟨_, rfl⟩
      obtain ⟨dy, hdy⟩ : ∃ d, (digs y).getD k 0 = d := ⟨_, rfl⟩
      have bx : dx < 4294967296 := by rw [← hdx]; exact okD_getD (okD_digs _) k
      have by_ : dy < 4294967296 := by rw [← hdy]; exact okD_getD (okD_digs _) k
      have hfin : ∀ d b' : Nat, d < 4294967296 → d + dy + borrow = dx + 4294967296 * b' → OkD (zs.set k d) ∧ val ((zs.set k d).take (k + 1)) + val ((digs y).take (k + 1)) = val ((digs x).take (k + 1)) + Bs (k + 1) * b' := fun d b' hd h => by
        refine ⟨okD_set hzd k hd, ?_⟩
        rw [Bs_succ, val_take_set (by have := HZL.out; omega), val_take_succ', val_take_succ', hdx, hdy]
        exact less_round HV.out h
      have HFIN := Lib.hid hfin
      have hsub := sub32_any dx dy borrow bx by_ hbo
      have HSUB := Lib.hid hsub
      clear hsub hfin
      obtain ⟨ad, e1, _, hcx⟩ := (Num.below hX hbr).at_ (j := k) (by rw [← HLX.out]; exact hlt)
      rw [hdx] at hcx
      subst e1
      have hyc : (k < n' ∧ ∃ ad, A' = some ad ∧ wr.cell? (ad.add k) = some (.int .u32 (dy : Int))) ∨ (n' ≤ k ∧ dy = 0) := by
        rcases Nat.lt_or_ge k n' with h | h
        · obtain ⟨ad, e1, _, e3⟩ := (Num.below hY hbr).at_ (j := k) (by rw [← HLY.out]; exact h)
          exact .inl ⟨h, ad, e1, by rw [e3, hdy]⟩
        · exact .inr ⟨h, by rw [← hdy]; exact getD_of_ge (by rw [← HLY.out]; exact h)⟩
      clear hdx hdy
      rcases hyc with ⟨hky, ad', rfl, hcy⟩ | ⟨hky, rfl⟩
      all_goals
        go_wp2_with fail
        refine (HSUB.out _).mono ?_
        rintro e w' ⟨d, b', rfl, hd, hb1, heq, rfl⟩
        go_wp2_with fail
        go_roundw
        case rel => exact ⟨k + 1, b', _, by go_num, rfl, by omega, hb1, by rw [List.length_set]; exact HZL.out, (HFIN.out d b' hd heq).1, hzo.set k _, hbr.setCell (Nat.le_refl _) _, (HFIN.out d b' hd heq).2⟩
        case measure => simp [intOf]; omega
    · obtain rfl : n = k := by omega
      have hraw := hzo.raw_all hzd (by rw [HZL.out]; omega) n n HZL.out.symm (Nat.le_refl _)
      have hval : val zs = x - y := by
        have h := HV.out
        rw [val_take_all (by rw [HZL.out]; omega), val_take_all (by rw [← HLY.out]; exact hll), val_take_all (by rw [← HLX.out]; exact Nat.le_refl _), val_digs, val_digs] at h
        have hz := val_lt hzd
        rw [HZL.out] at hz
        exact less_final h hz HLE.out
      have HVAL := Lib.hid hval
      clear hval
      go_wp2_with fail
      refine (ntrim_is hraw HVAL).mono ?_
      rintro e w' ⟨rfl, hN, rfl⟩
      go_wp2_with fail
      go_ret
      exact ⟨_, _, rfl, hN, hbr⟩
theorem nless_is {A A' : Option Addr} {n n' c c' x y : Nat} {w : World} (hX : Num w (.slice A n c) x) (hY : Num w (.slice A' n' c') y) (hle : y ≤ x) (hn9 : n < 1000000000) :
    Calls Tryd.prog 38 #[.slice A n c, .slice A' n' c'] w fun e w' => ∃ B k d, e = .returned (.slice B k d) ∧ Num w' (.slice B k d) (x - y) ∧ Below w.heap.size w w' := by
  refine (nless_own hX hY hle hn9).mono ?_
  rintro e w' ⟨m, d, rfl, hN, hb⟩
  exact ⟨_, _, _, rfl, hN, hb⟩
end Go.Proofs.YtkhfadfjkmhpgaaDoor
