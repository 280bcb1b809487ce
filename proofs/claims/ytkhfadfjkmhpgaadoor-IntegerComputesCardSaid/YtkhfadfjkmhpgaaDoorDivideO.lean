/-
  The contract of the reference's Divide: a divisor of one digit, and the contract as a whole.
-/
import Derived.Test.YtkhfadfjkmhpgaaDoorDivideW
import Derived.Test.YtkhfadfjkmhpgaaDoorKnown
namespace Go.Proofs.YtkhfadfjkmhpgaaDoor
open Go.RowKit

set_option maxRecDepth 100000 in
set_option maxHeartbeats 3200000 in
theorem ndivide_one {A A' : Option Addr} {n c c' x y : Nat} {w : World} (hX : Num w (.slice A n c) x) (hY : Num w (.slice A' 1 c') y) (h3 : 2 < n) (hle : y ≤ x) (hn9 : n ≤ 1000000) :
    Calls Tryd.prog 44 #[.slice A n c, .slice A' 1 c'] w fun e w' => ∃ B k d B' k' d', e = .returned (.tuple #[.slice B k d, .slice B' k' d']) ∧ Num w' (.slice B k d) (x / y) ∧ Num w' (.slice B' k' d') (x % y) ∧ Below w.heap.size w w' := by
  have hlx := (Raw.cap hX).1
  have hly := (Raw.cap hY).1
  have hyb : y < 4294967296 := by have := lt_of_digs_length (x := y) (k := 1) (by omega); rwa [Bs_one] at this
  have hy0 : 0 < y := by
    rcases Nat.eq_zero_or_pos y with h | h
    · rw [h, digs_zero] at hly; cases hly
    · exact h
  have hcm : 0 ≤ cmpI x y := by
    rcases Nat.lt_or_ge y x with h | h
    · rw [cmpI_gt h]; omega
    · rw [cmpI_eq (Nat.le_antisymm h hle)]; omega
  obtain ⟨ad', hA', hbY, hcy⟩ := Raw.at_ (j := 0) hY (by omega)
  rw [digs_digit, Bs_zero, Nat.div_one, Nat.mod_eq_of_lt hyb] at hcy
  rw [show ad'.add 0 = ad' from rfl] at hcy
  subst hA'
  have HLX := Lib.hid hlx
  have HCM := Lib.hid (ncmp_is hX hY)
  generalize hcv : cmpI x y = cv at hcm
  have HCV := Lib.hid hcv
  have hcd : decide (cv < 0) = false := by rw [decide_eq_false_iff_not]; omega
  clear hle hlx hly hcv hcm
  go_enter Tryd.func44, Tryd.ntmps44
  go_wp2_with fail
  refine (nword_big h3).mono ?_
  rintro e w' ⟨rfl, rfl⟩
  go_wp2_with fail
  refine HCM.out.mono ?_
  rintro e w0 ⟨rfl, j, rfl⟩
  rw [HCV.out]
  obtain ⟨w1, hmk, hown, hb, hsz⟩ := make_row Tryd.underlying25 n (by omega) (w'.drewN j)
  have hb1 : Below w'.heap.size w' w1 := (below_drewN (Below.refl _ w') j).trans hb
  have hown1 : Own w1 w'.heap.size (List.replicate n 0) := hown
  have HO := Lib.hid hown1
  have hn1 : (n : Int) - 1 = ((n : Nat) : Int) - 1 := rfl
  have hsz1 : w'.heap.size < w1.heap.size := hown1.lt
  clear hown hb hsz hown1
  have hw8 : IntKind.i64.wrap ((n : Int) - 1) = (n : Int) - 1 := IntWalk.i64_in _ (by omega)
  go_wp2_with fail
  go_loopw [11, 12] (fun rs i wr => ∃ (k r : Nat) (zs : List Nat), i = .int .i64 ((k : Int) - 1) ∧ rs = .int .u32 r ∧ k ≤ n ∧ r < y ∧ zs.length = n ∧ OkD zs ∧ Own wr w'.heap.size zs ∧ Below w'.heap.size w' wr ∧
      val (zs.drop k) * y + r = x / Bs k) (fun _ i _ => (intOf i + 1).toNat)
  case atStart =>
    refine ⟨n, 0, _, rfl, rfl, Nat.le_refl _, hy0, by simp, okD_replicate _ (by omega), HO.out, hb1, ?_⟩
    rw [List.drop_eq_nil_of_le (by simp), val_nil, Nat.zero_mul, Nat.div_eq_of_lt (lt_of_digs_length (by rw [← HLX.out]; exact Nat.le_refl _))]
  case round =>
    obtain ⟨k, r, zs, rfl, rfl, hk, hr, hzl, hzd, hzo, hbr, hv⟩ := hrel
    have HV := Lib.hid hv
    have HZL := Lib.hid hzl
    clear hv hzl
    rcases Nat.eq_zero_or_pos k with rfl | hk0
    · have hv := HV.out
      rw [List.drop_zero, Bs_zero, Nat.div_one] at hv
      have e1 : x % y = r := by rw [← hv, Nat.mul_comm, Nat.mul_add_mod, Nat.mod_eq_of_lt hr]
      have e2 : val zs = x / y := by rw [← hv, Nat.mul_comm, Nat.mul_add_div hy0, Nat.div_eq_of_lt hr]; rfl
      have E1 := Lib.hid e1
      have hraw := hzo.raw_all hzd (by rw [HZL.out]; omega) n n HZL.out.symm (Nat.le_refl _)
      have E2 := Lib.hid e2
      have hrb : r < 4294967296 := by omega
      clear hv e1 e2 HV hr
      go_wp2_with fail
      refine (ntrim_is hraw E2).mono ?_
      rintro e w2 ⟨rfl, hN, rfl⟩
      obtain ⟨W, hW, b0, hbW, hsW⟩ := boxes1 wr #[.int .u32 (r : Int)] 68
      have hlit : Raw W (.slice (some ⟨wr.heap.size, 0, none⟩) 1 1) [r] := by rw [← hW]; exact raw_lit wr _ _ 1 _ rfl (okD_one hrb) rfl (by decide) rfl
      have hN2 := Num.below hN hbW
      have hbf := hbr.trans (hbW.mono hbr.size)
      go_wp2_with fail
      refine (ntrim_is hlit (x := r) (Lib.hid (by simp [val]))).mono ?_
      rintro e w3 ⟨rfl, hN3, rfl⟩
      go_wp2_with fail
      go_returns
      exact ⟨_, _, _, _, _, _, rfl, hN2, by rw [E1.out]; exact hN3, hbf⟩
    · obtain ⟨m, rfl⟩ : ∃ m, k = m + 1 := ⟨k - 1, by omega⟩
      have ei : ((m + 1 : Nat) : Int) - 1 = (m : Int) := by omega
      rw [ei]
      clear ei
      obtain ⟨ad, hA, hbX, hcx0⟩ := Raw.at_ (Num.below hX hbr) (j := m) (by rw [← HLX.out]; omega)
      subst hA
      obtain ⟨dx, hdx⟩ : ∃ d, (digs x).getD m 0 = d := ⟨_, rfl⟩
      have bx : dx < 4294967296 := by rw [← hdx]; exact okD_getD (okD_digs x) m
      rw [hdx] at hcx0
      have hval : x / Bs m = dx + 4294967296 * (x / Bs (m + 1)) := by
        rw [← hdx, digs_digit, Bs_succ, Nat.mul_comm 4294967296 (Bs m), ← Nat.div_div_eq_div_mul]; omega
      have HVAL := Lib.hid hval
      clear hval hdx
      have hcy1 : wr.cell? ad' = some (.int .u32 (y : Int)) := (hbr.cell hbY).trans hcy
      have hbX' : ad.block ≠ w'.heap.size := by
        obtain ⟨ad2, e1, e2, _⟩ := Raw.at_ hX (j := m) (by rw [← HLX.out]; omega)
        injection e1 with e1
        rw [e1]; omega
      have hcz := hzo.cell (j := m) (by rw [HZL.out]; omega)
      have hfr := hzo.frozen m
      have i1 : (0 : Int) ≤ (m : Int) := by omega
      have i2 : (m : Int) < (n : Int) := by omega
      have hdv := div32_is r dx y bx hyb hr
      obtain ⟨q, hq⟩ : ∃ q, (r * 4294967296 + dx) / y = q := ⟨_, rfl⟩
      obtain ⟨r', hr'⟩ : ∃ q, (r * 4294967296 + dx) % y = q := ⟨_, rfl⟩
      rw [hq, hr'] at hdv
      have hqb : q < 4294967296 := by
        rw [← hq]; refine Nat.div_lt_of_lt_mul ?_
        have : (r + 1) * 4294967296 ≤ y * 4294967296 := Nat.mul_le_mul_right _ hr
        omega
      have hrb : r' < y := by rw [← hr']; exact Nat.mod_lt _ hy0
      have hqr : r * 4294967296 + dx = q * y + r' := by
        have h := Nat.div_add_mod (r * 4294967296 + dx) y
        rw [Nat.mul_comm y, hq, hr'] at h
        exact h.symm
      have HQR := Lib.hid hqr
      have HDV := Lib.hid hdv
      have hne1 : ad.add m ≠ ⟨w'.heap.size, m, none⟩ := fun e => by
        have h := congrArg Addr.block e
        rw [addr_add_block] at h
        exact hbX' h
      have hne2 : ad' ≠ ⟨w'.heap.size, m, none⟩ := fun e => by
        have h := congrArg Addr.block e
        simp at h
        omega
      have N1 := Lib.hid hne1
      have N2 := Lib.hid hne2
      clear hq hr' hqr hdv hne1 hne2
      go_wp2_with fail
      go_region_held3 (fun V => V.cell? (ad.add m) = some (.int .u32 (dx : Int)) ∧ V.cell? ad' = some (.int .u32 (y : Int))) (first | exact ⟨hcx0, hcy1⟩ | exact ⟨(World.cell?_setCell_other _ _ _ _ N1.out).trans hcx0, (World.cell?_setCell_other _ _ _ _ N2.out).trans hcy1⟩ | exact ⟨(World.cell?_setCell_other _ _ _ _ (fun e => N1.out e.symm)).trans hcx0, (World.cell?_setCell_other _ _ _ _ (fun e => N2.out e.symm)).trans hcy1⟩)
        (first
          | (go_at_call 62; refine (HDV.out _).mono ?_; rintro e w2 ⟨rfl, j2, rfl⟩)
        )
      go_wp2_with fail
      go_roundw
      case rel =>
        refine ⟨m, r', _, rfl, rfl, by omega, hrb, by rw [List.length_set]; exact HZL.out, okD_set hzd m hqb, Own.set (w := wr.drewN (1 + j2)) hzo m q, (below_drewN hbr (1 + j2)).setCell (p := ⟨w'.heap.size, m, none⟩) (Nat.le_refl _) _, ?_⟩
        have h1 : (zs.set m q).drop m = q :: zs.drop (m + 1) := by
          rw [List.drop_eq_getElem_cons (by rw [List.length_set, HZL.out]; omega), List.getElem_set_self, List.drop_set_of_lt (by omega)]
        rw [h1, val_cons, HVAL.out]
        exact divd_round HV.out rfl HQR.out
      case measure => simp [intOf]
/-- The reference's Divide. -/
theorem ndivide_is {A A' : Option Addr} {n n' c c' x y : Nat} {w : World} (hX : Num w (.slice A n c) x) (hY : Num w (.slice A' n' c') y) (hy0 : 0 < y) (hn9 : n ≤ 1000) :
    Calls Tryd.prog 44 #[.slice A n c, .slice A' n' c'] w fun e w' => ∃ B k d B' k' d', e = .returned (.tuple #[.slice B k d, .slice B' k' d']) ∧ Num w' (.slice B k d) (x / y) ∧ Num w' (.slice B' k' d') (x % y) ∧ Below w.heap.size w w' := by
  have hlx := (Raw.cap hX).1
  have hly := (Raw.cap hY).1
  have hyp := digs_length_pos hy0
  rcases Nat.lt_or_ge 2 n with h3 | h3
  · rcases Nat.lt_or_ge x y with hlt | hle
    · rcases Nat.lt_or_ge 2 n' with h2 | h2
      · exact ndivide_less hX hY hlt h2
      · have := digs_length_mono (Nat.le_of_lt hlt); omega
    · rcases Nat.lt_or_ge n' 2 with h1 | h1
      · obtain rfl : n' = 1 := by omega
        exact ndivide_one hX hY h3 hle (by omega)
      · exact ndivide_long hX hY hle h1 h3 hn9
  · rcases Nat.lt_or_ge 2 n' with h2 | h2
    · have hlt : x < y := lt_of_len (by omega)
      exact ndivide_less hX hY hlt h2
    · exact ndivide_word hX hY h3 h2 hy0
end Go.Proofs.YtkhfadfjkmhpgaaDoor
