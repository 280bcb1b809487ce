/-
  The contracts of package rational: quotients, the middle, rounding.
-/
import Derived.Test.YtkhfadfjkmhpgaaGreatDoorRatC
namespace Go.Proofs.YtkhfadfjkmhpgaaGreatDoor
open Go.RowKit

section
variable {A0 A1 A2 A3 D0 D1 D2 D3 : Option Addr} {n0 n1 n2 n3 c0 c1 c2 c3 m0 m1 m2 m3 e0 e1 e2 e3 : Nat} {s0 s1 s2 s3 : Bool} {z z' z0 z1 z2 : Int} {q q' q0 q1 q2 : Rat} {L L0 L1 L2 x x0 x1 y : Nat} {k : Int} {w : World}
theorem sg_bne (a b : Bool) (x y : Nat) : mkRat (sg (a != b) x) y = Rat.divInt (sg a x) (sg b y) := by
  cases b
  · rw [sg_false]
    have h : Rat.divInt (sg a x) ((y : Nat) : Int) = mkRat (sg a x) y := Rat.divInt_ofNat _ _
    rw [h]; cases a <;> rfl
  · rw [sg_true, Rat.divInt_neg', Rat.divInt_ofNat]
    cases a
    · rw [show (false != true) = true from rfl, sg_true, sg_false]
    · rw [show (true != true) = false from rfl, sg_true, sg_false, Int.neg_neg]
theorem div_mk {z0 z1 : Int} {d0 d1 : Nat} : mkRat z0 d0 / mkRat z1 d1 = Rat.divInt (z0 * (d1 : Int)) (z1 * (d0 : Int)) := by
  rw [Rat.div_def, ← Rat.divInt_ofNat z1 d1, Rat.inv_divInt, ← Rat.divInt_ofNat z0 d0, Rat.divInt_mul_divInt, Int.mul_comm (d0 : Int) z1]
theorem mid_mk {q : Rat} {z : Int} {d : Nat} (h : q = mkRat z d) : mkRat z (d * 2 ^ 1) = q / 2 := by
  have h2 : (2 : Rat) = mkRat 2 1 := rfl
  rw [h, h2, div_mk, Int.natCast_one, Int.mul_one, show (2 : Int) * (d : Int) = ((d * 2 ^ 1 : Nat) : Int) by omega, Rat.divInt_ofNat]
theorem mk_ne {z : Int} {d : Nat} (h : mkRat z d ≠ 0) : z ≠ 0 ∧ d ≠ 0 := by
  constructor
  · rintro rfl; exact h (Rat.zero_mkRat d)
  · rintro rfl; exact h (Rat.mkRat_zero z)
theorem floor_mk {z : Int} {d : Nat} (hd : d ≠ 0) : (mkRat z d).floor = z / (d : Int) := by
  have hg : 0 < Nat.gcd z.natAbs d := Nat.gcd_pos_of_pos_right _ (Nat.pos_of_ne_zero hd)
  rw [Rat.floor_def, mk_num hd, mk_den hd]
  obtain ⟨a, ha⟩ := gcd_abs_dvd z d
  obtain ⟨b, hb⟩ := Nat.gcd_dvd_right z.natAbs d
  generalize Nat.gcd z.natAbs d = g at ha hb hg
  rw [ha, hb, Int.mul_ediv_cancel_left _ (by omega), Nat.mul_div_cancel_left _ hg, Int.natCast_mul, Int.mul_ediv_mul_of_pos _ _ (by omega)]
theorem qr_div {z zq zr : Int} {d : Nat} (h : QR z (d : Int) zq zr) : zq = z / (d : Int) := by
  obtain ⟨h1, h2, h3⟩ := h
  exact ((Int.ediv_emod_unique (a := z) (b := (d : Int)) (q := zq) (r := zr) (by omega)).2 ⟨by rw [h1, Int.mul_comm]; omega, h2, by omega⟩).1.symm
theorem shl1_v (hx : RV w (.slice A0 n0 c0) x L) (hL : L ≤ 1000000) :
    Calls Tryz.prog 83 #[.slice A0 n0 c0, .int .u64 1] w fun e w' => ∃ B m d, e = .returned (.slice B m d) ∧ NV w' (.slice B m d) (x * 2 ^ 1) (L + 1) ∧ Below w.heap.size w w' := by
  have hb := hx.lt
  refine (shl_v hx hL 1 (by omega)).mono ?_
  rintro e w' ⟨B, m, d, rfl, h, h'⟩
  exact ⟨B, m, d, rfl, ⟨h.1, by rw [Bs_succ]; omega⟩, h'⟩
set_option maxRecDepth 100000 in
theorem rnew_zero (h : RI w s0 (.slice A0 n0 c0) z L) (hv : RV w (.slice A1 n1 c1) 0 L) :
    Calls Tryz.prog 12 #[.agg #[.bool s0, .slice A0 n0 c0], .agg #[.bool s1, .slice A1 n1 c1]] w fun e w' => ∃ s3 A3 n3 c3 D3 m3 e3, e = .returned (.tuple #[.agg #[.bool s3, .slice A3 n3 c3, .slice D3 m3 e3], .bool false]) ∧ NQ w' s3 (.slice A3 n3 c3) (.slice D3 m3 e3) 0 2 ∧ Below w.heap.size w w' := by
  go_enter Tryz.func12, Tryz.ntmps12
  go_wp2_with fail
  obtain ⟨W0, hW, b0, b1, b2, hbW, hszW0⟩ := boxes3 w #[.bool s0, .slice A0 n0 c0] #[.bool s1, .slice A1 n1 c1] #[.bool false, .slice none 0 0, .slice none 0 0] 25 25 27
  rw [hW]
  clear hW
  replace h := h.below hbW
  replace hv := hv.below hbW
  have H0 := hbW
  clear hbW
  have cb00 := b0.cell 0 _ rfl
  have cb01 := b0.cell 1 _ rfl
  have cb10 := b1.cell 0 _ rfl
  have cb11 := b1.cell 1 _ rfl
  go_wp2_with fail
  clear cb00 cb01 cb10 cb11
  refine (riszero_v hv (b := true) (by simp)).mono ?_
  rintro e w1 ⟨rfl, hb⟩
  replace h := h.below hb
  replace hv := hv.below hb
  replace b0 := b0.below hb
  replace b1 := b1.below hb
  replace b2 := b2.below hb
  replace H0 := H0.trans (hb.mono H0.size)
  clear hb
  go_wp2_with fail
  refine (rfromint_v 0 (by omega) (by omega) _).mono ?_
  rintro e w2 ⟨s3, A3, n3, c3, D3, m3, e3, rfl, fq, hb⟩
  replace h := h.below hb
  replace hv := hv.below hb
  replace b0 := b0.below hb
  replace b1 := b1.below hb
  replace b2 := b2.below hb
  replace H0 := H0.trans (hb.mono H0.size)
  clear hb
  have cb20 := b2.cell 0 _ rfl
  have yb20 := b2.frozen 0
  have cb21 := b2.cell 1 _ rfl
  have yb21 := b2.frozen 1
  have cb22 := b2.cell 2 _ rfl
  have yb22 := b2.frozen 2
  go_wp2_with fail
  clear cb20 yb20 cb21 yb21 cb22 yb22
  have hg := only_store3 w2 (w.heap.size + 1 + 1) (.bool s3) (.slice A3 n3 c3) (.slice D3 m3 e3)
  have hB := b2.stored3 (.bool s3) (.slice A3 n3 c3) (.slice D3 m3 e3)
  generalize hX : (((w2.setCell ⟨w.heap.size + 1 + 1, 0, none⟩ (.bool s3)).setCell ⟨w.heap.size + 1 + 1, 1, none⟩ (.slice A3 n3 c3)).setCell ⟨w.heap.size + 1 + 1, 2, none⟩ (.slice D3 m3 e3)) = X3 at hg hB ⊢
  clear hX
  replace h := h.kept b2 (by simp [notInt]) hg
  replace hv := hv.kept b2 (by simp [notInt]) hg
  replace fq := fq.kept b2 (by simp [notInt]) hg
  replace b0 := b0.other hg (by omega)
  replace b1 := b1.other hg (by omega)
  replace b2 := hB
  replace H0 := below_only H0 hg (by omega) H0.size
  clear hg hB
  refine bodyPost_ret (ret_rat_b rfl rfl b2) rfl ?_
  exact ⟨s3, A3, n3, c3, D3, m3, e3, rfl, fq.more (by omega), H0⟩
set_option maxRecDepth 100000 in
theorem rnew_v (h : RI w s0 (.slice A0 n0 c0) z L) (h' : RI w s1 (.slice A1 n1 c1) z' L) (h0 : z' ≠ 0) (hL : L ≤ 1000000) :
    Calls Tryz.prog 12 #[.agg #[.bool s0, .slice A0 n0 c0], .agg #[.bool s1, .slice A1 n1 c1]] w fun e w' => ∃ s3 A3 n3 c3 D3 m3 e3, e = .returned (.tuple #[.agg #[.bool s3, .slice A3 n3 c3, .slice D3 m3 e3], .bool true]) ∧ NQ w' s3 (.slice A3 n3 c3) (.slice D3 m3 e3) (Rat.divInt z z') L ∧ Below w.heap.size w w' := by
  have HE : Hid (Rat.divInt z z' = mkRat (sg (s0 != s1) z.natAbs) z'.natAbs) := Lib.hid (by rw [sg_bne, ← h.sg, ← h'.sg])
  have hv := h'.rv
  have HN : Hid (z'.natAbs ≠ 0) := Lib.hid (by omega)
  have HD := Lib.hid (decide_eq_false HN.out)
  clear h' h0
  go_enter Tryz.func12, Tryz.ntmps12
  go_wp2_with fail
  obtain ⟨W0, hW, b0, b1, b2, hbW, hszW0⟩ := boxes3 w #[.bool s0, .slice A0 n0 c0] #[.bool s1, .slice A1 n1 c1] #[.bool false, .slice none 0 0, .slice none 0 0] 25 25 27
  rw [hW]
  clear hW
  replace h := h.below hbW
  replace hv := hv.below hbW
  have H0 := hbW
  clear hbW
  have cb00 := b0.cell 0 _ rfl
  have cb01 := b0.cell 1 _ rfl
  have cb10 := b1.cell 0 _ rfl
  have cb11 := b1.cell 1 _ rfl
  go_wp2_with fail
  clear cb00 cb01 cb10 cb11
  refine (riszero_v hv (b := false) HD.out).mono ?_
  rintro e w1 ⟨rfl, hb⟩
  replace h := h.below hb
  replace hv := hv.below hb
  replace b0 := b0.below hb
  replace b1 := b1.below hb
  replace b2 := b2.below hb
  replace H0 := H0.trans (hb.mono H0.size)
  clear hb
  have cb00 := b0.cell 0 _ rfl
  have cb01 := b0.cell 1 _ rfl
  have cb10 := b1.cell 0 _ rfl
  have cb11 := b1.cell 1 _ rfl
  go_wp2_with fail
  clear cb00 cb01 cb10 cb11
  refine (rlowest_v (s0 := (s0 != s1)) ⟨_, h.rv, rfl⟩ hv HN.out hL).mono ?_
  rintro e w2 ⟨s3, A3, n3, c3, D3, m3, e3, rfl, fq, hb⟩
  replace h := h.below hb
  replace hv := hv.below hb
  replace b0 := b0.below hb
  replace b1 := b1.below hb
  replace b2 := b2.below hb
  replace H0 := H0.trans (hb.mono H0.size)
  clear hb
  have cb20 := b2.cell 0 _ rfl
  have yb20 := b2.frozen 0
  have cb21 := b2.cell 1 _ rfl
  have yb21 := b2.frozen 1
  have cb22 := b2.cell 2 _ rfl
  have yb22 := b2.frozen 2
  go_wp2_with fail
  clear cb20 yb20 cb21 yb21 cb22 yb22
  have hg := only_store3 w2 (w.heap.size + 1 + 1) (.bool s3) (.slice A3 n3 c3) (.slice D3 m3 e3)
  have hB := b2.stored3 (.bool s3) (.slice A3 n3 c3) (.slice D3 m3 e3)
  generalize hX : (((w2.setCell ⟨w.heap.size + 1 + 1, 0, none⟩ (.bool s3)).setCell ⟨w.heap.size + 1 + 1, 1, none⟩ (.slice A3 n3 c3)).setCell ⟨w.heap.size + 1 + 1, 2, none⟩ (.slice D3 m3 e3)) = X3 at hg hB ⊢
  clear hX
  replace h := h.kept b2 (by simp [notInt]) hg
  replace hv := hv.kept b2 (by simp [notInt]) hg
  replace fq := fq.kept b2 (by simp [notInt]) hg
  replace b0 := b0.other hg (by omega)
  replace b1 := b1.other hg (by omega)
  replace b2 := hB
  replace H0 := below_only H0 hg (by omega) H0.size
  clear hg hB
  refine bodyPost_ret (ret_rat_b rfl rfl b2) rfl ?_
  exact ⟨s3, A3, n3, c3, D3, m3, e3, rfl, by rw [HE.out]; exact fq, H0⟩
set_option maxRecDepth 100000 in
theorem rdiv_zero (h : RQ w s0 (.slice A0 n0 c0) (.slice D0 m0 e0) q L) (h' : RQ w s1 (.slice A1 n1 c1) (.slice D1 m1 e1) 0 L0) :
    Calls Tryz.prog 27 #[.agg #[.bool s0, .slice A0 n0 c0, .slice D0 m0 e0], .agg #[.bool s1, .slice A1 n1 c1, .slice D1 m1 e1]] w fun e w' => ∃ s3 A3 n3 c3 D3 m3 e3, e = .returned (.tuple #[.agg #[.bool s3, .slice A3 n3 c3, .slice D3 m3 e3], .bool false]) ∧ NQ w' s3 (.slice A3 n3 c3) (.slice D3 m3 e3) 0 2 ∧ Below w.heap.size w w' := by
  have HK := Lib.hid rsg_zero
  go_enter Tryz.func27, Tryz.ntmps27
  go_wp2_with fail
  obtain ⟨W0, hW, b0, b1, b2, hbW, hszW0⟩ := boxes3 w #[.bool s0, .slice A0 n0 c0, .slice D0 m0 e0] #[.bool s1, .slice A1 n1 c1, .slice D1 m1 e1] #[.bool false, .slice none 0 0, .slice none 0 0] 27 27 27
  rw [hW]
  clear hW
  replace h := h.below hbW
  replace h' := h'.below hbW
  have H0 := hbW
  clear hbW
  have cb00 := b0.cell 0 _ rfl
  have cb01 := b0.cell 1 _ rfl
  have cb02 := b0.cell 2 _ rfl
  have cb10 := b1.cell 0 _ rfl
  have cb11 := b1.cell 1 _ rfl
  have cb12 := b1.cell 2 _ rfl
  go_wp2_with fail
  clear cb00 cb01 cb02 cb10 cb11 cb12
  refine (rsign_v h' HK.out).mono ?_
  rintro e w1 ⟨rfl, hb⟩
  replace h := h.below hb
  replace h' := h'.below hb
  replace b0 := b0.below hb
  replace b1 := b1.below hb
  replace b2 := b2.below hb
  replace H0 := H0.trans (hb.mono H0.size)
  clear hb
  have cb00 := b0.cell 0 _ rfl
  have cb01 := b0.cell 1 _ rfl
  have cb02 := b0.cell 2 _ rfl
  have cb10 := b1.cell 0 _ rfl
  have cb11 := b1.cell 1 _ rfl
  have cb12 := b1.cell 2 _ rfl
  go_wp2_with fail
  clear h
  clear h'
  clear cb00 cb01 cb02 cb10 cb11 cb12
  refine (rfromint_v 0 (by omega) (by omega) _).mono ?_
  rintro e w2 ⟨s3, A3, n3, c3, D3, m3, e3, rfl, fq, hb⟩
  replace b0 := b0.below hb
  replace b1 := b1.below hb
  replace b2 := b2.below hb
  replace H0 := H0.trans (hb.mono H0.size)
  clear hb
  have cb20 := b2.cell 0 _ rfl
  have yb20 := b2.frozen 0
  have cb21 := b2.cell 1 _ rfl
  have yb21 := b2.frozen 1
  have cb22 := b2.cell 2 _ rfl
  have yb22 := b2.frozen 2
  go_wp2_with fail
  clear cb20 yb20 cb21 yb21 cb22 yb22
  have hg := only_store3 w2 (w.heap.size + 1 + 1) (.bool s3) (.slice A3 n3 c3) (.slice D3 m3 e3)
  have hB := b2.stored3 (.bool s3) (.slice A3 n3 c3) (.slice D3 m3 e3)
  generalize hX : (((w2.setCell ⟨w.heap.size + 1 + 1, 0, none⟩ (.bool s3)).setCell ⟨w.heap.size + 1 + 1, 1, none⟩ (.slice A3 n3 c3)).setCell ⟨w.heap.size + 1 + 1, 2, none⟩ (.slice D3 m3 e3)) = X3 at hg hB ⊢
  clear hX
  replace fq := fq.kept b2 (by simp [notInt]) hg
  replace b0 := b0.other hg (by omega)
  replace b1 := b1.other hg (by omega)
  replace b2 := hB
  replace H0 := below_only H0 hg (by omega) H0.size
  clear hg hB
  refine bodyPost_ret (ret_rat_b rfl rfl b2) rfl ?_
  exact ⟨s3, A3, n3, c3, D3, m3, e3, rfl, fq, H0⟩
set_option maxRecDepth 100000 in
theorem rdiv_v (h : RQ w s0 (.slice A0 n0 c0) (.slice D0 m0 e0) q L) (h' : RQ w s1 (.slice A1 n1 c1) (.slice D1 m1 e1) q' L0) (hL : L ≤ 100000) (hL' : L0 ≤ 100000) (h0 : q' ≠ 0) :
    Calls Tryz.prog 27 #[.agg #[.bool s0, .slice A0 n0 c0, .slice D0 m0 e0], .agg #[.bool s1, .slice A1 n1 c1, .slice D1 m1 e1]] w fun e w' => ∃ s3 A3 n3 c3 D3 m3 e3, e = .returned (.tuple #[.agg #[.bool s3, .slice A3 n3 c3, .slice D3 m3 e3], .bool true]) ∧ NQ w' s3 (.slice A3 n3 c3) (.slice D3 m3 e3) (q / q') (max L 2 + max L0 2) ∧ Below w.heap.size w w' := by
  obtain ⟨k, hk⟩ : ∃ k, rsg q' = k := ⟨_, rfl⟩
  have hk0 : (k == 0) = false := by rw [beq_eq_false_iff_ne, ← hk]; intro h; exact h0 (rsg_eq_zero.1 h)
  have HK := Lib.hid hk
  have H0' := Lib.hid h0
  clear hk h0
  go_enter Tryz.func27, Tryz.ntmps27
  go_wp2_with fail
  obtain ⟨W0, hW, b0, b1, b2, hbW, hszW0⟩ := boxes3 w #[.bool s0, .slice A0 n0 c0, .slice D0 m0 e0] #[.bool s1, .slice A1 n1 c1, .slice D1 m1 e1] #[.bool false, .slice none 0 0, .slice none 0 0] 27 27 27
  rw [hW]
  clear hW
  replace h := h.below hbW
  replace h' := h'.below hbW
  have H0 := hbW
  clear hbW
  have cb00 := b0.cell 0 _ rfl
  have cb01 := b0.cell 1 _ rfl
  have cb02 := b0.cell 2 _ rfl
  have cb10 := b1.cell 0 _ rfl
  have cb11 := b1.cell 1 _ rfl
  have cb12 := b1.cell 2 _ rfl
  go_wp2_with fail
  clear cb00 cb01 cb02 cb10 cb11 cb12
  refine (rsign_v h' HK.out).mono ?_
  rintro e w1 ⟨rfl, hb⟩
  replace h := h.below hb
  replace h' := h'.below hb
  replace b0 := b0.below hb
  replace b1 := b1.below hb
  replace b2 := b2.below hb
  replace H0 := H0.trans (hb.mono H0.size)
  clear hb
  have cb00 := b0.cell 0 _ rfl
  have cb01 := b0.cell 1 _ rfl
  have cb02 := b0.cell 2 _ rfl
  have cb10 := b1.cell 0 _ rfl
  have cb11 := b1.cell 1 _ rfl
  have cb12 := b1.cell 2 _ rfl
  go_wp2_with fail
  clear cb00 cb01 cb02 cb10 cb11 cb12
  refine (rfraction_v h).mono ?_
  rintro e w2 ⟨s2, A2, n2, c2, D2, m2, e2, rfl, fr, hb⟩
  replace h := h.below hb
  replace h' := h'.below hb
  replace b0 := b0.below hb
  replace b1 := b1.below hb
  replace b2 := b2.below hb
  replace H0 := H0.trans (hb.mono H0.size)
  clear hb
  clear h
  have cb00 := b0.cell 0 _ rfl
  have yb00 := b0.frozen 0
  have cb01 := b0.cell 1 _ rfl
  have yb01 := b0.frozen 1
  have cb02 := b0.cell 2 _ rfl
  have yb02 := b0.frozen 2
  go_wp2_with fail
  clear cb00 yb00 cb01 yb01 cb02 yb02
  have hg := only_store3 w2 (w.heap.size) (.bool s2) (.slice A2 n2 c2) (.slice D2 m2 e2)
  have hB := b0.stored3 (.bool s2) (.slice A2 n2 c2) (.slice D2 m2 e2)
  generalize hX : (((w2.setCell ⟨w.heap.size, 0, none⟩ (.bool s2)).setCell ⟨w.heap.size, 1, none⟩ (.slice A2 n2 c2)).setCell ⟨w.heap.size, 2, none⟩ (.slice D2 m2 e2)) = X3 at hg hB ⊢
  clear hX
  replace h' := h'.kept b0 (by simp [notInt]) hg
  replace fr := fr.kept b0 (by simp [notInt]) hg
  replace b1 := b1.other hg (by omega)
  replace b2 := b2.other hg (by omega)
  replace b0 := hB
  replace H0 := below_only H0 hg (by omega) H0.size
  clear hg hB
  obtain ⟨z0, d0, hz0, hd0, hn0, rfl⟩ := fr
  obtain ⟨z1, d1, hz1, hd1, rfl⟩ := h'
  have hnz := mk_ne H0'.out
  have HZ : Hid (z1 * (d0 : Int) ≠ 0) := Lib.hid (Int.mul_ne_zero hnz.1 (by omega))
  clear hn0 hnz
  have cb00 := b0.cell 0 _ rfl
  have cb01 := b0.cell 1 _ rfl
  have cb02 := b0.cell 2 _ rfl
  have cb10 := b1.cell 0 _ rfl
  have cb11 := b1.cell 1 _ rfl
  have cb12 := b1.cell 2 _ rfl
  go_wp2_with fail
  clear cb00 cb01 cb02 cb10 cb11 cb12
  have hD := drawn_below X3
  replace hz0 := hz0.below hD
  replace hd0 := hd0.below hD
  replace hz1 := hz1.below hD
  replace hd1 := hd1.below hD
  replace b0 := b0.below hD
  replace b1 := b1.below hD
  replace b2 := b2.below hD
  replace H0 := H0.trans (hD.mono H0.size)
  clear hD
  have K0 := (And.intro (b0.cell 0 _ rfl) (And.intro (b0.cell 1 _ rfl) (And.intro (b0.cell 2 _ rfl) (And.intro (b1.cell 0 _ rfl) (And.intro (b1.cell 1 _ rfl) (b1.cell 2 _ rfl))))))
  go_region_held3 (fun V => V.cell? ⟨w.heap.size, 0, none⟩ = some (.bool s2) ∧ V.cell? ⟨w.heap.size, 1, none⟩ = some (.slice A2 n2 c2) ∧ V.cell? ⟨w.heap.size, 2, none⟩ = some (.slice D2 m2 e2) ∧ V.cell? ⟨w.heap.size + 1, 0, none⟩ = some (.bool s1) ∧ V.cell? ⟨w.heap.size + 1, 1, none⟩ = some (.slice A1 n1 c1) ∧ V.cell? ⟨w.heap.size + 1, 2, none⟩ = some (.slice D1 m1 e1)) (first | exact KS | exact K3 | exact K2 | exact K1 | exact K0 | go_keep)
    (first
      | (go_at_call 71; with_reducible refine (rscale_v hz0 hd1 (by omega) (by omega)).mono ?_; rintro e v4 ⟨s4, A4, n4, c4, rfl, f4, hb⟩; have hz0 := hz0.below hb; have hd0 := hd0.below hb; have hz1 := hz1.below hb; have hd1 := hd1.below hb; have b0 := b0.below hb; have b1 := b1.below hb; have b2 := b2.below hb; have H0 := H0.trans (hb.mono H0.size); have K1 := (And.intro (b0.cell 0 _ rfl) (And.intro (b0.cell 1 _ rfl) (And.intro (b0.cell 2 _ rfl) (And.intro (b1.cell 0 _ rfl) (And.intro (b1.cell 1 _ rfl) (b1.cell 2 _ rfl)))))); clear hb)
      | (go_at_call 71; with_reducible refine (rscale_v hz1 hd0 (by omega) (by omega)).mono ?_; rintro e v5 ⟨s5, A5, n5, c5, rfl, f5, hb⟩; have hz0 := hz0.below hb; have hd0 := hd0.below hb; have hz1 := hz1.below hb; have hd1 := hd1.below hb; have f4 := f4.below hb; have b0 := b0.below hb; have b1 := b1.below hb; have b2 := b2.below hb; have H0 := H0.trans (hb.mono H0.size); have K2 := (And.intro (b0.cell 0 _ rfl) (And.intro (b0.cell 1 _ rfl) (And.intro (b0.cell 2 _ rfl) (And.intro (b1.cell 0 _ rfl) (And.intro (b1.cell 1 _ rfl) (b1.cell 2 _ rfl)))))); clear hb)
      | (go_at_call 12; with_reducible refine (rnew_v (f4.ri.more (L' := max L 2 + max L0 2) (by omega)) (f5.ri.more (by omega)) HZ.out (by omega)).mono ?_; rintro e v6 ⟨s3, A3, n3, c3, D3, m3, e3, rfl, fq, hb⟩; have hz0 := hz0.below hb; have hd0 := hd0.below hb; have hz1 := hz1.below hb; have hd1 := hd1.below hb; have f4 := f4.below hb; have f5 := f5.below hb; have b0 := b0.below hb; have b1 := b1.below hb; have b2 := b2.below hb; have H0 := H0.trans (hb.mono H0.size); clear f4; clear f5; have K3 := (And.intro (b0.cell 0 _ rfl) (And.intro (b0.cell 1 _ rfl) (And.intro (b0.cell 2 _ rfl) (And.intro (b1.cell 0 _ rfl) (And.intro (b1.cell 1 _ rfl) (b1.cell 2 _ rfl)))))); have r0 := b2.cell 0 _ rfl; have f_0 := b2.frozen 0; have r1 := b2.cell 1 _ rfl; have f_1 := b2.frozen 1; have r2 := b2.cell 2 _ rfl; have f_2 := b2.frozen 2; have hg := only_store3 v6 (w.heap.size + 1 + 1) (.bool s3) (.slice A3 n3 c3) (.slice D3 m3 e3); have KS := (And.intro ((b0.other hg (by omega)).cell 0 _ rfl) (And.intro ((b0.other hg (by omega)).cell 1 _ rfl) (And.intro ((b0.other hg (by omega)).cell 2 _ rfl) (And.intro ((b1.other hg (by omega)).cell 0 _ rfl) (And.intro ((b1.other hg (by omega)).cell 1 _ rfl) ((b1.other hg (by omega)).cell 2 _ rfl)))))); clear hb)
    )
  have hB := b2.stored3 (.bool s3) (.slice A3 n3 c3) (.slice D3 m3 e3)
  go_wp2_with fail
  generalize hX : (((v6.setCell ⟨w.heap.size + 1 + 1, 0, none⟩ (.bool s3)).setCell ⟨w.heap.size + 1 + 1, 1, none⟩ (.slice A3 n3 c3)).setCell ⟨w.heap.size + 1 + 1, 2, none⟩ (.slice D3 m3 e3)) = X7 at hg hB ⊢
  clear hX r0 f_0 r1 f_1 r2 f_2
  replace hz0 := hz0.kept b2 (by simp [notInt]) hg
  replace hd0 := hd0.kept b2 (by simp [notInt]) hg
  replace hz1 := hz1.kept b2 (by simp [notInt]) hg
  replace hd1 := hd1.kept b2 (by simp [notInt]) hg
  replace fq := fq.kept b2 (by simp [notInt]) hg
  replace b0 := b0.other hg (by omega)
  replace b1 := b1.other hg (by omega)
  replace b2 := hB
  replace H0 := below_only H0 hg (by omega) H0.size
  clear hg hB
  refine bodyPost_ret (ret_rat_b rfl rfl b2) rfl ?_
  exact ⟨s3, A3, n3, c3, D3, m3, e3, rfl, by rw [div_mk]; exact fq, H0⟩
set_option maxRecDepth 100000 in
theorem rmiddle_v (h : RQ w s0 (.slice A0 n0 c0) (.slice D0 m0 e0) q L) (h' : RQ w s1 (.slice A1 n1 c1) (.slice D1 m1 e1) q' L0) (hL : L ≤ 100000) (hL' : L0 ≤ 100000) :
    Calls Tryz.prog 38 #[.agg #[.bool s0, .slice A0 n0 c0, .slice D0 m0 e0], .agg #[.bool s1, .slice A1 n1 c1, .slice D1 m1 e1]] w fun e w' => ∃ s3 A3 n3 c3 D3 m3 e3, e = .returned (.agg #[.bool s3, .slice A3 n3 c3, .slice D3 m3 e3]) ∧ NQ w' s3 (.slice A3 n3 c3) (.slice D3 m3 e3) ((q+q')/2) (max L 2 + max L0 2 + 1 + 1) ∧ Below w.heap.size w w' := by
  go_enter Tryz.func38, Tryz.ntmps38
  go_wp2_with fail
  obtain ⟨W0, hW, b0, b1, b2, hbW, hszW0⟩ := boxes3 w #[.bool s0, .slice A0 n0 c0, .slice D0 m0 e0] #[.bool s1, .slice A1 n1 c1, .slice D1 m1 e1] #[.bool false, .slice none 0 0, .slice none 0 0] 27 27 27
  rw [hW]
  clear hW
  replace h := h.below hbW
  replace h' := h'.below hbW
  have H0 := hbW
  clear hbW
  have cb00 := b0.cell 0 _ rfl
  have cb01 := b0.cell 1 _ rfl
  have cb02 := b0.cell 2 _ rfl
  have cb10 := b1.cell 0 _ rfl
  have cb11 := b1.cell 1 _ rfl
  have cb12 := b1.cell 2 _ rfl
  go_wp2_with fail
  clear cb00 cb01 cb02 cb10 cb11 cb12
  refine (rsum_v h h' hL hL').mono ?_
  rintro e w1 ⟨s4, A4, n4, c4, D4, m4, e4, rfl, fr, hb⟩
  replace h := h.below hb
  replace h' := h'.below hb
  replace b0 := b0.below hb
  replace b1 := b1.below hb
  replace b2 := b2.below hb
  replace H0 := H0.trans (hb.mono H0.size)
  clear hb
  go_wp2_with fail
  clear h
  clear h'
  have lb0_2 := b0.lt
  have lb1_2 := b1.lt
  have lb2_2 := b2.lt
  obtain ⟨W2, hW, b4, hbW, hszW2⟩ := boxes1 w1 #[.bool s4, .slice A4 n4 c4, .slice D4 m4 e4] 27
  rw [hW]
  clear hW
  replace fr := fr.below hbW
  replace b0 := b0.below hbW
  replace b1 := b1.below hbW
  replace b2 := b2.below hbW
  replace H0 := H0.trans (hbW.mono H0.size)
  clear hbW
  obtain ⟨z, d, hz, hd, hn, hq⟩ := fr
  have HQ := Lib.hid (mid_mk hq)
  have HN : Hid (d * 2 ^ 1 ≠ 0) := Lib.hid (by omega)
  clear hn hq
  have hD := drawn_below W2
  replace hz := hz.below hD
  replace hd := hd.below hD
  replace b0 := b0.below hD
  replace b1 := b1.below hD
  replace b2 := b2.below hD
  replace b4 := b4.below hD
  replace H0 := H0.trans (hD.mono H0.size)
  clear hD
  have K0 := (And.intro (b4.cell 0 _ rfl) (And.intro (b4.cell 1 _ rfl) (b4.cell 2 _ rfl)))
  go_region_held3 (fun V => V.cell? ⟨w1.heap.size, 0, none⟩ = some (.bool s4) ∧ V.cell? ⟨w1.heap.size, 1, none⟩ = some (.slice A4 n4 c4) ∧ V.cell? ⟨w1.heap.size, 2, none⟩ = some (.slice D4 m4 e4)) (first | exact KS | exact K2 | exact K1 | exact K0 | go_keep)
    (first
      | (go_at_call 83; with_reducible refine (shl1_v hd (by omega)).mono ?_; rintro e v3 ⟨D5, m5, e5, rfl, f5, hb⟩; have hz := hz.below hb; have hd := hd.below hb; have b0 := b0.below hb; have b1 := b1.below hb; have b2 := b2.below hb; have b4 := b4.below hb; have H0 := H0.trans (hb.mono H0.size); have K1 := (And.intro (b4.cell 0 _ rfl) (And.intro (b4.cell 1 _ rfl) (b4.cell 2 _ rfl))); clear hb)
      | (go_at_call 55; with_reducible refine (rlowest_v (hz.more (by omega)) f5.rv HN.out (by omega)).mono ?_; rintro e v4 ⟨s3, A3, n3, c3, D3, m3, e3, rfl, fq, hb⟩; have hz := hz.below hb; have hd := hd.below hb; have f5 := f5.below hb; have b0 := b0.below hb; have b1 := b1.below hb; have b2 := b2.below hb; have b4 := b4.below hb; have H0 := H0.trans (hb.mono H0.size); clear f5; have K2 := (And.intro (b4.cell 0 _ rfl) (And.intro (b4.cell 1 _ rfl) (b4.cell 2 _ rfl))); have r0 := b2.cell 0 _ rfl; have f_0 := b2.frozen 0; have r1 := b2.cell 1 _ rfl; have f_1 := b2.frozen 1; have r2 := b2.cell 2 _ rfl; have f_2 := b2.frozen 2; have hg := only_store3 v4 (w.heap.size + 1 + 1) (.bool s3) (.slice A3 n3 c3) (.slice D3 m3 e3); have KS := (And.intro ((b4.other hg (by omega)).cell 0 _ rfl) (And.intro ((b4.other hg (by omega)).cell 1 _ rfl) ((b4.other hg (by omega)).cell 2 _ rfl))); clear hb)
    )
  have hB := b2.stored3 (.bool s3) (.slice A3 n3 c3) (.slice D3 m3 e3)
  go_wp2_with fail
  generalize hX : (((v4.setCell ⟨w.heap.size + 1 + 1, 0, none⟩ (.bool s3)).setCell ⟨w.heap.size + 1 + 1, 1, none⟩ (.slice A3 n3 c3)).setCell ⟨w.heap.size + 1 + 1, 2, none⟩ (.slice D3 m3 e3)) = X5 at hg hB ⊢
  clear hX r0 f_0 r1 f_1 r2 f_2
  replace hz := hz.kept b2 (by simp [notInt]) hg
  replace hd := hd.kept b2 (by simp [notInt]) hg
  replace fq := fq.kept b2 (by simp [notInt]) hg
  replace b0 := b0.other hg (by omega)
  replace b1 := b1.other hg (by omega)
  replace b4 := b4.other hg (by omega)
  replace b2 := hB
  replace H0 := below_only H0 hg (by omega) H0.size
  clear hg hB
  refine bodyPost_ret (ret_rat rfl rfl b2) rfl ?_
  exact ⟨s3, A3, n3, c3, D3, m3, e3, rfl, by rw [← HQ.out]; exact fq, H0⟩
set_option maxRecDepth 100000 in
theorem rfloor_v (h : RQ w s0 (.slice A0 n0 c0) (.slice D0 m0 e0) q L) (hL : L ≤ 1000000) :
    Calls Tryz.prog 41 #[.agg #[.bool s0, .slice A0 n0 c0, .slice D0 m0 e0]] w fun e w' => ∃ s4 A4 n4 c4, e = .returned (.agg #[.bool s4, .slice A4 n4 c4]) ∧ NI w' s4 (.slice A4 n4 c4) q.floor (max L 2 + 1) ∧ Below w.heap.size w w' := by
  go_enter Tryz.func41, Tryz.ntmps41
  go_wp2_with fail
  obtain ⟨W0, hW, b0, b1, hbW, hszW0⟩ := boxes2 w #[.bool s0, .slice A0 n0 c0, .slice D0 m0 e0] #[.bool false, .slice none 0 0] 27 25
  rw [hW]
  clear hW
  replace h := h.below hbW
  have H0 := hbW
  clear hbW
  have cb00 := b0.cell 0 _ rfl
  have cb01 := b0.cell 1 _ rfl
  have cb02 := b0.cell 2 _ rfl
  go_wp2_with fail
  clear cb00 cb01 cb02
  refine (rfraction_v h).mono ?_
  rintro e w1 ⟨s2, A2, n2, c2, D2, m2, e2, rfl, fr, hb⟩
  replace h := h.below hb
  replace b0 := b0.below hb
  replace b1 := b1.below hb
  replace H0 := H0.trans (hb.mono H0.size)
  clear hb
  clear h
  have cb00 := b0.cell 0 _ rfl
  have yb00 := b0.frozen 0
  have cb01 := b0.cell 1 _ rfl
  have yb01 := b0.frozen 1
  have cb02 := b0.cell 2 _ rfl
  have yb02 := b0.frozen 2
  go_wp2_with fail
  clear cb00 yb00 cb01 yb01 cb02 yb02
  have hg := only_store3 w1 (w.heap.size) (.bool s2) (.slice A2 n2 c2) (.slice D2 m2 e2)
  have hB := b0.stored3 (.bool s2) (.slice A2 n2 c2) (.slice D2 m2 e2)
  generalize hX : (((w1.setCell ⟨w.heap.size, 0, none⟩ (.bool s2)).setCell ⟨w.heap.size, 1, none⟩ (.slice A2 n2 c2)).setCell ⟨w.heap.size, 2, none⟩ (.slice D2 m2 e2)) = X2 at hg hB ⊢
  clear hX
  replace fr := fr.kept b0 (by simp [notInt]) hg
  replace b1 := b1.other hg (by omega)
  replace b0 := hB
  replace H0 := below_only H0 hg (by omega) H0.size
  clear hg hB
  obtain ⟨z, d, hz, hd, hn, rfl⟩ := fr
  have cb00 := b0.cell 0 _ rfl
  have cb01 := b0.cell 1 _ rfl
  have cb02 := b0.cell 2 _ rfl
  go_wp2_with fail
  clear cb00 cb01 cb02
  refine (idivmod_v (s' := false) hz ⟨d, hd, (sg_false d).symm⟩ (by omega) (by omega)).mono ?_
  rintro e w3 ⟨zq, zr, s4, A4, n4, c4, s5, A5, n5, c5, rfl, fi, _, hqr, hb⟩
  replace hz := hz.below hb
  replace hd := hd.below hb
  replace b0 := b0.below hb
  replace b1 := b1.below hb
  replace H0 := H0.trans (hb.mono H0.size)
  clear hb
  have lb0_4 := b0.lt
  have lb1_4 := b1.lt
  obtain ⟨W4, hW, b4, b5, hbW, hszW4⟩ := boxes2 w3 #[.bool s4, .slice A4 n4 c4] #[.bool s5, .slice A5 n5 c5] 25 25
  skip
  skip
  replace hz := hz.below hbW
  replace hd := hd.below hbW
  replace fi := fi.below hbW
  replace b0 := b0.below hbW
  replace b1 := b1.below hbW
  replace H0 := H0.trans (hbW.mono H0.size)
  clear hbW
  have cb40 := b4.cell 0 _ rfl
  have cb41 := b4.cell 1 _ rfl
  have cb10 := b1.cell 0 _ rfl
  have yb10 := b1.frozen 0
  have cb11 := b1.cell 1 _ rfl
  have yb11 := b1.frozen 1
  go_wp2_with fail
  clear cb40 cb41 cb10 yb10 cb11 yb11
  have hg := only_store W4 (w.heap.size + 1) (.bool s4) (.slice A4 n4 c4)
  have hB := b1.stored (.bool s4) (.slice A4 n4 c4)
  generalize hX : ((W4.setCell ⟨w.heap.size + 1, 0, none⟩ (.bool s4)).setCell ⟨w.heap.size + 1, 1, none⟩ (.slice A4 n4 c4)) = X5 at hg hB ⊢
  clear hX
  replace hz := hz.kept b1 (by simp [notInt]) hg
  replace hd := hd.kept b1 (by simp [notInt]) hg
  replace fi := fi.kept b1 (by simp [notInt]) hg
  replace b0 := b0.other hg (by omega)
  replace b4 := b4.other hg (by omega)
  replace b5 := b5.other hg (by omega)
  replace b1 := hB
  replace H0 := below_only H0 hg (by omega) H0.size
  clear hg hB
  refine bodyPost_ret (ret_int rfl rfl b1) rfl ?_
  exact ⟨s4, A4, n4, c4, rfl, by rw [floor_mk hn, ← qr_div hqr]; exact fi.more (by omega), H0⟩
set_option maxRecDepth 100000 in
theorem rceil_v (h : RQ w s0 (.slice A0 n0 c0) (.slice D0 m0 e0) q L) (hL : L ≤ 100000) :
    Calls Tryz.prog 43 #[.agg #[.bool s0, .slice A0 n0 c0, .slice D0 m0 e0]] w fun e w' => ∃ s4 A4 n4 c4, e = .returned (.agg #[.bool s4, .slice A4 n4 c4]) ∧ NI w' s4 (.slice A4 n4 c4) (-(-q).floor) (max L 2 + 1) ∧ Below w.heap.size w w' := by
  go_enter Tryz.func43, Tryz.ntmps43
  go_wp2_with fail
  obtain ⟨W0, hW, b0, b1, hbW, hszW0⟩ := boxes2 w #[.bool (!s0), .slice A0 n0 c0, .slice D0 m0 e0] #[.bool false, .slice none 0 0] 27 25
  rw [hW]
  clear hW
  replace h := h.below hbW
  have H0 := hbW
  clear hbW
  replace h := h.flip
  refine (rfloor_v h (by omega)).mono ?_
  rintro e w1 ⟨s4, A4, n4, c4, rfl, fi, hb⟩
  replace h := h.below hb
  replace b0 := b0.below hb
  replace b1 := b1.below hb
  replace H0 := H0.trans (hb.mono H0.size)
  clear hb
  go_wp2_with fail
  refine (ineg_v fi.ri (by omega)).mono ?_
  rintro e w2 ⟨s5, A5, n5, c5, rfl, fj, hb⟩
  replace h := h.below hb
  replace fi := fi.below hb
  replace b0 := b0.below hb
  replace b1 := b1.below hb
  replace H0 := H0.trans (hb.mono H0.size)
  clear hb
  have cb10 := b1.cell 0 _ rfl
  have yb10 := b1.frozen 0
  have cb11 := b1.cell 1 _ rfl
  have yb11 := b1.frozen 1
  go_wp2_with fail
  clear cb10 yb10 cb11 yb11
  have hg := only_store w2 (w.heap.size + 1) (.bool s5) (.slice A5 n5 c5)
  have hB := b1.stored (.bool s5) (.slice A5 n5 c5)
  generalize hX : ((w2.setCell ⟨w.heap.size + 1, 0, none⟩ (.bool s5)).setCell ⟨w.heap.size + 1, 1, none⟩ (.slice A5 n5 c5)) = X3 at hg hB ⊢
  clear hX
  replace h := h.kept b1 (by simp [notInt]) hg
  replace fi := fi.kept b1 (by simp [notInt]) hg
  replace fj := fj.kept b1 (by simp [notInt]) hg
  replace b0 := b0.other hg (by omega)
  replace b1 := hB
  replace H0 := below_only H0 hg (by omega) H0.size
  clear hg hB
  refine bodyPost_ret (ret_int rfl rfl b1) rfl ?_
  exact ⟨s5, A5, n5, c5, rfl, fj, H0⟩
end
end Go.Proofs.YtkhfadfjkmhpgaaGreatDoor
