/-
  The contracts of package rational: quotients, the middle, rounding.
-/
import Derived.Test.YtfonldogbfkpiaaGreatRatC
namespace Go.Proofs.YtfonldogbfkpiaaGreat
open Go.RowKit

section
variable {A0 A1 A2 A3 D0 D1 D2 D3 : Option Addr} {n0 n1 n2 n3 c0 c1 c2 c3 m0 m1 m2 m3 e0 e1 e2 e3 : Nat} {s0 s1 s2 s3 : Bool} {z z' z0 z1 z2 : Int} {q q' q0 q1 q2 : Rat} {L L0 L1 L2 x x0 x1 y : Nat} {k : Int} {w : World}
theorem sg_bne (a b : Bool) (x y : Nat) : mkRat (sg (a != b) x) y = Rat.divInt (sg a x) (sg b y) := by
  cases b
  · rw [sg_false]
    have h : Rat.divInt (sg a x) ((y : Nat) : Int) = mkRat (sg a x) y := Rat.divInt_ofNat _ _
    rw [h]; cases a <;> rfl
  · rw [sg_true, Rat.divInt_neg', Rat.divInt_ofNat]
    cases a
    · rw [show (false != true) = true from rfl, sg_true, sg_false]
    · rw [show (true != true) = false from rfl, sg_true, sg_false, Int.neg_neg]
theorem div_mk {z0 z1 : Int} {d0 d1 : Nat} : mkRat z0 d0 / mkRat z1 d1 = Rat.divInt (z0 * (d1 : Int)) (z1 * (d0 : Int)) := by
  rw [Rat.div_def, ← Rat.divInt_ofNat z1 d1, Rat.inv_divInt, ← Rat.divInt_ofNat z0 d0, Rat.divInt_mul_divInt, Int.mul_comm (d0 : Int) z1]
theorem mid_mk {q : Rat} {z : Int} {d : Nat} (h : q = mkRat z d) : mkRat z (d * 2 ^ 1) = q / 2 := by
  have h2 : (2 : Rat) = mkRat 2 1 := rfl
  rw [h, h2, div_mk, Int.natCast_one, Int.mul_one, show (2 : Int) * (d : Int) = ((d * 2 ^ 1 : Nat) : Int) by omega, Rat.divInt_ofNat]
theorem mk_ne {z : Int} {d : Nat} (h : mkRat z d ≠ 0) : z ≠ 0 ∧ d ≠ 0 := by
  constructor
  · rintro rfl; exact h (Rat.zero_mkRat d)
  · rintro rfl; exact h (Rat.mkRat_zero z)
theorem floor_mk {z : Int} {d : Nat} (hd : d ≠ 0) : (mkRat z d).floor = z / (d : Int) := by
  have hg : 0 < Nat.gcd z.natAbs d := Nat.gcd_pos_of_pos_right _ (Nat.pos_of_ne_zero hd)
  rw [Rat.floor_def, mk_num hd, mk_den hd]
  obtain ⟨a, ha⟩ := gcd_abs_dvd z d
  obtain ⟨b, hb⟩ := Nat.gcd_dvd_right z.natAbs d
  generalize Nat.gcd z.natAbs d = g at ha hb hg
  rw [ha, hb, Int.mul_ediv_cancel_left _ (by omega), Nat.mul_div_cancel_left _ hg, Int.natCast_mul, Int.mul_ediv_mul_of_pos _ _ (by omega)]
theorem qr_div {z zq zr : Int} {d : Nat} (h : QR z (d : Int) zq zr) : zq = z / (d : Int) := by
  obtain ⟨h1, h2, h3⟩ := h
  exact ((Int.ediv_emod_unique (a := z) (b := (d : Int)) (q := zq) (r := zr) (by omega)).2 ⟨by rw [h1, Int.mul_comm]; omega, h2, by omega⟩).1.symm
set_option maxRecDepth 100000 in
theorem rnew_zero (h : RI w s0 (.slice A0 n0 c0) z L) (hv : RV w (.slice A1 n1 c1) 0 L) :
    Calls Tryz.prog 98 #[.agg #[.bool s0, .slice A0 n0 c0], .agg #[.bool s1, .slice A1 n1 c1]] w fun e w' => ∃ s3 A3 n3 c3 D3 m3 e3, e = .returned (.tuple #[.agg #[.bool s3, .slice A3 n3 c3, .slice D3 m3 e3], .bool false]) ∧ NQ w' s3 (.slice A3 n3 c3) (.slice D3 m3 e3) 0 2 ∧ Below w.heap.size w w' := by
  go_enter Tryz.func98, Tryz.ntmps98
  go_wp2_with fail
  obtain ⟨W0, hW, b0, b1, b2, hbW, hszW0⟩ := boxes3 w #[.bool s0, .slice A0 n0 c0] #[.bool s1, .slice A1 n1 c1] #[.bool false, .slice none 0 0, .slice none 0 0] 28 28 69
  rw [hW]
  clear hW
  replace h := h.below hbW
  replace hv := hv.below hbW
  have H0 := hbW
  clear hbW
  have cb00 := b0.cell 0 _ rfl
  have cb01 := b0.cell 1 _ rfl
  have cb10 := b1.cell 0 _ rfl
  have cb11 := b1.cell 1 _ rfl
  go_wp2_with fail
  clear cb00 cb01 cb10 cb11
  refine (riszero_v hv (b := true) (by simp)).mono ?_
  rintro e w1 ⟨rfl, hb⟩
  replace h := h.below hb
  replace hv := hv.below hb
  replace b0 := b0.below hb
  replace b1 := b1.below hb
  replace b2 := b2.below hb
  replace H0 := H0.trans (hb.mono H0.size)
  clear hb
  go_wp2_with fail
  refine (rfromint_v 0 (by omega) (by omega) _).mono ?_
  rintro e w2 ⟨s3, A3, n3, c3, D3, m3, e3, rfl, fq, hb⟩
  replace h := h.below hb
  replace hv := hv.below hb
  replace b0 := b0.below hb
  replace b1 := b1.below hb
  replace b2 := b2.below hb
  replace H0 := H0.trans (hb.mono H0.size)
  clear hb
  have cb20 := b2.cell 0 _ rfl
  have yb20 := b2.frozen 0
  have cb21 := b2.cell 1 _ rfl
  have yb21 := b2.frozen 1
  have cb22 := b2.cell 2 _ rfl
  have yb22 := b2.frozen 2
  go_wp2_with fail
  clear cb20 yb20 cb21 yb21 cb22 yb22
  have hg := only_store3 w2 (w.heap.size + 1 + 1) (.bool s3) (.slice A3 n3 c3) (.slice D3 m3 e3)
  have hB := b2.stored3 (.bool s3) (.slice A3 n3 c3) (.slice D3 m3 e3)
  generalize hX : (((w2.setCell ⟨w.heap.size + 1 + 1, 0, none⟩ (.bool s3)).setCell ⟨w.heap.size + 1 + 1, 1, none⟩ (.slice A3 n3 c3)).setCell ⟨w.heap.size + 1 + 1, 2, none⟩ (.slice D3 m3 e3)) = X3 at hg hB ⊢
  clear hX
  replace h := h.kept b2 (by simp [notInt]) hg
  replace hv := hv.kept b2 (by simp [notInt]) hg
  replace fq := fq.kept b2 (by simp [notInt]) hg
  replace b0 := b0.other hg (by omega)
  replace b1 := b1.other hg (by omega)
  replace b2 := hB
  replace H0 := below_only H0 hg (by omega) H0.size
  clear hg hB
  refine bodyPost_ret (ret_rat_b rfl rfl b2) rfl ?_
  exact ⟨s3, A3, n3, c3, D3, m3, e3, rfl, fq.more (by omega), H0⟩
set_option maxRecDepth 100000 in
theorem rnew_v (h : RI w s0 (.slice A0 n0 c0) z L) (h' : RI w s1 (.slice A1 n1 c1) z' L) (h0 : z' ≠ 0) (hL : L ≤ 1000000) :
    Calls Tryz.prog 98 #[.agg #[.bool s0, .slice A0 n0 c0], .agg #[.bool s1, .slice A1 n1 c1]] w fun e w' => ∃ s3 A3 n3 c3 D3 m3 e3, e = .returned (.tuple #[.agg #[.bool s3, .slice A3 n3 c3, .slice D3 m3 e3], .bool true]) ∧ NQ w' s3 (.slice A3 n3 c3) (.slice D3 m3 e3) (Rat.divInt z z') L ∧ Below w.heap.size w w' := by
  have HE : Hid (Rat.divInt z z' = mkRat (sg (s0 != s1) z.natAbs) z'.natAbs) := Lib.hid (by rw [sg_bne, ← h.sg, ← h'.sg])
  have hv := h'.rv
  have HN : Hid (z'.natAbs ≠ 0) := Lib.hid (by omega)
  have HD := Lib.hid (decide_eq_false HN.out)
  clear h' h0
  go_enter Tryz.func98, Tryz.ntmps98
  go_wp2_with fail
  obtain ⟨W0, hW, b0, b1, b2, hbW, hszW0⟩ := boxes3 w #[.bool s0, .slice A0 n0 c0] #[.bool s1, .slice A1 n1 c1] #[.bool false, .slice none 0 0, .slice none 0 0] 28 28 69
  rw [hW]
  clear hW
  replace h := h.below hbW
  replace hv := hv.below hbW
  have H0 := hbW
  clear hbW
  have cb00 := b0.cell 0 _ rfl
  have cb01 := b0.cell 1 _ rfl
  have cb10 := b1.cell 0 _ rfl
  have cb11 := b1.cell 1 _ rfl
  go_wp2_with fail
  clear cb00 cb01 cb10 cb11
  refine (riszero_v hv (b := false) HD.out).mono ?_
  rintro e w1 ⟨rfl, hb⟩
  replace h := h.below hb
  replace hv := hv.below hb
  replace b0 := b0.below hb
  replace b1 := b1.below hb
  replace b2 := b2.below hb
  replace H0 := H0.trans (hb.mono H0.size)
  clear hb
  have cb00 := b0.cell 0 _ rfl
  have cb01 := b0.cell 1 _ rfl
  have cb10 := b1.cell 0 _ rfl
  have cb11 := b1.cell 1 _ rfl
  go_wp2_with fail
  clear cb00 cb01 cb10 cb11
  refine (rlowest_v (s0 := (s0 != s1)) ⟨_, h.rv, rfl⟩ hv HN.out hL).mono ?_
  rintro e w2 ⟨s3, A3, n3, c3, D3, m3, e3, rfl, fq, hb⟩
  replace h := h.below hb
  replace hv := hv.below hb
  replace b0 := b0.below hb
  replace b1 := b1.below hb
  replace b2 := b2.below hb
  replace H0 := H0.trans (hb.mono H0.size)
  clear hb
  have cb20 := b2.cell 0 _ rfl
  have yb20 := b2.frozen 0
  have cb21 := b2.cell 1 _ rfl
  have yb21 := b2.frozen 1
  have cb22 := b2.cell 2 _ rfl
  have yb22 := b2.frozen 2
  go_wp2_with fail
  clear cb20 yb20 cb21 yb21 cb22 yb22
  have hg := only_store3 w2 (w.heap.size + 1 + 1) (.bool s3) (.slice A3 n3 c3) (.slice D3 m3 e3)
  have hB := b2.stored3 (.bool s3) (.slice A3 n3 c3) (.slice D3 m3 e3)
  generalize hX : (((w2.setCell ⟨w.heap.size + 1 + 1, 0, none⟩ (.bool s3)).setCell ⟨w.heap.size + 1 + 1, 1, none⟩ (.slice A3 n3 c3)).setCell ⟨w.heap.size + 1 + 1, 2, none⟩ (.slice D3 m3 e3)) = X3 at hg hB ⊢
  clear hX
  replace h := h.kept b2 (by simp [notInt]) hg
  replace hv := hv.kept b2 (by simp [notInt]) hg
  replace fq := fq.kept b2 (by simp [notInt]) hg
  replace b0 := b0.other hg (by omega)
  replace b1 := b1.other hg (by omega)
  replace b2 := hB
  replace H0 := below_only H0 hg (by omega) H0.size
  clear hg hB
  refine bodyPost_ret (ret_rat_b rfl rfl b2) rfl ?_
  exact ⟨s3, A3, n3, c3, D3, m3, e3, rfl, by rw [HE.out]; exact fq, H0⟩
end
end Go.Proofs.YtfonldogbfkpiaaGreat
