/-
  The valid line of coefficients.
-/
import Derived.Test.YtfonldogbfkpiaaGreatLnA
import Derived.Test.YtfonldogbfkpiaaGreatLnM
namespace Go.Proofs.YtfonldogbfkpiaaGreat
open Go.RowKit

section
variable {A0 A1 A2 A3 A4 A5 A6 A7 A8 A9 A10 A11 A12 A13 A14 A15 A16 A17 A18 A19 A20 A21 A22 A23 D0 D1 D2 D3 D4 D5 D6 D7 D8 D9 D10 D11 D12 D13 D14 D15 D16 D17 D18 D19 D20 D21 D22 D23 : Option Addr} {n0 n1 n2 n3 n4 n5 n6 n7 n8 n9 n10 n11 n12 n13 n14 n15 n16 n17 n18 n19 n20 n21 n22 n23 c0 c1 c2 c3 c4 c5 c6 c7 c8 c9 c10 c11 c12 c13 c14 c15 c16 c17 c18 c19 c20 c21 c22 c23 m0 m1 m2 m3 m4 m5 m6 m7 m8 m9 m10 m11 m12 m13 m14 m15 m16 m17 m18 m19 m20 m21 m22 m23 e0 e1 e2 e3 e4 e5 e6 e7 e8 e9 e10 e11 e12 e13 e14 e15 e16 e17 e18 e19 e20 e21 e22 e23 : Nat} {s0 s1 s2 s3 s4 s5 s6 s7 s8 s9 s10 s11 s12 s13 s14 s15 s16 s17 s18 s19 s20 s21 s22 s23 : Bool} {q0 q1 q2 q3 q4 q5 q6 q7 : Rat} {z0 z1 z2 z3 z4 z5 z6 z7 z8 z9 z10 z11 : Int} {L L0 L1 x y : Nat} {k : Int} {b : Bool} {w : World}
theorem idivq_v (h : RI w s0 (.slice A0 n0 c0) z0 L) (h' : RI w s1 (.slice A1 n1 c1) z1 L0) (hz : 0 < z1) (hL : L ≤ 1000000) :
    Calls Tryz.prog 93 #[.agg #[.bool s0, .slice A0 n0 c0], .agg #[.bool s1, .slice A1 n1 c1]] w fun e w' => ∃ t B k d t' B' k' d', e = .returned (.tuple #[.agg #[.bool t, .slice B k d], .agg #[.bool t', .slice B' k' d'], .bool true]) ∧ NI w' t (.slice B k d) (z0 / z1) (max L 2 + 1) ∧ Below w.heap.size w w' := by
  refine (idivmod_v h h' (by omega) hL).mono ?_
  rintro e w' ⟨zq, zr, t, B, k, d, t', B', k', d', h1, h2, _, h3, h4⟩
  rw [qr_quo h3 hz] at h2
  exact ⟨t, B, k, d, t', B', k', d', h1, h2, h4⟩
set_option maxRecDepth 100000 in
set_option maxHeartbeats 4000000 in
theorem lprim_v (h0 : RI w s0 (.slice A0 n0 c0) z0 L) (h1 : RI w s1 (.slice A1 n1 c1) z1 L) (h2 : RI w s2 (.slice A2 n2 c2) z2 L) (hz : ¬ (z0 = 0 ∧ z1 = 0)) (hL : L ≤ 100000) :
    Calls Tryz.prog 56 #[.agg #[.bool s0, .slice A0 n0 c0, .bool s1, .slice A1 n1 c1, .bool s2, .slice A2 n2 c2]] w fun e w' => ∃ s3 A3 n3 c3 s4 A4 n4 c4 s5 A5 n5 c5, e = .returned (.tuple #[.agg #[.bool s3, .slice A3 n3 c3, .bool s4, .slice A4 n4 c4, .bool s5, .slice A5 n5 c5], .bool true]) ∧ NI w' s3 (.slice A3 n3 c3) (pr z0 z0 z1 z2) (L + 3) ∧ NI w' s4 (.slice A4 n4 c4) (pr z1 z0 z1 z2) (L + 3) ∧ NI w' s5 (.slice A5 n5 c5) (pr z2 z0 z1 z2) (L + 3) ∧ Below w.heap.size w w' := by
  have HK : Hid ((decide (z0 = 0) && decide (z1 = 0)) = false) := Lib.hid (by rw [Bool.eq_false_iff]; intro h; rw [Bool.and_eq_true, decide_eq_true_iff, decide_eq_true_iff] at h; exact hz h)
  have HP : Hid ((0 : Int) < ((Nat.gcd (Nat.gcd z0.natAbs z1.natAbs) z2.natAbs : Nat) : Int)) := Lib.hid (by have := gcd3_pos z2 hz; unfold gcd3 at this; omega)
  unfold pr gcd3
  clear hz
  go_enter Tryz.func56, Tryz.ntmps56
  go_wp2_with fail
  obtain ⟨W0, hW, b0, b9, hbW, hszW0⟩ := boxes2 w #[.bool s0, .slice A0 n0 c0, .bool s1, .slice A1 n1 c1, .bool s2, .slice A2 n2 c2] #[.bool false, .slice none 0 0, .bool false, .slice none 0 0, .bool false, .slice none 0 0] 58 30
  rw [hW]
  clear hW
  replace h0 := h0.below hbW
  replace h1 := h1.below hbW
  replace h2 := h2.below hbW
  have H0 := hbW
  clear hbW
  have cb00 := b0.cell 0 _ rfl
  have cb01 := b0.cell 1 _ rfl
  have cb02 := b0.cell 2 _ rfl
  have cb03 := b0.cell 3 _ rfl
  have cb04 := b0.cell 4 _ rfl
  have cb05 := b0.cell 5 _ rfl
  go_wp2_with fail
  clear cb00 cb01 cb02 cb03 cb04 cb05
  refine (ldegen_v h0 h1 HK.out).mono ?_
  rintro e w1 ⟨rfl, hb⟩
  replace h0 := h0.below hb
  replace h1 := h1.below hb
  replace h2 := h2.below hb
  replace b0 := b0.below hb
  replace b9 := b9.below hb
  replace H0 := H0.trans (hb.mono H0.size)
  clear hb
  have cb00 := b0.cell 0 _ rfl
  have cb01 := b0.cell 1 _ rfl
  have cb02 := b0.cell 2 _ rfl
  have cb03 := b0.cell 3 _ rfl
  have cb04 := b0.cell 4 _ rfl
  have cb05 := b0.cell 5 _ rfl
  go_wp2_with fail
  clear cb00 cb01 cb02 cb03 cb04 cb05
  refine (ldivisor_v h0 h1 h2 hL).mono ?_
  rintro e w2 ⟨s6, A6, n6, c6, rfl, g6, hb⟩
  replace h0 := h0.below hb
  replace h1 := h1.below hb
  replace h2 := h2.below hb
  replace b0 := b0.below hb
  replace b9 := b9.below hb
  replace H0 := H0.trans (hb.mono H0.size)
  clear hb
  have lb0_3 := b0.lt
  have lb9_3 := b9.lt
  obtain ⟨W3, hW, b4, hbW, hszW3⟩ := boxes1 w2 #[.bool s6, .slice A6 n6 c6] 28
  skip
  skip
  replace h0 := h0.below hbW
  replace h1 := h1.below hbW
  replace h2 := h2.below hbW
  replace g6 := g6.below hbW
  replace b0 := b0.below hbW
  replace b9 := b9.below hbW
  replace H0 := H0.trans (hbW.mono H0.size)
  clear hbW
  have cb00 := b0.cell 0 _ rfl
  have cb01 := b0.cell 1 _ rfl
  have cb02 := b0.cell 2 _ rfl
  have cb03 := b0.cell 3 _ rfl
  have cb04 := b0.cell 4 _ rfl
  have cb05 := b0.cell 5 _ rfl
  go_wp2_with fail
  clear hW
  clear hszW3
  clear cb00 cb01 cb02 cb03 cb04 cb05
  have hix0 : ∀ W : World, (Instr.index 58 (.agg #[.bool s0, .slice A0 n0 c0, .bool s1, .slice A1 n1 c1, .bool s2, .slice A2 n2 c2]) (.int .i64 0)).run Tryz.prog W = .ok (.agg #[.bool s0, .slice A0 n0 c0]) W := fun W => by kernel_rfl
  have hix1 : ∀ W : World, (Instr.index 58 (.agg #[.bool s0, .slice A0 n0 c0, .bool s1, .slice A1 n1 c1, .bool s2, .slice A2 n2 c2]) (.int .i64 1)).run Tryz.prog W = .ok (.agg #[.bool s1, .slice A1 n1 c1]) W := fun W => by kernel_rfl
  have hix2 : ∀ W : World, (Instr.index 58 (.agg #[.bool s0, .slice A0 n0 c0, .bool s1, .slice A1 n1 c1, .bool s2, .slice A2 n2 c2]) (.int .i64 2)).run Tryz.prog W = .ok (.agg #[.bool s2, .slice A2 n2 c2]) W := fun W => by kernel_rfl
  refine wp_loop_rounds 4 ?_
  rw [rounds_succ]
  have lb0_4 := b0.lt
  have lb9_4 := b9.lt
  have lb4_4 := b4.lt
  obtain ⟨W4, hW, bi, hbW, hszW4⟩ := boxes1 W3 #[.bool s0, .slice A0 n0 c0] 28
  skip
  skip
  replace h0 := h0.below hbW
  replace h1 := h1.below hbW
  replace h2 := h2.below hbW
  replace g6 := g6.below hbW
  replace b0 := b0.below hbW
  replace b9 := b9.below hbW
  replace b4 := b4.below hbW
  replace H0 := H0.trans (hbW.mono H0.size)
  clear hbW
  have cb40 := b4.cell 0 _ rfl
  have cb41 := b4.cell 1 _ rfl
  have cbi0 := bi.cell 0 _ rfl
  have cbi1 := bi.cell 1 _ rfl
  go_wp2_with fail
  clear hW
  clear cb40 cb41 cbi0 cbi1
  refine (idivq_v h0 g6.ri HP.out (by omega)).mono ?_
  rintro e w5 ⟨s9, A9, n9, c9, s12, A12, n12, c12, rfl, g9, hb⟩
  replace h0 := h0.below hb
  replace h1 := h1.below hb
  replace h2 := h2.below hb
  replace g6 := g6.below hb
  replace b0 := b0.below hb
  replace b9 := b9.below hb
  replace b4 := b4.below hb
  replace bi := bi.below hb
  replace H0 := H0.trans (hb.mono H0.size)
  clear hb
  clear h0
  have cb00 := b0.cell 0 _ rfl
  have yb00 := b0.frozen 0
  have cb01 := b0.cell 1 _ rfl
  have yb01 := b0.frozen 1
  have cb02 := b0.cell 2 _ rfl
  have yb02 := b0.frozen 2
  have cb03 := b0.cell 3 _ rfl
  have yb03 := b0.frozen 3
  have cb04 := b0.cell 4 _ rfl
  have yb04 := b0.frozen 4
  have cb05 := b0.cell 5 _ rfl
  have yb05 := b0.frozen 5
  go_wp2_with fail
  clear cb00 yb00 cb01 yb01 cb02 yb02 cb03 yb03 cb04 yb04 cb05 yb05
  have hg : World.grownBy w5 ((w5.setCell ⟨w.heap.size, 0, none⟩ (.bool s9)).setCell ⟨w.heap.size, 1, none⟩ (.slice A9 n9 c9)) (some (w.heap.size)) := only_trans (only_setCell w5 ⟨w.heap.size, 0, none⟩ (.bool s9)) (only_setCell _ ⟨w.heap.size, 1, none⟩ (.slice A9 n9 c9))
  have hB := b0.pair0 (.bool s9) (.slice A9 n9 c9)
  generalize hX : ((w5.setCell ⟨w.heap.size, 0, none⟩ (.bool s9)).setCell ⟨w.heap.size, 1, none⟩ (.slice A9 n9 c9)) = X6 at hg hB ⊢
  clear hX
  replace h1 := h1.kept b0 (by simp [notInt]) hg
  replace h2 := h2.kept b0 (by simp [notInt]) hg
  replace g6 := g6.kept b0 (by simp [notInt]) hg
  replace g9 := g9.kept b0 (by simp [notInt]) hg
  replace b9 := b9.other hg (by omega)
  replace b4 := b4.other hg (by omega)
  replace bi := bi.other hg (by omega)
  replace b0 := hB
  replace H0 := below_only H0 hg (by omega) H0.size
  clear hg hB
  clear bi
  go_wp2_with fail
  rw [rounds_succ]
  have lb0_7 := b0.lt
  have lb9_7 := b9.lt
  have lb4_7 := b4.lt
  obtain ⟨W7, hW, bi, hbW, hszW7⟩ := boxes1 X6 #[.bool s1, .slice A1 n1 c1] 28
  skip
  skip
  replace h1 := h1.below hbW
  replace h2 := h2.below hbW
  replace g6 := g6.below hbW
  replace g9 := g9.below hbW
  replace b0 := b0.below hbW
  replace b9 := b9.below hbW
  replace b4 := b4.below hbW
  replace H0 := H0.trans (hbW.mono H0.size)
  clear hbW
  have cb40 := b4.cell 0 _ rfl
  have cb41 := b4.cell 1 _ rfl
  have cbi0 := bi.cell 0 _ rfl
  have cbi1 := bi.cell 1 _ rfl
  go_wp2_with fail
  clear hW
  clear cb40 cb41 cbi0 cbi1
  refine (idivq_v h1 g6.ri HP.out (by omega)).mono ?_
  rintro e w8 ⟨s10, A10, n10, c10, s13, A13, n13, c13, rfl, g10, hb⟩
  replace h1 := h1.below hb
  replace h2 := h2.below hb
  replace g6 := g6.below hb
  replace g9 := g9.below hb
  replace b0 := b0.below hb
  replace b9 := b9.below hb
  replace b4 := b4.below hb
  replace bi := bi.below hb
  replace H0 := H0.trans (hb.mono H0.size)
  clear hb
  clear h1
  have cb00 := b0.cell 0 _ rfl
  have yb00 := b0.frozen 0
  have cb01 := b0.cell 1 _ rfl
  have yb01 := b0.frozen 1
  have cb02 := b0.cell 2 _ rfl
  have yb02 := b0.frozen 2
  have cb03 := b0.cell 3 _ rfl
  have yb03 := b0.frozen 3
  have cb04 := b0.cell 4 _ rfl
  have yb04 := b0.frozen 4
  have cb05 := b0.cell 5 _ rfl
  have yb05 := b0.frozen 5
  go_wp2_with fail
  clear cb00 yb00 cb01 yb01 cb02 yb02 cb03 yb03 cb04 yb04 cb05 yb05
  have hg : World.grownBy w8 ((w8.setCell ⟨w.heap.size, 2, none⟩ (.bool s10)).setCell ⟨w.heap.size, 3, none⟩ (.slice A10 n10 c10)) (some (w.heap.size)) := only_trans (only_setCell w8 ⟨w.heap.size, 2, none⟩ (.bool s10)) (only_setCell _ ⟨w.heap.size, 3, none⟩ (.slice A10 n10 c10))
  have hB := b0.pair2 (.bool s10) (.slice A10 n10 c10)
  generalize hX : ((w8.setCell ⟨w.heap.size, 2, none⟩ (.bool s10)).setCell ⟨w.heap.size, 3, none⟩ (.slice A10 n10 c10)) = X9 at hg hB ⊢
  clear hX
  replace h2 := h2.kept b0 (by simp [notInt]) hg
  replace g6 := g6.kept b0 (by simp [notInt]) hg
  replace g9 := g9.kept b0 (by simp [notInt]) hg
  replace g10 := g10.kept b0 (by simp [notInt]) hg
  replace b9 := b9.other hg (by omega)
  replace b4 := b4.other hg (by omega)
  replace bi := bi.other hg (by omega)
  replace b0 := hB
  replace H0 := below_only H0 hg (by omega) H0.size
  clear hg hB
  clear bi
  go_wp2_with fail
  rw [rounds_succ]
  have lb0_10 := b0.lt
  have lb9_10 := b9.lt
  have lb4_10 := b4.lt
  obtain ⟨W10, hW, bi, hbW, hszW10⟩ := boxes1 X9 #[.bool s2, .slice A2 n2 c2] 28
  skip
  skip
  replace h2 := h2.below hbW
  replace g6 := g6.below hbW
  replace g9 := g9.below hbW
  replace g10 := g10.below hbW
  replace b0 := b0.below hbW
  replace b9 := b9.below hbW
  replace b4 := b4.below hbW
  replace H0 := H0.trans (hbW.mono H0.size)
  clear hbW
  have cb40 := b4.cell 0 _ rfl
  have cb41 := b4.cell 1 _ rfl
  have cbi0 := bi.cell 0 _ rfl
  have cbi1 := bi.cell 1 _ rfl
  go_wp2_with fail
  clear hW
  clear cb40 cb41 cbi0 cbi1
  refine (idivq_v h2 g6.ri HP.out (by omega)).mono ?_
  rintro e w11 ⟨s11, A11, n11, c11, s14, A14, n14, c14, rfl, g11, hb⟩
  replace h2 := h2.below hb
  replace g6 := g6.below hb
  replace g9 := g9.below hb
  replace g10 := g10.below hb
  replace b0 := b0.below hb
  replace b9 := b9.below hb
  replace b4 := b4.below hb
  replace bi := bi.below hb
  replace H0 := H0.trans (hb.mono H0.size)
  clear hb
  clear h2
  have cb00 := b0.cell 0 _ rfl
  have yb00 := b0.frozen 0
  have cb01 := b0.cell 1 _ rfl
  have yb01 := b0.frozen 1
  have cb02 := b0.cell 2 _ rfl
  have yb02 := b0.frozen 2
  have cb03 := b0.cell 3 _ rfl
  have yb03 := b0.frozen 3
  have cb04 := b0.cell 4 _ rfl
  have yb04 := b0.frozen 4
  have cb05 := b0.cell 5 _ rfl
  have yb05 := b0.frozen 5
  go_wp2_with fail
  clear cb00 yb00 cb01 yb01 cb02 yb02 cb03 yb03 cb04 yb04 cb05 yb05
  have hg : World.grownBy w11 ((w11.setCell ⟨w.heap.size, 4, none⟩ (.bool s11)).setCell ⟨w.heap.size, 5, none⟩ (.slice A11 n11 c11)) (some (w.heap.size)) := only_trans (only_setCell w11 ⟨w.heap.size, 4, none⟩ (.bool s11)) (only_setCell _ ⟨w.heap.size, 5, none⟩ (.slice A11 n11 c11))
  have hB := b0.pair4 (.bool s11) (.slice A11 n11 c11)
  generalize hX : ((w11.setCell ⟨w.heap.size, 4, none⟩ (.bool s11)).setCell ⟨w.heap.size, 5, none⟩ (.slice A11 n11 c11)) = X12 at hg hB ⊢
  clear hX
  replace g6 := g6.kept b0 (by simp [notInt]) hg
  replace g9 := g9.kept b0 (by simp [notInt]) hg
  replace g10 := g10.kept b0 (by simp [notInt]) hg
  replace g11 := g11.kept b0 (by simp [notInt]) hg
  replace b9 := b9.other hg (by omega)
  replace b4 := b4.other hg (by omega)
  replace bi := bi.other hg (by omega)
  replace b0 := hB
  replace H0 := below_only H0 hg (by omega) H0.size
  clear hg hB
  clear bi
  go_wp2_with fail
  rw [rounds_succ]
  have cb00 := b0.cell 0 _ rfl
  have cb01 := b0.cell 1 _ rfl
  have cb02 := b0.cell 2 _ rfl
  have cb03 := b0.cell 3 _ rfl
  have cb04 := b0.cell 4 _ rfl
  have cb05 := b0.cell 5 _ rfl
  go_wp2_with fail
  clear g6
  clear b4
  clear cb00 cb01 cb02 cb03 cb04 cb05
  refine (lline_v g9.ri g10.ri g11.ri (by omega)).mono ?_
  rintro e w13 ⟨s3, A3, n3, c3, s4, A4, n4, c4, s5, A5, n5, c5, rfl, g3, g4, g5, hb⟩
  replace g9 := g9.below hb
  replace g10 := g10.below hb
  replace g11 := g11.below hb
  replace b0 := b0.below hb
  replace b9 := b9.below hb
  replace H0 := H0.trans (hb.mono H0.size)
  clear hb
  clear g9
  clear g10
  clear g11
  have cb90 := b9.cell 0 _ rfl
  have yb90 := b9.frozen 0
  have cb91 := b9.cell 1 _ rfl
  have yb91 := b9.frozen 1
  have cb92 := b9.cell 2 _ rfl
  have yb92 := b9.frozen 2
  have cb93 := b9.cell 3 _ rfl
  have yb93 := b9.frozen 3
  have cb94 := b9.cell 4 _ rfl
  have yb94 := b9.frozen 4
  have cb95 := b9.cell 5 _ rfl
  have yb95 := b9.frozen 5
  go_wp2_with fail
  clear cb90 yb90 cb91 yb91 cb92 yb92 cb93 yb93 cb94 yb94 cb95 yb95
  have hg := only_store6 w13 (w.heap.size + 1) (.bool s3) (.slice A3 n3 c3) (.bool s4) (.slice A4 n4 c4) (.bool s5) (.slice A5 n5 c5)
  have hB := b9.stored6 (.bool s3) (.slice A3 n3 c3) (.bool s4) (.slice A4 n4 c4) (.bool s5) (.slice A5 n5 c5)
  generalize hX : ((((((w13.setCell ⟨w.heap.size + 1, 0, none⟩ (.bool s3)).setCell ⟨w.heap.size + 1, 1, none⟩ (.slice A3 n3 c3)).setCell ⟨w.heap.size + 1, 2, none⟩ (.bool s4)).setCell ⟨w.heap.size + 1, 3, none⟩ (.slice A4 n4 c4)).setCell ⟨w.heap.size + 1, 4, none⟩ (.bool s5)).setCell ⟨w.heap.size + 1, 5, none⟩ (.slice A5 n5 c5)) = X14 at hg hB ⊢
  clear hX
  replace g3 := g3.kept b9 (by simp [notInt]) hg
  replace g4 := g4.kept b9 (by simp [notInt]) hg
  replace g5 := g5.kept b9 (by simp [notInt]) hg
  replace b0 := b0.other hg (by omega)
  replace b9 := hB
  replace H0 := below_only H0 hg (by omega) H0.size
  clear hg hB
  refine bodyPost_ret (ret_linep_b rfl rfl b9) rfl ?_
  exact ⟨_, _, _, _, _, _, _, _, _, _, _, _, rfl, g3.more (by omega), g4.more (by omega), g5.more (by omega), H0⟩
set_option maxRecDepth 100000 in
set_option maxHeartbeats 4000000 in
theorem lprim_z (h0 : RI w s0 (.slice A0 n0 c0) z0 L) (h1 : RI w s1 (.slice A1 n1 c1) z1 L) (hz : z0 = 0 ∧ z1 = 0) :
    Calls Tryz.prog 56 #[.agg #[.bool s0, .slice A0 n0 c0, .bool s1, .slice A1 n1 c1, .bool s2, .slice A2 n2 c2]] w fun e w' => e = .returned (.tuple #[.agg #[.bool false, .slice none 0 0, .bool false, .slice none 0 0, .bool false, .slice none 0 0], .bool false]) ∧ Below w.heap.size w w' := by
  have HK : Hid ((decide (z0 = 0) && decide (z1 = 0)) = true) := Lib.hid (by rw [hz.1, hz.2]; rfl)
  clear hz
  go_enter Tryz.func56, Tryz.ntmps56
  go_wp2_with fail
  obtain ⟨W0, hW, b0, b9, hbW, hszW0⟩ := boxes2 w #[.bool s0, .slice A0 n0 c0, .bool s1, .slice A1 n1 c1, .bool s2, .slice A2 n2 c2] #[.bool false, .slice none 0 0, .bool false, .slice none 0 0, .bool false, .slice none 0 0] 58 30
  rw [hW]
  clear hW
  replace h0 := h0.below hbW
  replace h1 := h1.below hbW
  have H0 := hbW
  clear hbW
  have cb00 := b0.cell 0 _ rfl
  have cb01 := b0.cell 1 _ rfl
  have cb02 := b0.cell 2 _ rfl
  have cb03 := b0.cell 3 _ rfl
  have cb04 := b0.cell 4 _ rfl
  have cb05 := b0.cell 5 _ rfl
  go_wp2_with fail
  clear cb00 cb01 cb02 cb03 cb04 cb05
  refine (ldegen_v h0 h1 HK.out).mono ?_
  rintro e w1 ⟨rfl, hb⟩
  replace h0 := h0.below hb
  replace h1 := h1.below hb
  replace b0 := b0.below hb
  replace b9 := b9.below hb
  replace H0 := H0.trans (hb.mono H0.size)
  clear hb
  have cb90 := b9.cell 0 _ rfl
  have yb90 := b9.frozen 0
  have cb91 := b9.cell 1 _ rfl
  have yb91 := b9.frozen 1
  have cb92 := b9.cell 2 _ rfl
  have yb92 := b9.frozen 2
  have cb93 := b9.cell 3 _ rfl
  have yb93 := b9.frozen 3
  have cb94 := b9.cell 4 _ rfl
  have yb94 := b9.frozen 4
  have cb95 := b9.cell 5 _ rfl
  have yb95 := b9.frozen 5
  go_wp2_with fail
  clear cb90 yb90 cb91 yb91 cb92 yb92 cb93 yb93 cb94 yb94 cb95 yb95
  have hg := only_store6 w1 (w.heap.size + 1) (.bool false) (.slice none 0 0) (.bool false) (.slice none 0 0) (.bool false) (.slice none 0 0)
  have hB := b9.stored6 (.bool false) (.slice none 0 0) (.bool false) (.slice none 0 0) (.bool false) (.slice none 0 0)
  generalize hX : ((((((w1.setCell ⟨w.heap.size + 1, 0, none⟩ (.bool false)).setCell ⟨w.heap.size + 1, 1, none⟩ (.slice none 0 0)).setCell ⟨w.heap.size + 1, 2, none⟩ (.bool false)).setCell ⟨w.heap.size + 1, 3, none⟩ (.slice none 0 0)).setCell ⟨w.heap.size + 1, 4, none⟩ (.bool false)).setCell ⟨w.heap.size + 1, 5, none⟩ (.slice none 0 0)) = X2 at hg hB ⊢
  clear hX
  replace h0 := h0.kept b9 (by simp [notInt]) hg
  replace h1 := h1.kept b9 (by simp [notInt]) hg
  replace b0 := b0.other hg (by omega)
  replace b9 := hB
  replace H0 := below_only H0 hg (by omega) H0.size
  clear hg hB
  refine bodyPost_ret (ret_linep_b rfl rfl b9) rfl ?_
  exact ⟨rfl, H0⟩
end
end Go.Proofs.YtfonldogbfkpiaaGreat
