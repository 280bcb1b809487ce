/-
  The inner contracts of package line: products, fractions, quotients.
-/
import Derived.Test.YtfonldogbfkpiaaGreatLnA
import Derived.Test.YtfonldogbfkpiaaGreatRatC
import Derived.Test.YtfonldogbfkpiaaGreatRatR
import Derived.Test.YtfonldogbfkpiaaGreatPtM
namespace Go.Proofs.YtfonldogbfkpiaaGreat
open Go.RowKit

section
variable {A0 A1 A2 A3 A4 A5 A6 A7 A8 A9 A10 A11 A12 A13 A14 A15 A16 A17 A18 A19 A20 A21 A22 A23 D0 D1 D2 D3 D4 D5 D6 D7 D8 D9 D10 D11 D12 D13 D14 D15 D16 D17 D18 D19 D20 D21 D22 D23 : Option Addr} {n0 n1 n2 n3 n4 n5 n6 n7 n8 n9 n10 n11 n12 n13 n14 n15 n16 n17 n18 n19 n20 n21 n22 n23 c0 c1 c2 c3 c4 c5 c6 c7 c8 c9 c10 c11 c12 c13 c14 c15 c16 c17 c18 c19 c20 c21 c22 c23 m0 m1 m2 m3 m4 m5 m6 m7 m8 m9 m10 m11 m12 m13 m14 m15 m16 m17 m18 m19 m20 m21 m22 m23 e0 e1 e2 e3 e4 e5 e6 e7 e8 e9 e10 e11 e12 e13 e14 e15 e16 e17 e18 e19 e20 e21 e22 e23 : Nat} {s0 s1 s2 s3 s4 s5 s6 s7 s8 s9 s10 s11 s12 s13 s14 s15 s16 s17 s18 s19 s20 s21 s22 s23 : Bool} {q0 q1 q2 q3 q4 q5 q6 q7 : Rat} {z0 z1 z2 z3 z4 z5 z6 z7 z8 z9 z10 z11 : Int} {L L0 L1 x y : Nat} {k : Int} {b : Bool} {w : World}
set_option maxRecDepth 100000 in
set_option maxHeartbeats 4000000 in
theorem ldot_v (h0 : RI w s0 (.slice A0 n0 c0) z0 L) (h1 : RI w s1 (.slice A1 n1 c1) z1 L) (h2 : RI w s2 (.slice A2 n2 c2) z2 L) (h3 : RI w s3 (.slice A3 n3 c3) z3 L) (h4 : RI w s4 (.slice A4 n4 c4) z4 L) (h5 : RI w s5 (.slice A5 n5 c5) z5 L) (hL : L ≤ 100000) :
    Calls Tryz.prog 59 #[.agg #[.bool s0, .slice A0 n0 c0, .bool s1, .slice A1 n1 c1, .bool s2, .slice A2 n2 c2], .agg #[.bool s3, .slice A3 n3 c3, .bool s4, .slice A4 n4 c4, .bool s5, .slice A5 n5 c5]] w fun e w' => ∃ s10 A10 n10 c10, e = .returned (.agg #[.bool s10, .slice A10 n10 c10]) ∧ NI w' s10 (.slice A10 n10 c10) (z0 * z3 + z1 * z4 + z2 * z5) (2 * L + 2) ∧ Below w.heap.size w w' := by
  go_enter Tryz.func59, Tryz.ntmps59
  go_wp2_with fail
  obtain ⟨W0, hW, b0, b1, b9, hbW, hszW0⟩ := boxes3 w #[.bool s0, .slice A0 n0 c0, .bool s1, .slice A1 n1 c1, .bool s2, .slice A2 n2 c2] #[.bool s3, .slice A3 n3 c3, .bool s4, .slice A4 n4 c4, .bool s5, .slice A5 n5 c5] #[.bool false, .slice none 0 0] 58 100 28
  rw [hW]
  clear hW
  replace h0 := h0.below hbW
  replace h1 := h1.below hbW
  replace h2 := h2.below hbW
  replace h3 := h3.below hbW
  replace h4 := h4.below hbW
  replace h5 := h5.below hbW
  have H0 := hbW
  clear hbW
  have cb00 := b0.cell 0 _ rfl
  have cb01 := b0.cell 1 _ rfl
  have cb02 := b0.cell 2 _ rfl
  have cb03 := b0.cell 3 _ rfl
  have cb04 := b0.cell 4 _ rfl
  have cb05 := b0.cell 5 _ rfl
  have cb10 := b1.cell 0 _ rfl
  have cb11 := b1.cell 1 _ rfl
  have cb12 := b1.cell 2 _ rfl
  have cb13 := b1.cell 3 _ rfl
  have cb14 := b1.cell 4 _ rfl
  have cb15 := b1.cell 5 _ rfl
  go_wp2_with fail
  clear cb00 cb01 cb02 cb03 cb04 cb05 cb10 cb11 cb12 cb13 cb14 cb15
  refine (imul_v h0 h3 (by omega) (by omega)).mono ?_
  rintro e w1 ⟨s6, A6, n6, c6, rfl, g6, hb⟩
  replace h0 := h0.below hb
  replace h1 := h1.below hb
  replace h2 := h2.below hb
  replace h3 := h3.below hb
  replace h4 := h4.below hb
  replace h5 := h5.below hb
  replace b0 := b0.below hb
  replace b1 := b1.below hb
  replace b9 := b9.below hb
  replace H0 := H0.trans (hb.mono H0.size)
  clear hb
  have lb0_2 := b0.lt
  have lb1_2 := b1.lt
  have lb9_2 := b9.lt
  obtain ⟨W2, hW, b5, hbW, hszW2⟩ := boxes1 w1 #[.bool s6, .slice A6 n6 c6] 28
  skip
  skip
  replace h0 := h0.below hbW
  replace h1 := h1.below hbW
  replace h2 := h2.below hbW
  replace h3 := h3.below hbW
  replace h4 := h4.below hbW
  replace h5 := h5.below hbW
  replace g6 := g6.below hbW
  replace b0 := b0.below hbW
  replace b1 := b1.below hbW
  replace b9 := b9.below hbW
  replace H0 := H0.trans (hbW.mono H0.size)
  clear hbW
  have cb00 := b0.cell 0 _ rfl
  have cb01 := b0.cell 1 _ rfl
  have cb02 := b0.cell 2 _ rfl
  have cb03 := b0.cell 3 _ rfl
  have cb04 := b0.cell 4 _ rfl
  have cb05 := b0.cell 5 _ rfl
  have cb10 := b1.cell 0 _ rfl
  have cb11 := b1.cell 1 _ rfl
  have cb12 := b1.cell 2 _ rfl
  have cb13 := b1.cell 3 _ rfl
  have cb14 := b1.cell 4 _ rfl
  have cb15 := b1.cell 5 _ rfl
  have cb50 := b5.cell 0 _ rfl
  have cb51 := b5.cell 1 _ rfl
  go_wp2_with fail
  clear hW
  clear cb00 cb01 cb02 cb03 cb04 cb05 cb10 cb11 cb12 cb13 cb14 cb15 cb50 cb51
  refine wp_loop_rounds 3 ?_
  rw [rounds_succ]
  have cb00 := b0.cell 0 _ rfl
  have cb01 := b0.cell 1 _ rfl
  have cb02 := b0.cell 2 _ rfl
  have cb03 := b0.cell 3 _ rfl
  have cb04 := b0.cell 4 _ rfl
  have cb05 := b0.cell 5 _ rfl
  have cb10 := b1.cell 0 _ rfl
  have cb11 := b1.cell 1 _ rfl
  have cb12 := b1.cell 2 _ rfl
  have cb13 := b1.cell 3 _ rfl
  have cb14 := b1.cell 4 _ rfl
  have cb15 := b1.cell 5 _ rfl
  have cb50 := b5.cell 0 _ rfl
  have cb51 := b5.cell 1 _ rfl
  go_wp2_with fail
  clear cb00 cb01 cb02 cb03 cb04 cb05 cb10 cb11 cb12 cb13 cb14 cb15 cb50 cb51
  have hD := drawn_below W2
  replace h0 := h0.below hD
  replace h1 := h1.below hD
  replace h2 := h2.below hD
  replace h3 := h3.below hD
  replace h4 := h4.below hD
  replace h5 := h5.below hD
  replace g6 := g6.below hD
  replace b0 := b0.below hD
  replace b1 := b1.below hD
  replace b9 := b9.below hD
  replace b5 := b5.below hD
  replace H0 := H0.trans (hD.mono H0.size)
  clear hD
  refine wp_region_noPanic ?_
  refine wp_region_F (S := (fun V => V.cell? ⟨w.heap.size, 0, none⟩ = some (.bool s0) ∧ V.cell? ⟨w.heap.size, 1, none⟩ = some (.slice A0 n0 c0) ∧ V.cell? ⟨w.heap.size, 2, none⟩ = some (.bool s1) ∧ V.cell? ⟨w.heap.size, 3, none⟩ = some (.slice A1 n1 c1) ∧ V.cell? ⟨w.heap.size, 4, none⟩ = some (.bool s2) ∧ V.cell? ⟨w.heap.size, 5, none⟩ = some (.slice A2 n2 c2) ∧ V.cell? ⟨w.heap.size + 1, 0, none⟩ = some (.bool s3) ∧ V.cell? ⟨w.heap.size + 1, 1, none⟩ = some (.slice A3 n3 c3) ∧ V.cell? ⟨w.heap.size + 1, 2, none⟩ = some (.bool s4) ∧ V.cell? ⟨w.heap.size + 1, 3, none⟩ = some (.slice A4 n4 c4) ∧ V.cell? ⟨w.heap.size + 1, 4, none⟩ = some (.bool s5) ∧ V.cell? ⟨w.heap.size + 1, 5, none⟩ = some (.slice A5 n5 c5) ∧ V.cell? ⟨w1.heap.size, 0, none⟩ = some (.bool s6) ∧ V.cell? ⟨w1.heap.size, 1, none⟩ = some (.slice A6 n6 c6))) (F := (fun j => j == 9)) (by kernel_rfl) ?_
  generalize W2.drew = v3 at H0 h0 h1 h2 h3 h4 h5 g6 b0 b1 b9 b5 ⊢
  refine wpAnyF_take (i := 0) (v := ?_) (fun j => j == 8 || j == 9) rfl (by kernel_rfl) (by kernel_rfl) (by kernel_rfl) (by kernel_rfl) (fun j hj => by have h6 : 10 ≤ j := hj; simp; omega) (fun _ _ _ h => h) (Or.inl ⟨by rfl, ?_⟩) ⟨b0.cell 0 _ rfl, b0.cell 1 _ rfl, b0.cell 2 _ rfl, b0.cell 3 _ rfl, b0.cell 4 _ rfl, b0.cell 5 _ rfl, b1.cell 0 _ rfl, b1.cell 1 _ rfl, b1.cell 2 _ rfl, b1.cell 3 _ rfl, b1.cell 4 _ rfl, b1.cell 5 _ rfl, b5.cell 0 _ rfl, b5.cell 1 _ rfl⟩ ?_
  rotate_left
  · (intro w hSw; (try dsimp only at hSw); go_simp; (try with_reducible rfl))
  (try simp only [List.getElem_toArray, List.getElem_cons_zero, Act.put, List.setIfInBounds_toArray, List.set_cons_zero, List.set_cons_succ])
  refine wpAnyF_take (i := 1) (v := ?_) (fun j => j == 2 || j == 3 || j == 7 || j == 8 || j == 9) rfl (by kernel_rfl) (by kernel_rfl) (by kernel_rfl) (by kernel_rfl) (fun j hj => by have h6 : 10 ≤ j := hj; simp; omega) (fun _ _ _ h => h) (Or.inl ⟨by rfl, ?_⟩) ⟨b0.cell 0 _ rfl, b0.cell 1 _ rfl, b0.cell 2 _ rfl, b0.cell 3 _ rfl, b0.cell 4 _ rfl, b0.cell 5 _ rfl, b1.cell 0 _ rfl, b1.cell 1 _ rfl, b1.cell 2 _ rfl, b1.cell 3 _ rfl, b1.cell 4 _ rfl, b1.cell 5 _ rfl, b5.cell 0 _ rfl, b5.cell 1 _ rfl⟩ ?_
  rotate_left
  · (intro w hSw; (try dsimp only at hSw); go_simp; (try with_reducible rfl))
  (try simp only [List.getElem_toArray, List.getElem_cons_succ, List.getElem_cons_zero, Act.put, List.setIfInBounds_toArray, List.set_cons_zero, List.set_cons_succ])
  refine wpAnyF_take (i := 4) (v := ?_) (fun j => j == 5 || j == 6 || j == 7 || j == 8 || j == 9) rfl (by kernel_rfl) (by kernel_rfl) (by kernel_rfl) (by kernel_rfl) (fun j hj => by have h6 : 10 ≤ j := hj; simp; omega) (fun _ _ _ h => h) (Or.inl ⟨by rfl, ?_⟩) ⟨b0.cell 0 _ rfl, b0.cell 1 _ rfl, b0.cell 2 _ rfl, b0.cell 3 _ rfl, b0.cell 4 _ rfl, b0.cell 5 _ rfl, b1.cell 0 _ rfl, b1.cell 1 _ rfl, b1.cell 2 _ rfl, b1.cell 3 _ rfl, b1.cell 4 _ rfl, b1.cell 5 _ rfl, b5.cell 0 _ rfl, b5.cell 1 _ rfl⟩ ?_
  rotate_left
  · (intro w hSw; (try dsimp only at hSw); go_simp; (try with_reducible rfl))
  (try simp only [List.getElem_toArray, List.getElem_cons_succ, List.getElem_cons_zero, Act.put, List.setIfInBounds_toArray, List.set_cons_zero, List.set_cons_succ])
  refine wpAnyF_take (i := 2) (v := ?_) (fun j => j == 3 || j == 7 || j == 8 || j == 9) rfl (by kernel_rfl) (by kernel_rfl) (by kernel_rfl) (by kernel_rfl) (fun j hj => by have h6 : 10 ≤ j := hj; simp; omega) (fun _ _ _ h => h) (Or.inl ⟨by rfl, ?_⟩) ⟨b0.cell 0 _ rfl, b0.cell 1 _ rfl, b0.cell 2 _ rfl, b0.cell 3 _ rfl, b0.cell 4 _ rfl, b0.cell 5 _ rfl, b1.cell 0 _ rfl, b1.cell 1 _ rfl, b1.cell 2 _ rfl, b1.cell 3 _ rfl, b1.cell 4 _ rfl, b1.cell 5 _ rfl, b5.cell 0 _ rfl, b5.cell 1 _ rfl⟩ ?_
  rotate_left
  · (intro w hSw; (try dsimp only at hSw); go_simp; (try with_reducible rfl))
  (try simp only [List.getElem_toArray, List.getElem_cons_succ, List.getElem_cons_zero, Act.put, List.setIfInBounds_toArray, List.set_cons_zero, List.set_cons_succ])
  refine wpAnyF_take (i := 5) (v := ?_) (fun j => j == 6 || j == 7 || j == 8 || j == 9) rfl (by kernel_rfl) (by kernel_rfl) (by kernel_rfl) (by kernel_rfl) (fun j hj => by have h6 : 10 ≤ j := hj; simp; omega) (fun _ _ _ h => h) (Or.inl ⟨by rfl, ?_⟩) ⟨b0.cell 0 _ rfl, b0.cell 1 _ rfl, b0.cell 2 _ rfl, b0.cell 3 _ rfl, b0.cell 4 _ rfl, b0.cell 5 _ rfl, b1.cell 0 _ rfl, b1.cell 1 _ rfl, b1.cell 2 _ rfl, b1.cell 3 _ rfl, b1.cell 4 _ rfl, b1.cell 5 _ rfl, b5.cell 0 _ rfl, b5.cell 1 _ rfl⟩ ?_
  rotate_left
  · (intro w hSw; (try dsimp only at hSw); go_simp; (try with_reducible rfl))
  (try simp only [List.getElem_toArray, List.getElem_cons_succ, List.getElem_cons_zero, Act.put, List.setIfInBounds_toArray, List.set_cons_zero, List.set_cons_succ])
  refine wpAnyF_take (i := 3) (v := ?_) (fun j => j == 7 || j == 8 || j == 9) rfl (by kernel_rfl) (by kernel_rfl) (by kernel_rfl) (by kernel_rfl) (fun j hj => by have h6 : 10 ≤ j := hj; simp; omega) (fun _ _ _ h => h) (Or.inl ⟨by rfl, ?_⟩) ⟨b0.cell 0 _ rfl, b0.cell 1 _ rfl, b0.cell 2 _ rfl, b0.cell 3 _ rfl, b0.cell 4 _ rfl, b0.cell 5 _ rfl, b1.cell 0 _ rfl, b1.cell 1 _ rfl, b1.cell 2 _ rfl, b1.cell 3 _ rfl, b1.cell 4 _ rfl, b1.cell 5 _ rfl, b5.cell 0 _ rfl, b5.cell 1 _ rfl⟩ ?_
  rotate_left
  · (intro w hSw; (try dsimp only at hSw); go_simp; (try with_reducible rfl))
  (try simp only [List.getElem_toArray, List.getElem_cons_succ, List.getElem_cons_zero, Act.put, List.setIfInBounds_toArray, List.set_cons_zero, List.set_cons_succ])
  refine wpAnyF_take (i := 6) (v := ?_) (fun j => j == 7 || j == 8 || j == 9) rfl (by kernel_rfl) (by kernel_rfl) (by kernel_rfl) (by kernel_rfl) (fun j hj => by have h6 : 10 ≤ j := hj; simp; omega) (fun _ _ _ h => h) (Or.inl ⟨by rfl, ?_⟩) ⟨b0.cell 0 _ rfl, b0.cell 1 _ rfl, b0.cell 2 _ rfl, b0.cell 3 _ rfl, b0.cell 4 _ rfl, b0.cell 5 _ rfl, b1.cell 0 _ rfl, b1.cell 1 _ rfl, b1.cell 2 _ rfl, b1.cell 3 _ rfl, b1.cell 4 _ rfl, b1.cell 5 _ rfl, b5.cell 0 _ rfl, b5.cell 1 _ rfl⟩ ?_
  rotate_left
  · (intro w hSw; (try dsimp only at hSw); go_simp; (try with_reducible rfl))
  (try simp only [List.getElem_toArray, List.getElem_cons_succ, List.getElem_cons_zero, Act.put, List.setIfInBounds_toArray, List.set_cons_zero, List.set_cons_succ])
  refine wpAnyF_one (i := 7) (by kernel_rfl) rfl rfl (fun K hK => ?_)
  go_simp
  go_at_call 92
  refine (imul_v h1 h4 (by omega) (by omega)).mono ?_
  rintro e w4 ⟨s7, A7, n7, c7, rfl, g7, hb⟩
  replace h0 := h0.below hb
  replace h1 := h1.below hb
  replace h2 := h2.below hb
  replace h3 := h3.below hb
  replace h4 := h4.below hb
  replace h5 := h5.below hb
  replace g6 := g6.below hb
  replace b0 := b0.below hb
  replace b1 := b1.below hb
  replace b9 := b9.below hb
  replace b5 := b5.below hb
  replace H0 := H0.trans (hb.mono H0.size)
  clear hb
  go_wp2_with fail
  refine hK.out _ _ ⟨b0.cell 0 _ rfl, b0.cell 1 _ rfl, b0.cell 2 _ rfl, b0.cell 3 _ rfl, b0.cell 4 _ rfl, b0.cell 5 _ rfl, b1.cell 0 _ rfl, b1.cell 1 _ rfl, b1.cell 2 _ rfl, b1.cell 3 _ rfl, b1.cell 4 _ rfl, b1.cell 5 _ rfl, b5.cell 0 _ rfl, b5.cell 1 _ rfl⟩ ?_
  clear hK K
  (try simp only [List.getElem_toArray, List.getElem_cons_succ, List.getElem_cons_zero, Act.put, List.setIfInBounds_toArray, List.set_cons_zero, List.set_cons_succ])
  refine wpAnyF_one (i := 8) (by kernel_rfl) rfl rfl (fun K hK => ?_)
  go_simp
  go_at_call 95
  refine (iadd_v g6.ri g7.ri (by omega) (by omega)).mono ?_
  rintro e w5 ⟨s8, A8, n8, c8, rfl, g8, hb⟩
  replace h0 := h0.below hb
  replace h1 := h1.below hb
  replace h2 := h2.below hb
  replace h3 := h3.below hb
  replace h4 := h4.below hb
  replace h5 := h5.below hb
  replace g6 := g6.below hb
  replace g7 := g7.below hb
  replace b0 := b0.below hb
  replace b1 := b1.below hb
  replace b9 := b9.below hb
  replace b5 := b5.below hb
  replace H0 := H0.trans (hb.mono H0.size)
  clear hb
  clear g6
  clear g7
  go_wp2_with fail
  refine hK.out _ _ ⟨b0.cell 0 _ rfl, b0.cell 1 _ rfl, b0.cell 2 _ rfl, b0.cell 3 _ rfl, b0.cell 4 _ rfl, b0.cell 5 _ rfl, b1.cell 0 _ rfl, b1.cell 1 _ rfl, b1.cell 2 _ rfl, b1.cell 3 _ rfl, b1.cell 4 _ rfl, b1.cell 5 _ rfl, b5.cell 0 _ rfl, b5.cell 1 _ rfl⟩ ?_
  clear hK K
  (try simp only [List.getElem_toArray, List.getElem_cons_succ, List.getElem_cons_zero, Act.put, List.setIfInBounds_toArray, List.set_cons_zero, List.set_cons_succ])
  have cb50 := b5.cell 0 _ rfl
  have yb50 := b5.frozen 0
  have cb51 := b5.cell 1 _ rfl
  have yb51 := b5.frozen 1
  refine wpAnyF_last (i := 9) (by kernel_rfl) rfl rfl (fun K hK => ?_)
  go_simp
  refine hK.out _ _ ?_
  clear hK K
  (try simp only [List.getElem_toArray, List.getElem_cons_succ, List.getElem_cons_zero, Act.put, List.setIfInBounds_toArray, List.set_cons_zero, List.set_cons_succ])
  clear cb50 yb50 cb51 yb51
  have hg := only_store w5 (w1.heap.size) (.bool s8) (.slice A8 n8 c8)
  have hB := b5.stored (.bool s8) (.slice A8 n8 c8)
  generalize hX : ((w5.setCell ⟨w1.heap.size, 0, none⟩ (.bool s8)).setCell ⟨w1.heap.size, 1, none⟩ (.slice A8 n8 c8)) = X6 at hg hB ⊢
  clear hX
  replace h0 := h0.kept b5 (by simp [notInt]) hg
  replace h1 := h1.kept b5 (by simp [notInt]) hg
  replace h2 := h2.kept b5 (by simp [notInt]) hg
  replace h3 := h3.kept b5 (by simp [notInt]) hg
  replace h4 := h4.kept b5 (by simp [notInt]) hg
  replace h5 := h5.kept b5 (by simp [notInt]) hg
  replace g8 := g8.kept b5 (by simp [notInt]) hg
  replace b0 := b0.other hg (by omega)
  replace b1 := b1.other hg (by omega)
  replace b9 := b9.other hg (by omega)
  replace b5 := hB
  replace H0 := below_only H0 hg (by omega) H0.size
  clear hg hB
  refine wpAny_done (by kernel_rfl) ?_ _
  refine NoPanic.normal ?_
  go_wp2_with fail
  rw [rounds_succ]
  have cb00 := b0.cell 0 _ rfl
  have cb01 := b0.cell 1 _ rfl
  have cb02 := b0.cell 2 _ rfl
  have cb03 := b0.cell 3 _ rfl
  have cb04 := b0.cell 4 _ rfl
  have cb05 := b0.cell 5 _ rfl
  have cb10 := b1.cell 0 _ rfl
  have cb11 := b1.cell 1 _ rfl
  have cb12 := b1.cell 2 _ rfl
  have cb13 := b1.cell 3 _ rfl
  have cb14 := b1.cell 4 _ rfl
  have cb15 := b1.cell 5 _ rfl
  have cb50 := b5.cell 0 _ rfl
  have cb51 := b5.cell 1 _ rfl
  go_wp2_with fail
  clear cb00 cb01 cb02 cb03 cb04 cb05 cb10 cb11 cb12 cb13 cb14 cb15 cb50 cb51
  have hD := drawn_below X6
  replace h0 := h0.below hD
  replace h1 := h1.below hD
  replace h2 := h2.below hD
  replace h3 := h3.below hD
  replace h4 := h4.below hD
  replace h5 := h5.below hD
  replace g8 := g8.below hD
  replace b0 := b0.below hD
  replace b1 := b1.below hD
  replace b9 := b9.below hD
  replace b5 := b5.below hD
  replace H0 := H0.trans (hD.mono H0.size)
  clear hD
  refine wp_region_noPanic ?_
  refine wp_region_F (S := (fun V => V.cell? ⟨w.heap.size, 0, none⟩ = some (.bool s0) ∧ V.cell? ⟨w.heap.size, 1, none⟩ = some (.slice A0 n0 c0) ∧ V.cell? ⟨w.heap.size, 2, none⟩ = some (.bool s1) ∧ V.cell? ⟨w.heap.size, 3, none⟩ = some (.slice A1 n1 c1) ∧ V.cell? ⟨w.heap.size, 4, none⟩ = some (.bool s2) ∧ V.cell? ⟨w.heap.size, 5, none⟩ = some (.slice A2 n2 c2) ∧ V.cell? ⟨w.heap.size + 1, 0, none⟩ = some (.bool s3) ∧ V.cell? ⟨w.heap.size + 1, 1, none⟩ = some (.slice A3 n3 c3) ∧ V.cell? ⟨w.heap.size + 1, 2, none⟩ = some (.bool s4) ∧ V.cell? ⟨w.heap.size + 1, 3, none⟩ = some (.slice A4 n4 c4) ∧ V.cell? ⟨w.heap.size + 1, 4, none⟩ = some (.bool s5) ∧ V.cell? ⟨w.heap.size + 1, 5, none⟩ = some (.slice A5 n5 c5) ∧ V.cell? ⟨w1.heap.size, 0, none⟩ = some (.bool s8) ∧ V.cell? ⟨w1.heap.size, 1, none⟩ = some (.slice A8 n8 c8))) (F := (fun j => j == 9)) (by kernel_rfl) ?_
  generalize X6.drew = v7 at H0 h0 h1 h2 h3 h4 h5 g8 b0 b1 b9 b5 ⊢
  refine wpAnyF_take (i := 0) (v := ?_) (fun j => j == 8 || j == 9) rfl (by kernel_rfl) (by kernel_rfl) (by kernel_rfl) (by kernel_rfl) (fun j hj => by have h6 : 10 ≤ j := hj; simp; omega) (fun _ _ _ h => h) (Or.inl ⟨by rfl, ?_⟩) ⟨b0.cell 0 _ rfl, b0.cell 1 _ rfl, b0.cell 2 _ rfl, b0.cell 3 _ rfl, b0.cell 4 _ rfl, b0.cell 5 _ rfl, b1.cell 0 _ rfl, b1.cell 1 _ rfl, b1.cell 2 _ rfl, b1.cell 3 _ rfl, b1.cell 4 _ rfl, b1.cell 5 _ rfl, b5.cell 0 _ rfl, b5.cell 1 _ rfl⟩ ?_
  rotate_left
  · (intro w hSw; (try dsimp only at hSw); go_simp; (try with_reducible rfl))
  (try simp only [List.getElem_toArray, List.getElem_cons_zero, Act.put, List.setIfInBounds_toArray, List.set_cons_zero, List.set_cons_succ])
  refine wpAnyF_take (i := 1) (v := ?_) (fun j => j == 2 || j == 3 || j == 7 || j == 8 || j == 9) rfl (by kernel_rfl) (by kernel_rfl) (by kernel_rfl) (by kernel_rfl) (fun j hj => by have h6 : 10 ≤ j := hj; simp; omega) (fun _ _ _ h => h) (Or.inl ⟨by rfl, ?_⟩) ⟨b0.cell 0 _ rfl, b0.cell 1 _ rfl, b0.cell 2 _ rfl, b0.cell 3 _ rfl, b0.cell 4 _ rfl, b0.cell 5 _ rfl, b1.cell 0 _ rfl, b1.cell 1 _ rfl, b1.cell 2 _ rfl, b1.cell 3 _ rfl, b1.cell 4 _ rfl, b1.cell 5 _ rfl, b5.cell 0 _ rfl, b5.cell 1 _ rfl⟩ ?_
  rotate_left
  · (intro w hSw; (try dsimp only at hSw); go_simp; (try with_reducible rfl))
  (try simp only [List.getElem_toArray, List.getElem_cons_succ, List.getElem_cons_zero, Act.put, List.setIfInBounds_toArray, List.set_cons_zero, List.set_cons_succ])
  refine wpAnyF_take (i := 4) (v := ?_) (fun j => j == 5 || j == 6 || j == 7 || j == 8 || j == 9) rfl (by kernel_rfl) (by kernel_rfl) (by kernel_rfl) (by kernel_rfl) (fun j hj => by have h6 : 10 ≤ j := hj; simp; omega) (fun _ _ _ h => h) (Or.inl ⟨by rfl, ?_⟩) ⟨b0.cell 0 _ rfl, b0.cell 1 _ rfl, b0.cell 2 _ rfl, b0.cell 3 _ rfl, b0.cell 4 _ rfl, b0.cell 5 _ rfl, b1.cell 0 _ rfl, b1.cell 1 _ rfl, b1.cell 2 _ rfl, b1.cell 3 _ rfl, b1.cell 4 _ rfl, b1.cell 5 _ rfl, b5.cell 0 _ rfl, b5.cell 1 _ rfl⟩ ?_
  rotate_left
  · (intro w hSw; (try dsimp only at hSw); go_simp; (try with_reducible rfl))
  (try simp only [List.getElem_toArray, List.getElem_cons_succ, List.getElem_cons_zero, Act.put, List.setIfInBounds_toArray, List.set_cons_zero, List.set_cons_succ])
  refine wpAnyF_take (i := 2) (v := ?_) (fun j => j == 3 || j == 7 || j == 8 || j == 9) rfl (by kernel_rfl) (by kernel_rfl) (by kernel_rfl) (by kernel_rfl) (fun j hj => by have h6 : 10 ≤ j := hj; simp; omega) (fun _ _ _ h => h) (Or.inl ⟨by rfl, ?_⟩) ⟨b0.cell 0 _ rfl, b0.cell 1 _ rfl, b0.cell 2 _ rfl, b0.cell 3 _ rfl, b0.cell 4 _ rfl, b0.cell 5 _ rfl, b1.cell 0 _ rfl, b1.cell 1 _ rfl, b1.cell 2 _ rfl, b1.cell 3 _ rfl, b1.cell 4 _ rfl, b1.cell 5 _ rfl, b5.cell 0 _ rfl, b5.cell 1 _ rfl⟩ ?_
  rotate_left
  · (intro w hSw; (try dsimp only at hSw); go_simp; (try with_reducible rfl))
  (try simp only [List.getElem_toArray, List.getElem_cons_succ, List.getElem_cons_zero, Act.put, List.setIfInBounds_toArray, List.set_cons_zero, List.set_cons_succ])
  refine wpAnyF_take (i := 5) (v := ?_) (fun j => j == 6 || j == 7 || j == 8 || j == 9) rfl (by kernel_rfl) (by kernel_rfl) (by kernel_rfl) (by kernel_rfl) (fun j hj => by have h6 : 10 ≤ j := hj; simp; omega) (fun _ _ _ h => h) (Or.inl ⟨by rfl, ?_⟩) ⟨b0.cell 0 _ rfl, b0.cell 1 _ rfl, b0.cell 2 _ rfl, b0.cell 3 _ rfl, b0.cell 4 _ rfl, b0.cell 5 _ rfl, b1.cell 0 _ rfl, b1.cell 1 _ rfl, b1.cell 2 _ rfl, b1.cell 3 _ rfl, b1.cell 4 _ rfl, b1.cell 5 _ rfl, b5.cell 0 _ rfl, b5.cell 1 _ rfl⟩ ?_
  rotate_left
  · (intro w hSw; (try dsimp only at hSw); go_simp; (try with_reducible rfl))
  (try simp only [List.getElem_toArray, List.getElem_cons_succ, List.getElem_cons_zero, Act.put, List.setIfInBounds_toArray, List.set_cons_zero, List.set_cons_succ])
  refine wpAnyF_take (i := 3) (v := ?_) (fun j => j == 7 || j == 8 || j == 9) rfl (by kernel_rfl) (by kernel_rfl) (by kernel_rfl) (by kernel_rfl) (fun j hj => by have h6 : 10 ≤ j := hj; simp; omega) (fun _ _ _ h => h) (Or.inl ⟨by rfl, ?_⟩) ⟨b0.cell 0 _ rfl, b0.cell 1 _ rfl, b0.cell 2 _ rfl, b0.cell 3 _ rfl, b0.cell 4 _ rfl, b0.cell 5 _ rfl, b1.cell 0 _ rfl, b1.cell 1 _ rfl, b1.cell 2 _ rfl, b1.cell 3 _ rfl, b1.cell 4 _ rfl, b1.cell 5 _ rfl, b5.cell 0 _ rfl, b5.cell 1 _ rfl⟩ ?_
  rotate_left
  · (intro w hSw; (try dsimp only at hSw); go_simp; (try with_reducible rfl))
  (try simp only [List.getElem_toArray, List.getElem_cons_succ, List.getElem_cons_zero, Act.put, List.setIfInBounds_toArray, List.set_cons_zero, List.set_cons_succ])
  refine wpAnyF_take (i := 6) (v := ?_) (fun j => j == 7 || j == 8 || j == 9) rfl (by kernel_rfl) (by kernel_rfl) (by kernel_rfl) (by kernel_rfl) (fun j hj => by have h6 : 10 ≤ j := hj; simp; omega) (fun _ _ _ h => h) (Or.inl ⟨by rfl, ?_⟩) ⟨b0.cell 0 _ rfl, b0.cell 1 _ rfl, b0.cell 2 _ rfl, b0.cell 3 _ rfl, b0.cell 4 _ rfl, b0.cell 5 _ rfl, b1.cell 0 _ rfl, b1.cell 1 _ rfl, b1.cell 2 _ rfl, b1.cell 3 _ rfl, b1.cell 4 _ rfl, b1.cell 5 _ rfl, b5.cell 0 _ rfl, b5.cell 1 _ rfl⟩ ?_
  rotate_left
  · (intro w hSw; (try dsimp only at hSw); go_simp; (try with_reducible rfl))
  (try simp only [List.getElem_toArray, List.getElem_cons_succ, List.getElem_cons_zero, Act.put, List.setIfInBounds_toArray, List.set_cons_zero, List.set_cons_succ])
  refine wpAnyF_one (i := 7) (by kernel_rfl) rfl rfl (fun K hK => ?_)
  go_simp
  go_at_call 92
  refine (imul_v h2 h5 (by omega) (by omega)).mono ?_
  rintro e w8 ⟨s9, A9, n9, c9, rfl, g9, hb⟩
  replace h0 := h0.below hb
  replace h1 := h1.below hb
  replace h2 := h2.below hb
  replace h3 := h3.below hb
  replace h4 := h4.below hb
  replace h5 := h5.below hb
  replace g8 := g8.below hb
  replace b0 := b0.below hb
  replace b1 := b1.below hb
  replace b9 := b9.below hb
  replace b5 := b5.below hb
  replace H0 := H0.trans (hb.mono H0.size)
  clear hb
  go_wp2_with fail
  refine hK.out _ _ ⟨b0.cell 0 _ rfl, b0.cell 1 _ rfl, b0.cell 2 _ rfl, b0.cell 3 _ rfl, b0.cell 4 _ rfl, b0.cell 5 _ rfl, b1.cell 0 _ rfl, b1.cell 1 _ rfl, b1.cell 2 _ rfl, b1.cell 3 _ rfl, b1.cell 4 _ rfl, b1.cell 5 _ rfl, b5.cell 0 _ rfl, b5.cell 1 _ rfl⟩ ?_
  clear hK K
  (try simp only [List.getElem_toArray, List.getElem_cons_succ, List.getElem_cons_zero, Act.put, List.setIfInBounds_toArray, List.set_cons_zero, List.set_cons_succ])
  refine wpAnyF_one (i := 8) (by kernel_rfl) rfl rfl (fun K hK => ?_)
  go_simp
  go_at_call 95
  refine (iadd_v g8.ri g9.ri (by omega) (by omega)).mono ?_
  rintro e w9 ⟨s10, A10, n10, c10, rfl, g10, hb⟩
  replace h0 := h0.below hb
  replace h1 := h1.below hb
  replace h2 := h2.below hb
  replace h3 := h3.below hb
  replace h4 := h4.below hb
  replace h5 := h5.below hb
  replace g8 := g8.below hb
  replace g9 := g9.below hb
  replace b0 := b0.below hb
  replace b1 := b1.below hb
  replace b9 := b9.below hb
  replace b5 := b5.below hb
  replace H0 := H0.trans (hb.mono H0.size)
  clear hb
  clear g8
  clear g9
  go_wp2_with fail
  refine hK.out _ _ ⟨b0.cell 0 _ rfl, b0.cell 1 _ rfl, b0.cell 2 _ rfl, b0.cell 3 _ rfl, b0.cell 4 _ rfl, b0.cell 5 _ rfl, b1.cell 0 _ rfl, b1.cell 1 _ rfl, b1.cell 2 _ rfl, b1.cell 3 _ rfl, b1.cell 4 _ rfl, b1.cell 5 _ rfl, b5.cell 0 _ rfl, b5.cell 1 _ rfl⟩ ?_
  clear hK K
  (try simp only [List.getElem_toArray, List.getElem_cons_succ, List.getElem_cons_zero, Act.put, List.setIfInBounds_toArray, List.set_cons_zero, List.set_cons_succ])
  have cb50 := b5.cell 0 _ rfl
  have yb50 := b5.frozen 0
  have cb51 := b5.cell 1 _ rfl
  have yb51 := b5.frozen 1
  refine wpAnyF_last (i := 9) (by kernel_rfl) rfl rfl (fun K hK => ?_)
  go_simp
  refine hK.out _ _ ?_
  clear hK K
  (try simp only [List.getElem_toArray, List.getElem_cons_succ, List.getElem_cons_zero, Act.put, List.setIfInBounds_toArray, List.set_cons_zero, List.set_cons_succ])
  clear cb50 yb50 cb51 yb51
  have hg := only_store w9 (w1.heap.size) (.bool s10) (.slice A10 n10 c10)
  have hB := b5.stored (.bool s10) (.slice A10 n10 c10)
  generalize hX : ((w9.setCell ⟨w1.heap.size, 0, none⟩ (.bool s10)).setCell ⟨w1.heap.size, 1, none⟩ (.slice A10 n10 c10)) = X10 at hg hB ⊢
  clear hX
  replace h0 := h0.kept b5 (by simp [notInt]) hg
  replace h1 := h1.kept b5 (by simp [notInt]) hg
  replace h2 := h2.kept b5 (by simp [notInt]) hg
  replace h3 := h3.kept b5 (by simp [notInt]) hg
  replace h4 := h4.kept b5 (by simp [notInt]) hg
  replace h5 := h5.kept b5 (by simp [notInt]) hg
  replace g10 := g10.kept b5 (by simp [notInt]) hg
  replace b0 := b0.other hg (by omega)
  replace b1 := b1.other hg (by omega)
  replace b9 := b9.other hg (by omega)
  replace b5 := hB
  replace H0 := below_only H0 hg (by omega) H0.size
  clear hg hB
  refine wpAny_done (by kernel_rfl) ?_ _
  refine NoPanic.normal ?_
  go_wp2_with fail
  rw [rounds_succ]
  have cb00 := b0.cell 0 _ rfl
  have cb01 := b0.cell 1 _ rfl
  have cb02 := b0.cell 2 _ rfl
  have cb03 := b0.cell 3 _ rfl
  have cb04 := b0.cell 4 _ rfl
  have cb05 := b0.cell 5 _ rfl
  have cb50 := b5.cell 0 _ rfl
  have cb51 := b5.cell 1 _ rfl
  have cb90 := b9.cell 0 _ rfl
  have yb90 := b9.frozen 0
  have cb91 := b9.cell 1 _ rfl
  have yb91 := b9.frozen 1
  go_wp2_with fail
  clear cb00 cb01 cb02 cb03 cb04 cb05 cb50 cb51 cb90 yb90 cb91 yb91
  have hg := only_store X10 (w.heap.size + 1 + 1) (.bool s10) (.slice A10 n10 c10)
  have hB := b9.stored (.bool s10) (.slice A10 n10 c10)
  generalize hX : ((X10.setCell ⟨w.heap.size + 1 + 1, 0, none⟩ (.bool s10)).setCell ⟨w.heap.size + 1 + 1, 1, none⟩ (.slice A10 n10 c10)) = X11 at hg hB ⊢
  clear hX
  replace h0 := h0.kept b9 (by simp [notInt]) hg
  replace h1 := h1.kept b9 (by simp [notInt]) hg
  replace h2 := h2.kept b9 (by simp [notInt]) hg
  replace h3 := h3.kept b9 (by simp [notInt]) hg
  replace h4 := h4.kept b9 (by simp [notInt]) hg
  replace h5 := h5.kept b9 (by simp [notInt]) hg
  replace g10 := g10.kept b9 (by simp [notInt]) hg
  replace b0 := b0.other hg (by omega)
  replace b1 := b1.other hg (by omega)
  replace b5 := b5.other hg (by omega)
  replace b9 := hB
  replace H0 := below_only H0 hg (by omega) H0.size
  clear hg hB
  refine bodyPost_ret (ret_int rfl rfl b9) rfl ?_
  exact ⟨s10, A10, n10, c10, rfl, g10.more (by omega), H0⟩
theorem ret_int_int {fn : Func} {p q : Tmp} (h : fn.results = #[.cell p 28, .cell q 28]) {tmps : Array Value} {w : World} {g g' : Nat} {a b a' b' : Value} {t t' : TypeId} (hp : tmps.getD p undef = .pointer (some ⟨g, 0, none⟩)) (hq : tmps.getD q undef = .pointer (some ⟨g', 0, none⟩)) (hb : Box w g #[a, b] t) (hb' : Box w g' #[a', b'] t') :
    (results fn tmps).run Tryz.prog w = .ok (.tuple #[.agg #[a, b], .agg #[a', b']]) w := by
  have hp' : tmps[p]?.getD undef = .pointer (some ⟨g, 0, none⟩) := by simpa using hp
  have hq' : tmps[q]?.getD undef = .pointer (some ⟨g', 0, none⟩) := by simpa using hq
  have h1 := run_loadVar_row (P := Tryz.prog) w g t 28 #[a, b] (0, 0) _ hb Tryz.underlying28 rfl info_int
  have h2 := run_loadVar_row (P := Tryz.prog) w g' t' 28 #[a', b'] (0, 0) _ hb' Tryz.underlying28 rfl info_int
  simp [results, h, hp', hq', asAddr, h1, h2]
theorem nv_int {v : Value} (h : NV w v x L) : NI w false v (x : Int) L := h.ni0
set_option maxRecDepth 100000 in
set_option maxHeartbeats 4000000 in
theorem lfrac_v (h : NQ w s0 (.slice A0 n0 c0) (.slice D0 m0 e0) q0 L) :
    Calls Tryz.prog 91 #[.agg #[.bool s0, .slice A0 n0 c0, .slice D0 m0 e0]] w fun e w' => ∃ s3 A3 n3 c3 s4 A4 n4 c4, e = .returned (.tuple #[.agg #[.bool s3, .slice A3 n3 c3], .agg #[.bool s4, .slice A4 n4 c4]]) ∧ NI w' s3 (.slice A3 n3 c3) q0.num (max L 2) ∧ NI w' s4 (.slice A4 n4 c4) (q0.den : Int) (max L 2) ∧ Below w.heap.size w w' := by
  obtain ⟨k0, hk0⟩ : ∃ k, rsg q0 = k := ⟨_, rfl⟩
  have HK := Lib.hid hk0
  by_cases hq : q0 = 0
  · have hk1 : k0 = 0 := by rw [← hk0, hq]; rfl
    subst hk1
    rw [show q0.num = 0 by rw [hq]; rfl, show (q0.den : Int) = 1 by rw [hq]; rfl]
    clear hk0 hq
    go_enter Tryz.func91, Tryz.ntmps91
    go_wp2_with fail
    obtain ⟨W0, hW, b0, b8, b9, hbW, hszW0⟩ := boxes3 w #[.bool s0, .slice A0 n0 c0, .slice D0 m0 e0] #[.bool false, .slice none 0 0] #[.bool false, .slice none 0 0] 69 28 28
    rw [hW]
    clear hW
    have H0 := hbW
    clear hbW
    have cb00 := b0.cell 0 _ rfl
    have cb01 := b0.cell 1 _ rfl
    have cb02 := b0.cell 2 _ rfl
    go_wp2_with fail
    clear cb00 cb01 cb02
    refine (rsign_v (h.rq.below H0) HK.out).mono ?_
    rintro e w1 ⟨rfl, hb⟩
    replace b0 := b0.below hb
    replace b8 := b8.below hb
    replace b9 := b9.below hb
    replace H0 := H0.trans (hb.mono H0.size)
    clear hb
    go_wp2_with fail
    refine (ifromint_v 1 (by decide) (by decide) _).mono ?_
    rintro e w2 ⟨s4, A4, n4, c4, rfl, g4, hb⟩
    replace b0 := b0.below hb
    replace b8 := b8.below hb
    replace b9 := b9.below hb
    replace H0 := H0.trans (hb.mono H0.size)
    clear hb
    have cb80 := b8.cell 0 _ rfl
    have yb80 := b8.frozen 0
    have cb81 := b8.cell 1 _ rfl
    have yb81 := b8.frozen 1
    have cb90 := b9.cell 0 _ rfl
    have yb90 := b9.frozen 0
    have cb91 := b9.cell 1 _ rfl
    have yb91 := b9.frozen 1
    go_wp2_with fail
    clear cb80 yb80 cb81 yb81 cb90 yb90 cb91 yb91
    have hg := only_store w2 (w.heap.size + 1) (.bool false) (.slice none 0 0)
    have hB := b8.stored (.bool false) (.slice none 0 0)
    generalize hX : ((w2.setCell ⟨w.heap.size + 1, 0, none⟩ (.bool false)).setCell ⟨w.heap.size + 1, 1, none⟩ (.slice none 0 0)) = X8 at hg hB ⊢
    clear hX
    replace g4 := g4.kept b8 (by simp [notInt]) hg
    replace b0 := b0.other hg (by omega)
    replace b9 := b9.other hg (by omega)
    replace b8 := hB
    replace H0 := below_only H0 hg (by omega) H0.size
    clear hg hB
    have hg := only_store X8 (w.heap.size + 1 + 1) (.bool s4) (.slice A4 n4 c4)
    have hB := b9.stored (.bool s4) (.slice A4 n4 c4)
    generalize hX : ((X8.setCell ⟨w.heap.size + 1 + 1, 0, none⟩ (.bool s4)).setCell ⟨w.heap.size + 1 + 1, 1, none⟩ (.slice A4 n4 c4)) = X9 at hg hB ⊢
    clear hX
    replace g4 := g4.kept b9 (by simp [notInt]) hg
    replace b0 := b0.other hg (by omega)
    replace b8 := b8.other hg (by omega)
    replace b9 := hB
    replace H0 := below_only H0 hg (by omega) H0.size
    clear hg hB
    refine bodyPost_ret (ret_int_int rfl rfl rfl b8 b9) rfl ?_
    exact ⟨_, _, _, _, _, _, _, _, rfl, ⟨slice_nil _, rfl⟩, g4.more (by omega), H0⟩
  · have hk1 : ((k0 : Int) == 0) = false := by rw [beq_eq_false_iff_ne]; rintro rfl; exact hq (rsg_zero_iff.1 hk0)
    clear hk0 hq
    go_enter Tryz.func91, Tryz.ntmps91
    go_wp2_with fail
    obtain ⟨W0, hW, b0, b8, b9, hbW, hszW0⟩ := boxes3 w #[.bool s0, .slice A0 n0 c0, .slice D0 m0 e0] #[.bool false, .slice none 0 0] #[.bool false, .slice none 0 0] 69 28 28
    rw [hW]
    clear hW
    replace h := h.below hbW
    have H0 := hbW
    clear hbW
    have cb00 := b0.cell 0 _ rfl
    have cb01 := b0.cell 1 _ rfl
    have cb02 := b0.cell 2 _ rfl
    go_wp2_with fail
    clear cb00 cb01 cb02
    refine (rsign_v h.rq HK.out).mono ?_
    rintro e w1 ⟨rfl, hb⟩
    replace h := h.below hb
    replace b0 := b0.below hb
    replace b8 := b8.below hb
    replace b9 := b9.below hb
    replace H0 := H0.trans (hb.mono H0.size)
    clear hb
    go_wp2_with fail
    have cb00 := b0.cell 0 _ rfl
    have cb01 := b0.cell 1 _ rfl
    have cb02 := b0.cell 2 _ rfl
    clear cb00 cb01 cb02
    have hD := drawn_below w1
    replace h := h.below hD
    replace b0 := b0.below hD
    replace b8 := b8.below hD
    replace b9 := b9.below hD
    replace H0 := H0.trans (hD.mono H0.size)
    clear hD
    refine wp_region_noPanic ?_
    refine wp_region_held_drew (S := (fun V => V.cell? ⟨w.heap.size, 0, none⟩ = some (.bool s0) ∧ V.cell? ⟨w.heap.size, 1, none⟩ = some (.slice A0 n0 c0) ∧ V.cell? ⟨w.heap.size, 2, none⟩ = some (.slice D0 m0 e0))) (by kernel_rfl) ⟨b0.cell 0 _ rfl, b0.cell 1 _ rfl, b0.cell 2 _ rfl⟩ (fun hHeld => ?_)
    generalize w1.drew = v2 at H0 hHeld h b0 b8 b9 ⊢
    refine wpAnyH_take (i := 0) (v := ?_) rfl (by kernel_rfl) (by kernel_rfl) (by kernel_rfl) (fun _ _ _ h => h) (Or.inl ⟨by rfl, ?_⟩) (by assumption) ?_
    rotate_left
    · (intro w hSw; (try dsimp only at hSw); go_simp; (try with_reducible rfl))
    (try simp only [List.getElem_toArray, List.getElem_cons_zero, Act.put, List.setIfInBounds_toArray, List.set_cons_zero, List.set_cons_succ])
    refine wpAnyH_take (i := 2) (v := ?_) rfl (by kernel_rfl) (by kernel_rfl) (by kernel_rfl) (fun _ _ _ h => h) (Or.inl ⟨by rfl, ?_⟩) (by assumption) ?_
    rotate_left
    · (intro w hSw; (try dsimp only at hSw); go_simp; (try with_reducible rfl))
    (try simp only [List.getElem_toArray, List.getElem_cons_succ, List.getElem_cons_zero, Act.put, List.setIfInBounds_toArray, List.set_cons_zero, List.set_cons_succ])
    refine wpAnyH_take (i := 1) (v := ?_) rfl (by kernel_rfl) (by kernel_rfl) (by kernel_rfl) (fun _ _ _ h => h) (Or.inl ⟨by rfl, ?_⟩) (by assumption) ?_
    rotate_left
    · (intro w hSw; (try dsimp only at hSw); go_simp; (try with_reducible rfl))
    (try simp only [List.getElem_toArray, List.getElem_cons_succ, List.getElem_cons_zero, Act.put, List.setIfInBounds_toArray, List.set_cons_zero, List.set_cons_succ])
    refine wpAnyH_take (i := 3) (v := ?_) rfl (by kernel_rfl) (by kernel_rfl) (by kernel_rfl) (fun _ _ _ h => h) (Or.inl ⟨by rfl, ?_⟩) (by assumption) ?_
    rotate_left
    · (intro w hSw; (try dsimp only at hSw); go_simp; (try with_reducible rfl))
    (try simp only [List.getElem_toArray, List.getElem_cons_succ, List.getElem_cons_zero, Act.put, List.setIfInBounds_toArray, List.set_cons_zero, List.set_cons_succ])
    refine wpAnyH_take (i := 4) (v := ?_) rfl (by kernel_rfl) (by kernel_rfl) (by kernel_rfl) (fun _ _ _ h => h) (Or.inl ⟨by rfl, ?_⟩) (by assumption) ?_
    rotate_left
    · (intro w hSw; (try dsimp only at hSw); go_simp; (try with_reducible rfl))
    (try simp only [List.getElem_toArray, List.getElem_cons_succ, List.getElem_cons_zero, Act.put, List.setIfInBounds_toArray, List.set_cons_zero, List.set_cons_succ])
    have cb80 := b8.cell 0 _ rfl
    have yb80 := b8.frozen 0
    have cb81 := b8.cell 1 _ rfl
    have yb81 := b8.frozen 1
    refine wpAnyH_ready (rs := [5]) (by kernel_rfl) (by simp) (AllReadyH.cons (o := _) rfl (fun K hK => ?_) AllReadyH.nil)
    go_simp
    clear cb80 yb80 cb81 yb81
    have hg := only_store v2 (w.heap.size + 1) (.bool s0) (.slice A0 n0 c0)
    have hB := b8.stored (.bool s0) (.slice A0 n0 c0)
    generalize hX : ((v2.setCell ⟨w.heap.size + 1, 0, none⟩ (.bool s0)).setCell ⟨w.heap.size + 1, 1, none⟩ (.slice A0 n0 c0)) = X3 at hg hB ⊢
    clear hX
    replace h := h.kept b8 (by simp [notInt]) hg
    replace b0 := b0.other hg (by omega)
    replace b9 := b9.other hg (by omega)
    replace b8 := hB
    replace H0 := below_only H0 hg (by omega) H0.size
    clear hg hB
    refine hK.out _ _ ⟨b0.cell 0 _ rfl, b0.cell 1 _ rfl, b0.cell 2 _ rfl⟩ (fun hHeld => ?_)
    clear hK K
    (try simp only [List.getElem_toArray, List.getElem_cons_succ, List.getElem_cons_zero, Act.put, List.setIfInBounds_toArray, List.set_cons_zero, List.set_cons_succ])
    have cb90 := b9.cell 0 _ rfl
    have yb90 := b9.frozen 0
    have cb91 := b9.cell 1 _ rfl
    have yb91 := b9.frozen 1
    refine wpAnyH_ready (rs := [6]) (by kernel_rfl) (by simp) (AllReadyH.cons (o := _) rfl (fun K hK => ?_) AllReadyH.nil)
    go_simp
    clear cb90 yb90 cb91 yb91
    have hg := only_store X3 (w.heap.size + 1 + 1) (.bool false) (.slice D0 m0 e0)
    have hB := b9.stored (.bool false) (.slice D0 m0 e0)
    generalize hX : ((X3.setCell ⟨w.heap.size + 1 + 1, 0, none⟩ (.bool false)).setCell ⟨w.heap.size + 1 + 1, 1, none⟩ (.slice D0 m0 e0)) = X4 at hg hB ⊢
    clear hX
    replace h := h.kept b9 (by simp [notInt]) hg
    replace b0 := b0.other hg (by omega)
    replace b8 := b8.other hg (by omega)
    replace b9 := hB
    replace H0 := below_only H0 hg (by omega) H0.size
    clear hg hB
    refine hK.out _ _ ⟨b0.cell 0 _ rfl, b0.cell 1 _ rfl, b0.cell 2 _ rfl⟩ (fun hHeld => ?_)
    clear hK K
    (try simp only [List.getElem_toArray, List.getElem_cons_succ, List.getElem_cons_zero, Act.put, List.setIfInBounds_toArray, List.set_cons_zero, List.set_cons_succ])
    refine wpAnyH_done (by kernel_rfl) ?_ _
    refine NoPanic.normal ?_
    go_wp2_with fail
    refine bodyPost_ret (ret_int_int rfl rfl rfl b8 b9) rfl ?_
    exact ⟨_, _, _, _, _, _, _, _, rfl, h.1.more (by omega), (nv_int h.2).more (by omega), H0⟩
set_option maxRecDepth 100000 in
set_option maxHeartbeats 4000000 in
theorem lquot_v (h0 : RI w s0 (.slice A0 n0 c0) z0 L) (h1 : RI w s1 (.slice A1 n1 c1) z1 L) (hz : z1 ≠ 0) (hL : L ≤ 1000000) :
    Calls Tryz.prog 61 #[.agg #[.bool s0, .slice A0 n0 c0], .agg #[.bool s1, .slice A1 n1 c1]] w fun e w' => ∃ s3 A3 n3 c3 D3 m3 e3, e = .returned (.agg #[.bool s3, .slice A3 n3 c3, .slice D3 m3 e3]) ∧ NQ w' s3 (.slice A3 n3 c3) (.slice D3 m3 e3) ((z0 : Rat) / (z1 : Rat)) (L) ∧ Below w.heap.size w w' := by
  go_enter Tryz.func61, Tryz.ntmps61
  go_wp2_with fail
  obtain ⟨W0, hW, b0, b1, b9, hbW, hszW0⟩ := boxes3 w #[.bool s0, .slice A0 n0 c0] #[.bool s1, .slice A1 n1 c1] #[.bool false, .slice none 0 0, .slice none 0 0] 28 28 69
  rw [hW]
  clear hW
  replace h0 := h0.below hbW
  replace h1 := h1.below hbW
  have H0 := hbW
  clear hbW
  have cb00 := b0.cell 0 _ rfl
  have cb01 := b0.cell 1 _ rfl
  have cb10 := b1.cell 0 _ rfl
  have cb11 := b1.cell 1 _ rfl
  go_wp2_with fail
  clear cb00 cb01 cb10 cb11
  refine (rnew_v h0 h1 hz hL).mono ?_
  rintro e w1 ⟨s3, A3, n3, c3, D3, m3, e3, rfl, g3, hb⟩
  replace h0 := h0.below hb
  replace h1 := h1.below hb
  replace b0 := b0.below hb
  replace b1 := b1.below hb
  replace b9 := b9.below hb
  replace H0 := H0.trans (hb.mono H0.size)
  clear hb
  have lb0_2 := b0.lt
  have lb1_2 := b1.lt
  have lb9_2 := b9.lt
  obtain ⟨W2, hW, b5, hbW, hszW2⟩ := boxes1 w1 #[.bool s3, .slice A3 n3 c3, .slice D3 m3 e3] 69
  skip
  skip
  replace h0 := h0.below hbW
  replace h1 := h1.below hbW
  replace g3 := g3.below hbW
  replace b0 := b0.below hbW
  replace b1 := b1.below hbW
  replace b9 := b9.below hbW
  replace H0 := H0.trans (hbW.mono H0.size)
  clear hbW
  have cb50 := b5.cell 0 _ rfl
  have cb51 := b5.cell 1 _ rfl
  have cb52 := b5.cell 2 _ rfl
  have cb90 := b9.cell 0 _ rfl
  have yb90 := b9.frozen 0
  have cb91 := b9.cell 1 _ rfl
  have yb91 := b9.frozen 1
  have cb92 := b9.cell 2 _ rfl
  have yb92 := b9.frozen 2
  go_wp2_with fail
  clear hW
  clear cb50 cb51 cb52 cb90 yb90 cb91 yb91 cb92 yb92
  have cb90 := b9.cell 0 _ rfl
  have yb90 := b9.frozen 0
  have cb91 := b9.cell 1 _ rfl
  have yb91 := b9.frozen 1
  have cb92 := b9.cell 2 _ rfl
  have yb92 := b9.frozen 2
  clear cb90 yb90 cb91 yb91 cb92 yb92
  have hg := only_store3 W2 (w.heap.size + 1 + 1) (.bool s3) (.slice A3 n3 c3) (.slice D3 m3 e3)
  have hB := b9.stored3 (.bool s3) (.slice A3 n3 c3) (.slice D3 m3 e3)
  generalize hX : (((W2.setCell ⟨w.heap.size + 1 + 1, 0, none⟩ (.bool s3)).setCell ⟨w.heap.size + 1 + 1, 1, none⟩ (.slice A3 n3 c3)).setCell ⟨w.heap.size + 1 + 1, 2, none⟩ (.slice D3 m3 e3)) = X3 at hg hB ⊢
  clear hX
  replace h0 := h0.kept b9 (by simp [notInt]) hg
  replace h1 := h1.kept b9 (by simp [notInt]) hg
  replace g3 := g3.kept b9 (by simp [notInt]) hg
  replace b0 := b0.other hg (by omega)
  replace b1 := b1.other hg (by omega)
  replace b5 := b5.other hg (by omega)
  replace b9 := hB
  replace H0 := below_only H0 hg (by omega) H0.size
  clear hg hB
  refine bodyPost_ret (ret_rat rfl rfl b9) rfl ?_
  exact ⟨s3, A3, n3, c3, D3, m3, e3, rfl, by rw [← Rat.divInt_eq_div]; exact g3, H0⟩
theorem den_cast_ne (q : Rat) : (q.den : Rat) ≠ 0 := by
  have := q.den_nz
  intro h
  exact this (by exact_mod_cast h)
theorem num_cast (q : Rat) : (q.num : Rat) = q * (q.den : Rat) := by
  have h : (q.num : Rat) / (q.den : Rat) = q := by
    rw [← Rat.intCast_natCast q.den, ← Rat.divInt_eq_div]; exact Rat.num_divInt_den q
  have h1 := den_cast_ne q
  generalize hn : (q.num : Rat) = n at *
  generalize hd : (q.den : Rat) = d at *
  rw [← h]; grind
/-- Homogeneous coordinates. -/
def Hom (q q' : Rat) (u v d : Int) : Prop := 0 < d ∧ (u : Rat) = q * (d : Rat) ∧ (v : Rat) = q' * (d : Rat)
theorem hom_eq {q q' : Rat} (h : (q.den : Int) = (q'.den : Int)) : Hom q q' q.num q'.num (q.den : Int) := by
  refine ⟨by have := q.den_pos; omega, ?_, ?_⟩
  · rw [Rat.intCast_natCast]; exact num_cast q
  · rw [h, Rat.intCast_natCast]; exact num_cast q'
theorem hom_mul (q q' : Rat) : Hom q q' (q.num * (q'.den : Int)) (q'.num * (q.den : Int)) ((q.den : Int) * (q'.den : Int)) := by
  refine ⟨Int.mul_pos (by have := q.den_pos; omega) (by have := q'.den_pos; omega), ?_, ?_⟩
  · rw [Rat.intCast_mul, Rat.intCast_mul, num_cast q, Rat.intCast_natCast, Rat.intCast_natCast]; grind
  · rw [Rat.intCast_mul, Rat.intCast_mul, num_cast q', Rat.intCast_natCast, Rat.intCast_natCast]; grind
set_option maxRecDepth 100000 in
set_option maxHeartbeats 4000000 in
theorem lhomog_v (h : NQ w s0 (.slice A0 n0 c0) (.slice D0 m0 e0) q0 L) (h' : NQ w s1 (.slice A1 n1 c1) (.slice D1 m1 e1) q1 L) (hL : L ≤ 100000) :
    Calls Tryz.prog 55 #[.agg #[.bool s0, .slice A0 n0 c0, .slice D0 m0 e0, .bool s1, .slice A1 n1 c1, .slice D1 m1 e1]] w fun e w' => ∃ z3 z4 z5 : Int, ∃ s3 A3 n3 c3 s4 A4 n4 c4 s5 A5 n5 c5, e = .returned (.agg #[.bool s3, .slice A3 n3 c3, .bool s4, .slice A4 n4 c4, .bool s5, .slice A5 n5 c5]) ∧ NI w' s3 (.slice A3 n3 c3) z3 (2 * max L 2) ∧ NI w' s4 (.slice A4 n4 c4) z4 (2 * max L 2) ∧ NI w' s5 (.slice A5 n5 c5) z5 (2 * max L 2) ∧ Hom q0 q1 z3 z4 z5 ∧ Below w.heap.size w w' := by
  by_cases he : (q0.den : Int) = (q1.den : Int)
  · have HE := Lib.hid he
    have HK : Hid (((q0.den : Int) - (q1.den : Int)).sign = 0) := Lib.hid (by rw [he, Int.sub_self]; rfl)
    clear he
    go_enter Tryz.func55, Tryz.ntmps55
    go_wp2_with fail
    obtain ⟨W0, hW, b0, b9, hbW, hszW0⟩ := boxes2 w #[.bool s0, .slice A0 n0 c0, .slice D0 m0 e0, .bool s1, .slice A1 n1 c1, .slice D1 m1 e1] #[.bool false, .slice none 0 0, .bool false, .slice none 0 0, .bool false, .slice none 0 0] 71 100
    rw [hW]
    clear hW
    replace h := h.below hbW
    replace h' := h'.below hbW
    have H0 := hbW
    clear hbW
    have cb00 := b0.cell 0 _ rfl
    have cb01 := b0.cell 1 _ rfl
    have cb02 := b0.cell 2 _ rfl
    have cb03 := b0.cell 3 _ rfl
    have cb04 := b0.cell 4 _ rfl
    have cb05 := b0.cell 5 _ rfl
    go_wp2_with fail
    clear cb00 cb01 cb02 cb03 cb04 cb05
    refine (lfrac_v h).mono ?_
    rintro e w1 ⟨s3, A3, n3, c3, s4, A4, n4, c4, rfl, g3, g4, hb⟩
    replace h := h.below hb
    replace h' := h'.below hb
    replace b0 := b0.below hb
    replace b9 := b9.below hb
    replace H0 := H0.trans (hb.mono H0.size)
    clear hb
    clear h
    have lb0_2 := b0.lt
    have lb9_2 := b9.lt
    obtain ⟨W2, hW, b3, hbW, hszW2⟩ := boxes1 w1 #[.bool s3, .slice A3 n3 c3] 28
    skip
    skip
    replace h' := h'.below hbW
    replace g3 := g3.below hbW
    replace g4 := g4.below hbW
    replace b0 := b0.below hbW
    replace b9 := b9.below hbW
    replace H0 := H0.trans (hbW.mono H0.size)
    clear hbW
    have hWa := hW
    clear hW
    have lb0_3 := b0.lt
    have lb9_3 := b9.lt
    have lb3_3 := b3.lt
    obtain ⟨W3, hW, b4, hbW, hszW3⟩ := boxes1 W2 #[.bool s4, .slice A4 n4 c4] 28
    skip
    skip
    replace h' := h'.below hbW
    replace g3 := g3.below hbW
    replace g4 := g4.below hbW
    replace b0 := b0.below hbW
    replace b9 := b9.below hbW
    replace b3 := b3.below hbW
    replace H0 := H0.trans (hbW.mono H0.size)
    clear hbW
    have hWb := hW
    clear hW
    rw [hszW2] at b4
    have cb00 := b0.cell 0 _ rfl
    have cb01 := b0.cell 1 _ rfl
    have cb02 := b0.cell 2 _ rfl
    have cb03 := b0.cell 3 _ rfl
    have cb04 := b0.cell 4 _ rfl
    have cb05 := b0.cell 5 _ rfl
    go_wp2_with fail
    clear hWa hWb
    clear cb00 cb01 cb02 cb03 cb04 cb05
    refine (lfrac_v h').mono ?_
    rintro e w4 ⟨s5, A5, n5, c5, s6, A6, n6, c6, rfl, g5, g6, hb⟩
    replace h' := h'.below hb
    replace g3 := g3.below hb
    replace g4 := g4.below hb
    replace b0 := b0.below hb
    replace b9 := b9.below hb
    replace b3 := b3.below hb
    replace b4 := b4.below hb
    replace H0 := H0.trans (hb.mono H0.size)
    clear hb
    clear h'
    have lb0_5 := b0.lt
    have lb9_5 := b9.lt
    have lb3_5 := b3.lt
    have lb4_5 := b4.lt
    obtain ⟨W5, hW, b5, hbW, hszW5⟩ := boxes1 w4 #[.bool s5, .slice A5 n5 c5] 28
    skip
    skip
    replace g3 := g3.below hbW
    replace g4 := g4.below hbW
    replace g5 := g5.below hbW
    replace g6 := g6.below hbW
    replace b0 := b0.below hbW
    replace b9 := b9.below hbW
    replace b3 := b3.below hbW
    replace b4 := b4.below hbW
    replace H0 := H0.trans (hbW.mono H0.size)
    clear hbW
    have hWa := hW
    clear hW
    have lb0_6 := b0.lt
    have lb9_6 := b9.lt
    have lb3_6 := b3.lt
    have lb4_6 := b4.lt
    have lb5_6 := b5.lt
    obtain ⟨W6, hW, b6, hbW, hszW6⟩ := boxes1 W5 #[.bool s6, .slice A6 n6 c6] 28
    skip
    skip
    replace g3 := g3.below hbW
    replace g4 := g4.below hbW
    replace g5 := g5.below hbW
    replace g6 := g6.below hbW
    replace b0 := b0.below hbW
    replace b9 := b9.below hbW
    replace b3 := b3.below hbW
    replace b4 := b4.below hbW
    replace b5 := b5.below hbW
    replace H0 := H0.trans (hbW.mono H0.size)
    clear hbW
    have hWb := hW
    clear hW
    rw [hszW5] at b6
    have cb40 := b4.cell 0 _ rfl
    have cb41 := b4.cell 1 _ rfl
    have cb60 := b6.cell 0 _ rfl
    have cb61 := b6.cell 1 _ rfl
    go_wp2_with fail
    clear hWa hWb
    clear cb40 cb41 cb60 cb61
    refine (icmp_is g4.ri g6.ri HK.out).mono ?_
    rintro e w7 ⟨rfl, hb⟩
    replace g3 := g3.below hb
    replace g4 := g4.below hb
    replace g5 := g5.below hb
    replace g6 := g6.below hb
    replace b0 := b0.below hb
    replace b9 := b9.below hb
    replace b3 := b3.below hb
    replace b4 := b4.below hb
    replace b5 := b5.below hb
    replace b6 := b6.below hb
    replace H0 := H0.trans (hb.mono H0.size)
    clear hb
    have cb30 := b3.cell 0 _ rfl
    have cb31 := b3.cell 1 _ rfl
    have cb40 := b4.cell 0 _ rfl
    have cb41 := b4.cell 1 _ rfl
    have cb50 := b5.cell 0 _ rfl
    have cb51 := b5.cell 1 _ rfl
    have cb90 := b9.cell 0 _ rfl
    have yb90 := b9.frozen 0
    have cb91 := b9.cell 1 _ rfl
    have yb91 := b9.frozen 1
    have cb92 := b9.cell 2 _ rfl
    have yb92 := b9.frozen 2
    have cb93 := b9.cell 3 _ rfl
    have yb93 := b9.frozen 3
    have cb94 := b9.cell 4 _ rfl
    have yb94 := b9.frozen 4
    have cb95 := b9.cell 5 _ rfl
    have yb95 := b9.frozen 5
    go_wp2_with fail
    clear cb30 cb31 cb40 cb41 cb50 cb51 cb90 yb90 cb91 yb91 cb92 yb92 cb93 yb93 cb94 yb94 cb95 yb95
    have hg := only_store6 w7 (w.heap.size + 1) (.bool s3) (.slice A3 n3 c3) (.bool s5) (.slice A5 n5 c5) (.bool s4) (.slice A4 n4 c4)
    have hB := b9.stored6 (.bool s3) (.slice A3 n3 c3) (.bool s5) (.slice A5 n5 c5) (.bool s4) (.slice A4 n4 c4)
    generalize hX : ((((((w7.setCell ⟨w.heap.size + 1, 0, none⟩ (.bool s3)).setCell ⟨w.heap.size + 1, 1, none⟩ (.slice A3 n3 c3)).setCell ⟨w.heap.size + 1, 2, none⟩ (.bool s5)).setCell ⟨w.heap.size + 1, 3, none⟩ (.slice A5 n5 c5)).setCell ⟨w.heap.size + 1, 4, none⟩ (.bool s4)).setCell ⟨w.heap.size + 1, 5, none⟩ (.slice A4 n4 c4)) = X8 at hg hB ⊢
    clear hX
    replace g3 := g3.kept b9 (by simp [notInt]) hg
    replace g4 := g4.kept b9 (by simp [notInt]) hg
    replace g5 := g5.kept b9 (by simp [notInt]) hg
    replace g6 := g6.kept b9 (by simp [notInt]) hg
    replace b0 := b0.other hg (by omega)
    replace b3 := b3.other hg (by omega)
    replace b4 := b4.other hg (by omega)
    replace b5 := b5.other hg (by omega)
    replace b6 := b6.other hg (by omega)
    replace b9 := hB
    replace H0 := below_only H0 hg (by omega) H0.size
    clear hg hB
    refine bodyPost_ret (ret_coord rfl rfl b9) rfl ?_
    exact ⟨q0.num, q1.num, (q0.den : Int), _, _, _, _, _, _, _, _, _, _, _, _, rfl, g3.more (by omega), g5.more (by omega), g4.more (by omega), hom_eq HE.out, H0⟩
  · obtain ⟨k0, hk0⟩ : ∃ k, ((q0.den : Int) - (q1.den : Int)).sign = k := ⟨_, rfl⟩
    have HK := Lib.hid hk0
    have hk1 : ((k0 : Int) == 0) = false := by rw [beq_eq_false_iff_ne]; rintro rfl; exact he (by have := (sign0_iff _).1 hk0; omega)
    clear he hk0
    go_enter Tryz.func55, Tryz.ntmps55
    go_wp2_with fail
    obtain ⟨W0, hW, b0, b9, hbW, hszW0⟩ := boxes2 w #[.bool s0, .slice A0 n0 c0, .slice D0 m0 e0, .bool s1, .slice A1 n1 c1, .slice D1 m1 e1] #[.bool false, .slice none 0 0, .bool false, .slice none 0 0, .bool false, .slice none 0 0] 71 100
    rw [hW]
    clear hW
    replace h := h.below hbW
    replace h' := h'.below hbW
    have H0 := hbW
    clear hbW
    have cb00 := b0.cell 0 _ rfl
    have cb01 := b0.cell 1 _ rfl
    have cb02 := b0.cell 2 _ rfl
    have cb03 := b0.cell 3 _ rfl
    have cb04 := b0.cell 4 _ rfl
    have cb05 := b0.cell 5 _ rfl
    go_wp2_with fail
    clear cb00 cb01 cb02 cb03 cb04 cb05
    refine (lfrac_v h).mono ?_
    rintro e w1 ⟨s3, A3, n3, c3, s4, A4, n4, c4, rfl, g3, g4, hb⟩
    replace h := h.below hb
    replace h' := h'.below hb
    replace b0 := b0.below hb
    replace b9 := b9.below hb
    replace H0 := H0.trans (hb.mono H0.size)
    clear hb
    clear h
    have lb0_2 := b0.lt
    have lb9_2 := b9.lt
    obtain ⟨W2, hW, b3, hbW, hszW2⟩ := boxes1 w1 #[.bool s3, .slice A3 n3 c3] 28
    skip
    skip
    replace h' := h'.below hbW
    replace g3 := g3.below hbW
    replace g4 := g4.below hbW
    replace b0 := b0.below hbW
    replace b9 := b9.below hbW
    replace H0 := H0.trans (hbW.mono H0.size)
    clear hbW
    have hWa := hW
    clear hW
    have lb0_3 := b0.lt
    have lb9_3 := b9.lt
    have lb3_3 := b3.lt
    obtain ⟨W3, hW, b4, hbW, hszW3⟩ := boxes1 W2 #[.bool s4, .slice A4 n4 c4] 28
    skip
    skip
    replace h' := h'.below hbW
    replace g3 := g3.below hbW
    replace g4 := g4.below hbW
    replace b0 := b0.below hbW
    replace b9 := b9.below hbW
    replace b3 := b3.below hbW
    replace H0 := H0.trans (hbW.mono H0.size)
    clear hbW
    have hWb := hW
    clear hW
    rw [hszW2] at b4
    have cb00 := b0.cell 0 _ rfl
    have cb01 := b0.cell 1 _ rfl
    have cb02 := b0.cell 2 _ rfl
    have cb03 := b0.cell 3 _ rfl
    have cb04 := b0.cell 4 _ rfl
    have cb05 := b0.cell 5 _ rfl
    go_wp2_with fail
    clear hWa hWb
    clear cb00 cb01 cb02 cb03 cb04 cb05
    refine (lfrac_v h').mono ?_
    rintro e w4 ⟨s5, A5, n5, c5, s6, A6, n6, c6, rfl, g5, g6, hb⟩
    replace h' := h'.below hb
    replace g3 := g3.below hb
    replace g4 := g4.below hb
    replace b0 := b0.below hb
    replace b9 := b9.below hb
    replace b3 := b3.below hb
    replace b4 := b4.below hb
    replace H0 := H0.trans (hb.mono H0.size)
    clear hb
    clear h'
    have lb0_5 := b0.lt
    have lb9_5 := b9.lt
    have lb3_5 := b3.lt
    have lb4_5 := b4.lt
    obtain ⟨W5, hW, b5, hbW, hszW5⟩ := boxes1 w4 #[.bool s5, .slice A5 n5 c5] 28
    skip
    skip
    replace g3 := g3.below hbW
    replace g4 := g4.below hbW
    replace g5 := g5.below hbW
    replace g6 := g6.below hbW
    replace b0 := b0.below hbW
    replace b9 := b9.below hbW
    replace b3 := b3.below hbW
    replace b4 := b4.below hbW
    replace H0 := H0.trans (hbW.mono H0.size)
    clear hbW
    have hWa := hW
    clear hW
    have lb0_6 := b0.lt
    have lb9_6 := b9.lt
    have lb3_6 := b3.lt
    have lb4_6 := b4.lt
    have lb5_6 := b5.lt
    obtain ⟨W6, hW, b6, hbW, hszW6⟩ := boxes1 W5 #[.bool s6, .slice A6 n6 c6] 28
    skip
    skip
    replace g3 := g3.below hbW
    replace g4 := g4.below hbW
    replace g5 := g5.below hbW
    replace g6 := g6.below hbW
    replace b0 := b0.below hbW
    replace b9 := b9.below hbW
    replace b3 := b3.below hbW
    replace b4 := b4.below hbW
    replace b5 := b5.below hbW
    replace H0 := H0.trans (hbW.mono H0.size)
    clear hbW
    have hWb := hW
    clear hW
    rw [hszW5] at b6
    have cb40 := b4.cell 0 _ rfl
    have cb41 := b4.cell 1 _ rfl
    have cb60 := b6.cell 0 _ rfl
    have cb61 := b6.cell 1 _ rfl
    go_wp2_with fail
    clear hWa hWb
    clear cb40 cb41 cb60 cb61
    refine (icmp_is g4.ri g6.ri HK.out).mono ?_
    rintro e w7 ⟨rfl, hb⟩
    replace g3 := g3.below hb
    replace g4 := g4.below hb
    replace g5 := g5.below hb
    replace g6 := g6.below hb
    replace b0 := b0.below hb
    replace b9 := b9.below hb
    replace b3 := b3.below hb
    replace b4 := b4.below hb
    replace b5 := b5.below hb
    replace b6 := b6.below hb
    replace H0 := H0.trans (hb.mono H0.size)
    clear hb
    have cb30 := b3.cell 0 _ rfl
    have cb31 := b3.cell 1 _ rfl
    have cb40 := b4.cell 0 _ rfl
    have cb41 := b4.cell 1 _ rfl
    have cb50 := b5.cell 0 _ rfl
    have cb51 := b5.cell 1 _ rfl
    have cb60 := b6.cell 0 _ rfl
    have cb61 := b6.cell 1 _ rfl
    go_wp2_with fail
    clear cb30 cb31 cb40 cb41 cb50 cb51 cb60 cb61
    have hD := drawn_below w7
    replace g3 := g3.below hD
    replace g4 := g4.below hD
    replace g5 := g5.below hD
    replace g6 := g6.below hD
    replace b0 := b0.below hD
    replace b9 := b9.below hD
    replace b3 := b3.below hD
    replace b4 := b4.below hD
    replace b5 := b5.below hD
    replace b6 := b6.below hD
    replace H0 := H0.trans (hD.mono H0.size)
    clear hD
    refine wp_region_noPanic ?_
    refine wp_region_held_drew (S := (fun V => V.cell? ⟨w1.heap.size, 0, none⟩ = some (.bool s3) ∧ V.cell? ⟨w1.heap.size, 1, none⟩ = some (.slice A3 n3 c3) ∧ V.cell? ⟨w1.heap.size + 1, 0, none⟩ = some (.bool s4) ∧ V.cell? ⟨w1.heap.size + 1, 1, none⟩ = some (.slice A4 n4 c4) ∧ V.cell? ⟨w4.heap.size, 0, none⟩ = some (.bool s5) ∧ V.cell? ⟨w4.heap.size, 1, none⟩ = some (.slice A5 n5 c5) ∧ V.cell? ⟨w4.heap.size + 1, 0, none⟩ = some (.bool s6) ∧ V.cell? ⟨w4.heap.size + 1, 1, none⟩ = some (.slice A6 n6 c6))) (by kernel_rfl) ⟨b3.cell 0 _ rfl, b3.cell 1 _ rfl, b4.cell 0 _ rfl, b4.cell 1 _ rfl, b5.cell 0 _ rfl, b5.cell 1 _ rfl, b6.cell 0 _ rfl, b6.cell 1 _ rfl⟩ (fun hHeld => ?_)
    generalize w7.drew = v8 at H0 hHeld g3 g4 g5 g6 b0 b9 b3 b4 b5 b6 ⊢
    refine wpAnyH_take (i := 0) (v := ?_) rfl (by kernel_rfl) (by kernel_rfl) (by kernel_rfl) (fun _ _ _ h => h) (Or.inl ⟨by rfl, ?_⟩) (by assumption) ?_
    rotate_left
    · (intro w hSw; (try dsimp only at hSw); go_simp; (try with_reducible rfl))
    (try simp only [List.getElem_toArray, List.getElem_cons_zero, Act.put, List.setIfInBounds_toArray, List.set_cons_zero, List.set_cons_succ])
    refine wpAnyH_take (i := 1) (v := ?_) rfl (by kernel_rfl) (by kernel_rfl) (by kernel_rfl) (fun _ _ _ h => h) (Or.inl ⟨by rfl, ?_⟩) (by assumption) ?_
    rotate_left
    · (intro w hSw; (try dsimp only at hSw); go_simp; (try with_reducible rfl))
    (try simp only [List.getElem_toArray, List.getElem_cons_succ, List.getElem_cons_zero, Act.put, List.setIfInBounds_toArray, List.set_cons_zero, List.set_cons_succ])
    refine wpAnyH_take (i := 3) (v := ?_) rfl (by kernel_rfl) (by kernel_rfl) (by kernel_rfl) (fun _ _ _ h => h) (Or.inl ⟨by rfl, ?_⟩) (by assumption) ?_
    rotate_left
    · (intro w hSw; (try dsimp only at hSw); go_simp; (try with_reducible rfl))
    (try simp only [List.getElem_toArray, List.getElem_cons_succ, List.getElem_cons_zero, Act.put, List.setIfInBounds_toArray, List.set_cons_zero, List.set_cons_succ])
    refine wpAnyH_take (i := 4) (v := ?_) rfl (by kernel_rfl) (by kernel_rfl) (by kernel_rfl) (fun _ _ _ h => h) (Or.inl ⟨by rfl, ?_⟩) (by assumption) ?_
    rotate_left
    · (intro w hSw; (try dsimp only at hSw); go_simp; (try with_reducible rfl))
    (try simp only [List.getElem_toArray, List.getElem_cons_succ, List.getElem_cons_zero, Act.put, List.setIfInBounds_toArray, List.set_cons_zero, List.set_cons_succ])
    refine wpAnyH_take (i := 6) (v := ?_) rfl (by kernel_rfl) (by kernel_rfl) (by kernel_rfl) (fun _ _ _ h => h) (Or.inl ⟨by rfl, ?_⟩) (by assumption) ?_
    rotate_left
    · (intro w hSw; (try dsimp only at hSw); go_simp; (try with_reducible rfl))
    (try simp only [List.getElem_toArray, List.getElem_cons_succ, List.getElem_cons_zero, Act.put, List.setIfInBounds_toArray, List.set_cons_zero, List.set_cons_succ])
    refine wpAnyH_take (i := 7) (v := ?_) rfl (by kernel_rfl) (by kernel_rfl) (by kernel_rfl) (fun _ _ _ h => h) (Or.inl ⟨by rfl, ?_⟩) (by assumption) ?_
    rotate_left
    · (intro w hSw; (try dsimp only at hSw); go_simp; (try with_reducible rfl))
    (try simp only [List.getElem_toArray, List.getElem_cons_succ, List.getElem_cons_zero, Act.put, List.setIfInBounds_toArray, List.set_cons_zero, List.set_cons_succ])
    refine wpAnyH_ready (rs := [2]) (by kernel_rfl) (by simp) (AllReadyH.cons (o := _) rfl (fun K hK => ?_) AllReadyH.nil)
    go_simp
    go_at_call 92
    refine (imul_v g3.ri g6.ri (by omega) (by omega)).mono ?_
    rintro e w9 ⟨s7, A7, n7, c7, rfl, g7, hb⟩
    replace g3 := g3.below hb
    replace g4 := g4.below hb
    replace g5 := g5.below hb
    replace g6 := g6.below hb
    replace b0 := b0.below hb
    replace b9 := b9.below hb
    replace b3 := b3.below hb
    replace b4 := b4.below hb
    replace b5 := b5.below hb
    replace b6 := b6.below hb
    replace H0 := H0.trans (hb.mono H0.size)
    clear hb
    go_wp2_with fail
    refine hK.out _ _ ⟨b3.cell 0 _ rfl, b3.cell 1 _ rfl, b4.cell 0 _ rfl, b4.cell 1 _ rfl, b5.cell 0 _ rfl, b5.cell 1 _ rfl, b6.cell 0 _ rfl, b6.cell 1 _ rfl⟩ (fun hHeld => ?_)
    clear hK K
    (try simp only [List.getElem_toArray, List.getElem_cons_succ, List.getElem_cons_zero, Act.put, List.setIfInBounds_toArray, List.set_cons_zero, List.set_cons_succ])
    refine wpAnyH_ready (rs := [5]) (by kernel_rfl) (by simp) (AllReadyH.cons (o := _) rfl (fun K hK => ?_) AllReadyH.nil)
    go_simp
    go_at_call 92
    refine (imul_v g5.ri g4.ri (by omega) (by omega)).mono ?_
    rintro e w10 ⟨s8, A8, n8, c8, rfl, g8, hb⟩
    replace g3 := g3.below hb
    replace g4 := g4.below hb
    replace g5 := g5.below hb
    replace g6 := g6.below hb
    replace g7 := g7.below hb
    replace b0 := b0.below hb
    replace b9 := b9.below hb
    replace b3 := b3.below hb
    replace b4 := b4.below hb
    replace b5 := b5.below hb
    replace b6 := b6.below hb
    replace H0 := H0.trans (hb.mono H0.size)
    clear hb
    go_wp2_with fail
    refine hK.out _ _ ⟨b3.cell 0 _ rfl, b3.cell 1 _ rfl, b4.cell 0 _ rfl, b4.cell 1 _ rfl, b5.cell 0 _ rfl, b5.cell 1 _ rfl, b6.cell 0 _ rfl, b6.cell 1 _ rfl⟩ (fun hHeld => ?_)
    clear hK K
    (try simp only [List.getElem_toArray, List.getElem_cons_succ, List.getElem_cons_zero, Act.put, List.setIfInBounds_toArray, List.set_cons_zero, List.set_cons_succ])
    refine wpAnyH_ready (rs := [8]) (by kernel_rfl) (by simp) (AllReadyH.cons (o := _) rfl (fun K hK => ?_) AllReadyH.nil)
    go_simp
    go_at_call 92
    refine (imul_v g4.ri g6.ri (by omega) (by omega)).mono ?_
    rintro e w11 ⟨s9, A9, n9, c9, rfl, g9, hb⟩
    replace g3 := g3.below hb
    replace g4 := g4.below hb
    replace g5 := g5.below hb
    replace g6 := g6.below hb
    replace g7 := g7.below hb
    replace g8 := g8.below hb
    replace b0 := b0.below hb
    replace b9 := b9.below hb
    replace b3 := b3.below hb
    replace b4 := b4.below hb
    replace b5 := b5.below hb
    replace b6 := b6.below hb
    replace H0 := H0.trans (hb.mono H0.size)
    clear hb
    go_wp2_with fail
    refine hK.out _ _ ⟨b3.cell 0 _ rfl, b3.cell 1 _ rfl, b4.cell 0 _ rfl, b4.cell 1 _ rfl, b5.cell 0 _ rfl, b5.cell 1 _ rfl, b6.cell 0 _ rfl, b6.cell 1 _ rfl⟩ (fun hHeld => ?_)
    clear hK K
    (try simp only [List.getElem_toArray, List.getElem_cons_succ, List.getElem_cons_zero, Act.put, List.setIfInBounds_toArray, List.set_cons_zero, List.set_cons_succ])
    refine wpAnyH_take (i := 9) (v := ?_) rfl (by kernel_rfl) (by kernel_rfl) (by kernel_rfl) (fun _ _ _ h => h) (Or.inl ⟨by rfl, ?_⟩) (by assumption) ?_
    rotate_left
    · (intro w hSw; (try dsimp only at hSw); go_simp; (try with_reducible rfl))
    (try simp only [List.getElem_toArray, List.getElem_cons_succ, List.getElem_cons_zero, Act.put, List.setIfInBounds_toArray, List.set_cons_zero, List.set_cons_succ])
    have cb90 := b9.cell 0 _ rfl
    have yb90 := b9.frozen 0
    have cb91 := b9.cell 1 _ rfl
    have yb91 := b9.frozen 1
    have cb92 := b9.cell 2 _ rfl
    have yb92 := b9.frozen 2
    have cb93 := b9.cell 3 _ rfl
    have yb93 := b9.frozen 3
    have cb94 := b9.cell 4 _ rfl
    have yb94 := b9.frozen 4
    have cb95 := b9.cell 5 _ rfl
    have yb95 := b9.frozen 5
    refine wpAnyH_ready (rs := [10]) (by kernel_rfl) (by simp) (AllReadyH.cons (o := _) rfl (fun K hK => ?_) AllReadyH.nil)
    go_simp
    clear cb90 yb90 cb91 yb91 cb92 yb92 cb93 yb93 cb94 yb94 cb95 yb95
    have hg := only_store6 w11 (w.heap.size + 1) (.bool s7) (.slice A7 n7 c7) (.bool s8) (.slice A8 n8 c8) (.bool s9) (.slice A9 n9 c9)
    have hB := b9.stored6 (.bool s7) (.slice A7 n7 c7) (.bool s8) (.slice A8 n8 c8) (.bool s9) (.slice A9 n9 c9)
    generalize hX : ((((((w11.setCell ⟨w.heap.size + 1, 0, none⟩ (.bool s7)).setCell ⟨w.heap.size + 1, 1, none⟩ (.slice A7 n7 c7)).setCell ⟨w.heap.size + 1, 2, none⟩ (.bool s8)).setCell ⟨w.heap.size + 1, 3, none⟩ (.slice A8 n8 c8)).setCell ⟨w.heap.size + 1, 4, none⟩ (.bool s9)).setCell ⟨w.heap.size + 1, 5, none⟩ (.slice A9 n9 c9)) = X12 at hg hB ⊢
    clear hX
    replace g3 := g3.kept b9 (by simp [notInt]) hg
    replace g4 := g4.kept b9 (by simp [notInt]) hg
    replace g5 := g5.kept b9 (by simp [notInt]) hg
    replace g6 := g6.kept b9 (by simp [notInt]) hg
    replace g7 := g7.kept b9 (by simp [notInt]) hg
    replace g8 := g8.kept b9 (by simp [notInt]) hg
    replace g9 := g9.kept b9 (by simp [notInt]) hg
    replace b0 := b0.other hg (by omega)
    replace b3 := b3.other hg (by omega)
    replace b4 := b4.other hg (by omega)
    replace b5 := b5.other hg (by omega)
    replace b6 := b6.other hg (by omega)
    replace b9 := hB
    replace H0 := below_only H0 hg (by omega) H0.size
    clear hg hB
    refine hK.out _ _ ⟨b3.cell 0 _ rfl, b3.cell 1 _ rfl, b4.cell 0 _ rfl, b4.cell 1 _ rfl, b5.cell 0 _ rfl, b5.cell 1 _ rfl, b6.cell 0 _ rfl, b6.cell 1 _ rfl⟩ (fun hHeld => ?_)
    clear hK K
    (try simp only [List.getElem_toArray, List.getElem_cons_succ, List.getElem_cons_zero, Act.put, List.setIfInBounds_toArray, List.set_cons_zero, List.set_cons_succ])
    refine wpAnyH_done (by kernel_rfl) ?_ _
    refine NoPanic.normal ?_
    go_wp2_with fail
    refine bodyPost_ret (ret_coord rfl rfl b9) rfl ?_
    exact ⟨q0.num * (q1.den : Int), q1.num * (q0.den : Int), (q0.den : Int) * (q1.den : Int), _, _, _, _, _, _, _, _, _, _, _, _, rfl, g7.more (by omega), g8.more (by omega), g9.more (by omega), hom_mul q0 q1, H0⟩
end
end Go.Proofs.YtfonldogbfkpiaaGreat
