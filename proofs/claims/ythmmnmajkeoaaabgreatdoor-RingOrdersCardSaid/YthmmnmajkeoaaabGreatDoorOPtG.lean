/-
  The reference's points.
-/
import Derived.Test.YthmmnmajkeoaaabGreatDoorOPtA
import Derived.Test.YthmmnmajkeoaaabGreatDoorORatS
namespace Go.Proofs.YthmmnmajkeoaaabGreatDoor
open Go.RowKit

section
variable {A0 A1 A2 A3 A4 A5 A6 A7 D0 D1 D2 D3 D4 D5 D6 D7 : Option Addr} {n0 n1 n2 n3 n4 n5 n6 n7 c0 c1 c2 c3 c4 c5 c6 c7 m0 m1 m2 m3 m4 m5 m6 m7 e0 e1 e2 e3 e4 e5 e6 e7 : Nat} {s0 s1 s2 s3 s4 s5 s6 s7 : Bool} {q0 q1 q2 q3 q4 q5 q6 q7 : Rat} {z z' z0 z1 : Int} {L L0 L1 x x0 x1 y : Nat} {k : Int} {b : Bool} {w : World}
set_option maxRecDepth 100000 in
set_option maxHeartbeats 4000000 in
theorem gtop_v (h : PQ w s0 (.slice A0 n0 c0) (.slice D0 m0 e0) q0 L) (h' : PQ w s1 (.slice A1 n1 c1) (.slice D1 m1 e1) q1 L) (hL : L ≤ 100000) :
    Calls Tryz.prog 23 #[.agg #[.bool s0, .slice A0 n0 c0, .slice D0 m0 e0, .bool s1, .slice A1 n1 c1, .slice D1 m1 e1]] w fun e w' => ∃ s2 A2 n2 c2 D2 m2 e2 s3 A3 n3 c3 D3 m3 e3, e = .returned (.agg #[.bool s2, .slice A2 n2 c2, .slice D2 m2 e2, .bool s3, .slice A3 n3 c3, .slice D3 m3 e3]) ∧ NQ w' s2 (.slice A2 n2 c2) (.slice D2 m2 e2) q0 (max L 1) ∧ NQ w' s3 (.slice A3 n3 c3) (.slice D3 m3 e3) q1 (max L 1) ∧ Below w.heap.size w w' := by
  go_enter Tryz.func23, Tryz.ntmps23
  go_wp2_with fail
  obtain ⟨W0, hW, b0, b9, hbW, hszW0⟩ := boxes2 w #[.bool s0, .slice A0 n0 c0, .slice D0 m0 e0, .bool s1, .slice A1 n1 c1, .slice D1 m1 e1] #[.bool false, .slice none 0 0, .slice none 0 0, .bool false, .slice none 0 0, .slice none 0 0] 51 65
  rw [hW]
  clear hW
  replace h := h.below hbW
  replace h' := h'.below hbW
  have H0 := hbW
  clear hbW
  have hD := drawn_below W0
  replace h := h.below hD
  replace h' := h'.below hD
  replace b0 := b0.below hD
  replace b9 := b9.below hD
  replace H0 := H0.trans (hD.mono H0.size)
  clear hD
  refine wp_region_noPanic ?_
  refine wp_region_held_drew (S := (fun V => V.cell? ⟨w.heap.size, 0, none⟩ = some (.bool s0) ∧ V.cell? ⟨w.heap.size, 1, none⟩ = some (.slice A0 n0 c0) ∧ V.cell? ⟨w.heap.size, 2, none⟩ = some (.slice D0 m0 e0) ∧ V.cell? ⟨w.heap.size, 3, none⟩ = some (.bool s1) ∧ V.cell? ⟨w.heap.size, 4, none⟩ = some (.slice A1 n1 c1) ∧ V.cell? ⟨w.heap.size, 5, none⟩ = some (.slice D1 m1 e1))) (by kernel_rfl) ⟨b0.cell 0 _ rfl, b0.cell 1 _ rfl, b0.cell 2 _ rfl, b0.cell 3 _ rfl, b0.cell 4 _ rfl, b0.cell 5 _ rfl⟩ (fun hHeld => ?_)
  generalize W0.drew = v1 at H0 hHeld h h' b0 b9 ⊢
  refine wpAnyH_take (i := 0) (v := ?_) rfl (by kernel_rfl) (by kernel_rfl) (by kernel_rfl) (fun _ _ _ h => h) (Or.inl ⟨by rfl, ?_⟩) (by assumption) ?_
  rotate_left
  · (intro w hSw; (try dsimp only at hSw); go_simp; (try with_reducible rfl))
  (try simp only [List.getElem_toArray, List.getElem_cons_zero, Act.put, List.setIfInBounds_toArray, List.set_cons_zero, List.set_cons_succ])
  refine wpAnyH_take (i := 3) (v := ?_) rfl (by kernel_rfl) (by kernel_rfl) (by kernel_rfl) (fun _ _ _ h => h) (Or.inl ⟨by rfl, ?_⟩) (by assumption) ?_
  rotate_left
  · (intro w hSw; (try dsimp only at hSw); go_simp; (try with_reducible rfl))
  (try simp only [List.getElem_toArray, List.getElem_cons_succ, List.getElem_cons_zero, Act.put, List.setIfInBounds_toArray, List.set_cons_zero, List.set_cons_succ])
  refine wpAnyH_take (i := 1) (v := ?_) rfl (by kernel_rfl) (by kernel_rfl) (by kernel_rfl) (fun _ _ _ h => h) (Or.inl ⟨by rfl, ?_⟩) (by assumption) ?_
  rotate_left
  · (intro w hSw; (try dsimp only at hSw); go_simp; (try with_reducible rfl))
  (try simp only [List.getElem_toArray, List.getElem_cons_succ, List.getElem_cons_zero, Act.put, List.setIfInBounds_toArray, List.set_cons_zero, List.set_cons_succ])
  refine wpAnyH_take (i := 4) (v := ?_) rfl (by kernel_rfl) (by kernel_rfl) (by kernel_rfl) (fun _ _ _ h => h) (Or.inl ⟨by rfl, ?_⟩) (by assumption) ?_
  rotate_left
  · (intro w hSw; (try dsimp only at hSw); go_simp; (try with_reducible rfl))
  (try simp only [List.getElem_toArray, List.getElem_cons_succ, List.getElem_cons_zero, Act.put, List.setIfInBounds_toArray, List.set_cons_zero, List.set_cons_succ])
  refine wpAnyH_ready (rs := [2]) (by kernel_rfl) (by simp) (AllReadyH.cons (o := _) rfl (fun K hK => ?_) AllReadyH.nil)
  go_simp
  go_at_call 41
  refine (toq_v h hL).mono ?_
  rintro e w2 ⟨s2, A2, n2, c2, D2, m2, e2, rfl, g2, hb⟩
  replace h := h.below hb
  replace h' := h'.below hb
  replace b0 := b0.below hb
  replace b9 := b9.below hb
  replace H0 := H0.trans (hb.mono H0.size)
  clear hb
  go_wp2_with fail
  refine hK.out _ _ ⟨b0.cell 0 _ rfl, b0.cell 1 _ rfl, b0.cell 2 _ rfl, b0.cell 3 _ rfl, b0.cell 4 _ rfl, b0.cell 5 _ rfl⟩ (fun hHeld => ?_)
  clear hK K
  (try simp only [List.getElem_toArray, List.getElem_cons_succ, List.getElem_cons_zero, Act.put, List.setIfInBounds_toArray, List.set_cons_zero, List.set_cons_succ])
  refine wpAnyH_ready (rs := [5]) (by kernel_rfl) (by simp) (AllReadyH.cons (o := _) rfl (fun K hK => ?_) AllReadyH.nil)
  go_simp
  go_at_call 41
  refine (toq_v h' hL).mono ?_
  rintro e w3 ⟨s3, A3, n3, c3, D3, m3, e3, rfl, g3, hb⟩
  replace h := h.below hb
  replace h' := h'.below hb
  replace g2 := g2.below hb
  replace b0 := b0.below hb
  replace b9 := b9.below hb
  replace H0 := H0.trans (hb.mono H0.size)
  clear hb
  go_wp2_with fail
  refine hK.out _ _ ⟨b0.cell 0 _ rfl, b0.cell 1 _ rfl, b0.cell 2 _ rfl, b0.cell 3 _ rfl, b0.cell 4 _ rfl, b0.cell 5 _ rfl⟩ (fun hHeld => ?_)
  clear hK K
  (try simp only [List.getElem_toArray, List.getElem_cons_succ, List.getElem_cons_zero, Act.put, List.setIfInBounds_toArray, List.set_cons_zero, List.set_cons_succ])
  refine wpAnyH_take (i := 6) (v := ?_) rfl (by kernel_rfl) (by kernel_rfl) (by kernel_rfl) (fun _ _ _ h => h) (Or.inl ⟨by rfl, ?_⟩) (by assumption) ?_
  rotate_left
  · (intro w hSw; (try dsimp only at hSw); go_simp; (try with_reducible rfl))
  (try simp only [List.getElem_toArray, List.getElem_cons_succ, List.getElem_cons_zero, Act.put, List.setIfInBounds_toArray, List.set_cons_zero, List.set_cons_succ])
  have cb90 := b9.cell 0 _ rfl
  have yb90 := b9.frozen 0
  have cb91 := b9.cell 1 _ rfl
  have yb91 := b9.frozen 1
  have cb92 := b9.cell 2 _ rfl
  have yb92 := b9.frozen 2
  have cb93 := b9.cell 3 _ rfl
  have yb93 := b9.frozen 3
  have cb94 := b9.cell 4 _ rfl
  have yb94 := b9.frozen 4
  have cb95 := b9.cell 5 _ rfl
  have yb95 := b9.frozen 5
  refine wpAnyH_ready (rs := [7]) (by kernel_rfl) (by simp) (AllReadyH.cons (o := _) rfl (fun K hK => ?_) AllReadyH.nil)
  go_simp
  clear cb90 yb90 cb91 yb91 cb92 yb92 cb93 yb93 cb94 yb94 cb95 yb95
  have hg := only_store6 w3 (w.heap.size + 1) (.bool s2) (.slice A2 n2 c2) (.slice D2 m2 e2) (.bool s3) (.slice A3 n3 c3) (.slice D3 m3 e3)
  have hB := b9.stored6 (.bool s2) (.slice A2 n2 c2) (.slice D2 m2 e2) (.bool s3) (.slice A3 n3 c3) (.slice D3 m3 e3)
  generalize hX : ((((((w3.setCell ⟨w.heap.size + 1, 0, none⟩ (.bool s2)).setCell ⟨w.heap.size + 1, 1, none⟩ (.slice A2 n2 c2)).setCell ⟨w.heap.size + 1, 2, none⟩ (.slice D2 m2 e2)).setCell ⟨w.heap.size + 1, 3, none⟩ (.bool s3)).setCell ⟨w.heap.size + 1, 4, none⟩ (.slice A3 n3 c3)).setCell ⟨w.heap.size + 1, 5, none⟩ (.slice D3 m3 e3)) = X4 at hg hB ⊢
  clear hX
  replace h := h.kept b9 (by simp [notInt]) hg
  replace h' := h'.kept b9 (by simp [notInt]) hg
  replace g2 := g2.kept b9 (by simp [notInt]) hg
  replace g3 := g3.kept b9 (by simp [notInt]) hg
  replace b0 := b0.other hg (by omega)
  replace b9 := hB
  replace H0 := below_only H0 hg (by omega) H0.size
  clear hg hB
  refine hK.out _ _ ⟨b0.cell 0 _ rfl, b0.cell 1 _ rfl, b0.cell 2 _ rfl, b0.cell 3 _ rfl, b0.cell 4 _ rfl, b0.cell 5 _ rfl⟩ (fun hHeld => ?_)
  clear hK K
  (try simp only [List.getElem_toArray, List.getElem_cons_succ, List.getElem_cons_zero, Act.put, List.setIfInBounds_toArray, List.set_cons_zero, List.set_cons_succ])
  refine wpAnyH_done (by kernel_rfl) ?_ _
  refine NoPanic.normal ?_
  go_wp2_with fail
  refine bodyPost_ret (ret_point rfl rfl b9) rfl ?_
  exact ⟨s2, A2, n2, c2, D2, m2, e2, s3, A3, n3, c3, D3, m3, e3, rfl, g2, g3, H0⟩
set_option maxRecDepth 100000 in
set_option maxHeartbeats 4000000 in
theorem samep_t (h : NQ w s0 (.slice A0 n0 c0) (.slice D0 m0 e0) q0 L) (h' : NQ w s1 (.slice A1 n1 c1) (.slice D1 m1 e1) q1 L) (k1 : NQ w s2 (.slice A2 n2 c2) (.slice D2 m2 e2) q2 L0) (k1' : NQ w s3 (.slice A3 n3 c3) (.slice D3 m3 e3) q3 L0) (he : q0 = q2) (he' : q1 = q3) :
    Calls Tryz.prog 34 #[.agg #[.bool s0, .slice A0 n0 c0, .slice D0 m0 e0, .bool s1, .slice A1 n1 c1, .slice D1 m1 e1], .agg #[.bool s2, .slice A2 n2 c2, .slice D2 m2 e2, .bool s3, .slice A3 n3 c3, .slice D3 m3 e3]] w fun e w' => e = .returned (.bool true) ∧ Below w.heap.size w w' := by
  have HE := Lib.hid (decide_eq_true he)
  have HF := Lib.hid (decide_eq_true he')
  clear he he'
  go_enter Tryz.func34, Tryz.ntmps34
  go_wp2_with fail
  obtain ⟨W0, hW, b0, b1, hbW, hszW0⟩ := boxes2 w #[.bool s0, .slice A0 n0 c0, .slice D0 m0 e0, .bool s1, .slice A1 n1 c1, .slice D1 m1 e1] #[.bool s2, .slice A2 n2 c2, .slice D2 m2 e2, .bool s3, .slice A3 n3 c3, .slice D3 m3 e3] 65 65
  rw [hW]
  clear hW
  replace h := h.below hbW
  replace h' := h'.below hbW
  replace k1 := k1.below hbW
  replace k1' := k1'.below hbW
  have H0 := hbW
  clear hbW
  have cb00 := b0.cell 0 _ rfl
  have cb01 := b0.cell 1 _ rfl
  have cb02 := b0.cell 2 _ rfl
  have cb03 := b0.cell 3 _ rfl
  have cb04 := b0.cell 4 _ rfl
  have cb05 := b0.cell 5 _ rfl
  have cb10 := b1.cell 0 _ rfl
  have cb11 := b1.cell 1 _ rfl
  have cb12 := b1.cell 2 _ rfl
  have cb13 := b1.cell 3 _ rfl
  have cb14 := b1.cell 4 _ rfl
  have cb15 := b1.cell 5 _ rfl
  go_wp2_with fail
  clear cb00 cb01 cb02 cb03 cb04 cb05 cb10 cb11 cb12 cb13 cb14 cb15
  refine (sameq_d h k1 HE.out).mono ?_
  rintro e w1 ⟨rfl, hb⟩
  replace h := h.below hb
  replace h' := h'.below hb
  replace k1 := k1.below hb
  replace k1' := k1'.below hb
  replace b0 := b0.below hb
  replace b1 := b1.below hb
  replace H0 := H0.trans (hb.mono H0.size)
  clear hb
  have cb00 := b0.cell 0 _ rfl
  have cb01 := b0.cell 1 _ rfl
  have cb02 := b0.cell 2 _ rfl
  have cb03 := b0.cell 3 _ rfl
  have cb04 := b0.cell 4 _ rfl
  have cb05 := b0.cell 5 _ rfl
  have cb10 := b1.cell 0 _ rfl
  have cb11 := b1.cell 1 _ rfl
  have cb12 := b1.cell 2 _ rfl
  have cb13 := b1.cell 3 _ rfl
  have cb14 := b1.cell 4 _ rfl
  have cb15 := b1.cell 5 _ rfl
  go_wp2_with fail
  clear cb00 cb01 cb02 cb03 cb04 cb05 cb10 cb11 cb12 cb13 cb14 cb15
  refine (sameq_d h' k1' HF.out).mono ?_
  rintro e w2 ⟨rfl, hb⟩
  replace h := h.below hb
  replace h' := h'.below hb
  replace k1 := k1.below hb
  replace k1' := k1'.below hb
  replace b0 := b0.below hb
  replace b1 := b1.below hb
  replace H0 := H0.trans (hb.mono H0.size)
  clear hb
  go_wp2_with fail
  go_returns
  exact ⟨rfl, H0⟩
set_option maxRecDepth 100000 in
set_option maxHeartbeats 800000 in
theorem gxy_v (z z' : Int) (h0 : -9223372036854775808 ≤ z) (h1 : z ≤ 9223372036854775807) (h2 : -9223372036854775808 ≤ z') (h3 : z' ≤ 9223372036854775807) (w : World) :
    Calls Tryz.prog 14 #[.int .i64 z, .int .i64 z'] w fun e w' => ∃ s2 A2 n2 c2 D2 m2 e2 s3 A3 n3 c3 D3 m3 e3, e = .returned (.agg #[.bool s2, .slice A2 n2 c2, .slice D2 m2 e2, .bool s3, .slice A3 n3 c3, .slice D3 m3 e3]) ∧ PQ w' s2 (.slice A2 n2 c2) (.slice D2 m2 e2) (z : Rat) (2) ∧ PQ w' s3 (.slice A3 n3 c3) (.slice D3 m3 e3) (z' : Rat) (2) ∧ Below w.heap.size w w' := by
  go_enter Tryz.func14, Tryz.ntmps14
  go_wp2_with fail
  obtain ⟨W0, hW, b9, hbW, hszW0⟩ := boxes1 w #[.bool false, .slice none 0 0, .slice none 0 0, .bool false, .slice none 0 0, .slice none 0 0] 51
  rw [hW]
  clear hW
  have H0 := hbW
  clear hbW
  refine (nof_v z h0 h1 _).mono ?_
  rintro e w1 ⟨s2, A2, n2, c2, D2, m2, e2, rfl, g2, hb⟩
  replace b9 := b9.below hb
  replace H0 := H0.trans (hb.mono H0.size)
  clear hb
  go_wp2_with fail
  refine (nof_v z' h2 h3 _).mono ?_
  rintro e w2 ⟨s3, A3, n3, c3, D3, m3, e3, rfl, g3, hb⟩
  replace g2 := g2.below hb
  replace b9 := b9.below hb
  replace H0 := H0.trans (hb.mono H0.size)
  clear hb
  have cb90 := b9.cell 0 _ rfl
  have yb90 := b9.frozen 0
  have cb91 := b9.cell 1 _ rfl
  have yb91 := b9.frozen 1
  have cb92 := b9.cell 2 _ rfl
  have yb92 := b9.frozen 2
  have cb93 := b9.cell 3 _ rfl
  have yb93 := b9.frozen 3
  have cb94 := b9.cell 4 _ rfl
  have yb94 := b9.frozen 4
  have cb95 := b9.cell 5 _ rfl
  have yb95 := b9.frozen 5
  go_wp2_with fail
  clear cb90 yb90 cb91 yb91 cb92 yb92 cb93 yb93 cb94 yb94 cb95 yb95
  have hg := only_store6 w2 (w.heap.size) (.bool s2) (.slice A2 n2 c2) (.slice D2 m2 e2) (.bool s3) (.slice A3 n3 c3) (.slice D3 m3 e3)
  have hB := b9.stored6 (.bool s2) (.slice A2 n2 c2) (.slice D2 m2 e2) (.bool s3) (.slice A3 n3 c3) (.slice D3 m3 e3)
  generalize hX : ((((((w2.setCell ⟨w.heap.size, 0, none⟩ (.bool s2)).setCell ⟨w.heap.size, 1, none⟩ (.slice A2 n2 c2)).setCell ⟨w.heap.size, 2, none⟩ (.slice D2 m2 e2)).setCell ⟨w.heap.size, 3, none⟩ (.bool s3)).setCell ⟨w.heap.size, 4, none⟩ (.slice A3 n3 c3)).setCell ⟨w.heap.size, 5, none⟩ (.slice D3 m3 e3)) = X3 at hg hB ⊢
  clear hX
  replace g2 := g2.kept b9 (by simp [notInt]) hg
  replace g3 := g3.kept b9 (by simp [notInt]) hg
  replace b9 := hB
  replace H0 := below_only H0 hg (by omega) H0.size
  clear hg hB
  refine bodyPost_ret (ret_geop rfl rfl b9) rfl ?_
  exact ⟨s2, A2, n2, c2, D2, m2, e2, s3, A3, n3, c3, D3, m3, e3, rfl, g2, g3, H0⟩
set_option maxRecDepth 100000 in
set_option maxHeartbeats 4000000 in
theorem gadd_v (h : PQ w s0 (.slice A0 n0 c0) (.slice D0 m0 e0) q0 L) (h' : PQ w s1 (.slice A1 n1 c1) (.slice D1 m1 e1) q1 L) (k1 : PQ w s2 (.slice A2 n2 c2) (.slice D2 m2 e2) q2 L0) (j : PQ w s3 (.slice A3 n3 c3) (.slice D3 m3 e3) q3 L1) (j' : PQ w s4 (.slice A4 n4 c4) (.slice D4 m4 e4) q4 L1) (hL : L ≤ 100) (hL0 : L0 ≤ 40) (hL1 : L1 ≤ 40) :
    Calls Tryz.prog 19 #[.agg #[.bool s0, .slice A0 n0 c0, .slice D0 m0 e0, .bool s1, .slice A1 n1 c1, .slice D1 m1 e1], .agg #[.bool s2, .slice A2 n2 c2, .slice D2 m2 e2], .agg #[.bool s3, .slice A3 n3 c3, .slice D3 m3 e3, .bool s4, .slice A4 n4 c4, .slice D4 m4 e4]] w fun e w' => ∃ s6 A6 n6 c6 D6 m6 e6 s7 A7 n7 c7 D7 m7 e7, e = .returned (.agg #[.bool s6, .slice A6 n6 c6, .slice D6 m6 e6, .bool s7, .slice A7 n7 c7, .slice D7 m7 e7]) ∧ PQ w' s6 (.slice A6 n6 c6) (.slice D6 m6 e6) (q0 + q2 * q3) (max L 1 + max L0 1 + max L1 1 + 2) ∧ PQ w' s7 (.slice A7 n7 c7) (.slice D7 m7 e7) (q1 + q2 * q4) (max L 1 + max L0 1 + max L1 1 + 2) ∧ Below w.heap.size w w' := by
  go_enter Tryz.func19, Tryz.ntmps19
  go_wp2_with fail
  obtain ⟨W0, hW, b0, b1, b2, b9, hbW, hszW0⟩ := boxes4 w #[.bool s0, .slice A0 n0 c0, .slice D0 m0 e0, .bool s1, .slice A1 n1 c1, .slice D1 m1 e1] #[.bool s2, .slice A2 n2 c2, .slice D2 m2 e2] #[.bool s3, .slice A3 n3 c3, .slice D3 m3 e3, .bool s4, .slice A4 n4 c4, .slice D4 m4 e4] #[.bool false, .slice none 0 0, .slice none 0 0, .bool false, .slice none 0 0, .slice none 0 0] 51 49 51 51
  rw [hW]
  clear hW
  replace h := h.below hbW
  replace h' := h'.below hbW
  replace k1 := k1.below hbW
  replace j := j.below hbW
  replace j' := j'.below hbW
  have H0 := hbW
  clear hbW
  have hD := drawn_below W0
  replace h := h.below hD
  replace h' := h'.below hD
  replace k1 := k1.below hD
  replace j := j.below hD
  replace j' := j'.below hD
  replace b0 := b0.below hD
  replace b1 := b1.below hD
  replace b2 := b2.below hD
  replace b9 := b9.below hD
  replace H0 := H0.trans (hD.mono H0.size)
  clear hD
  refine wp_region_noPanic ?_
  refine wp_region_held_drew (S := (fun V => V.cell? ⟨w.heap.size, 0, none⟩ = some (.bool s0) ∧ V.cell? ⟨w.heap.size, 1, none⟩ = some (.slice A0 n0 c0) ∧ V.cell? ⟨w.heap.size, 2, none⟩ = some (.slice D0 m0 e0) ∧ V.cell? ⟨w.heap.size, 3, none⟩ = some (.bool s1) ∧ V.cell? ⟨w.heap.size, 4, none⟩ = some (.slice A1 n1 c1) ∧ V.cell? ⟨w.heap.size, 5, none⟩ = some (.slice D1 m1 e1) ∧ V.cell? ⟨w.heap.size + 1, 0, none⟩ = some (.bool s2) ∧ V.cell? ⟨w.heap.size + 1, 1, none⟩ = some (.slice A2 n2 c2) ∧ V.cell? ⟨w.heap.size + 1, 2, none⟩ = some (.slice D2 m2 e2) ∧ V.cell? ⟨w.heap.size + 1 + 1, 0, none⟩ = some (.bool s3) ∧ V.cell? ⟨w.heap.size + 1 + 1, 1, none⟩ = some (.slice A3 n3 c3) ∧ V.cell? ⟨w.heap.size + 1 + 1, 2, none⟩ = some (.slice D3 m3 e3) ∧ V.cell? ⟨w.heap.size + 1 + 1, 3, none⟩ = some (.bool s4) ∧ V.cell? ⟨w.heap.size + 1 + 1, 4, none⟩ = some (.slice A4 n4 c4) ∧ V.cell? ⟨w.heap.size + 1 + 1, 5, none⟩ = some (.slice D4 m4 e4))) (by kernel_rfl) ⟨b0.cell 0 _ rfl, b0.cell 1 _ rfl, b0.cell 2 _ rfl, b0.cell 3 _ rfl, b0.cell 4 _ rfl, b0.cell 5 _ rfl, b1.cell 0 _ rfl, b1.cell 1 _ rfl, b1.cell 2 _ rfl, b2.cell 0 _ rfl, b2.cell 1 _ rfl, b2.cell 2 _ rfl, b2.cell 3 _ rfl, b2.cell 4 _ rfl, b2.cell 5 _ rfl⟩ (fun hHeld => ?_)
  generalize W0.drew = v1 at H0 hHeld h h' k1 j j' b0 b1 b2 b9 ⊢
  refine wpAnyH_take (i := 0) (v := ?_) rfl (by kernel_rfl) (by kernel_rfl) (by kernel_rfl) (fun _ _ _ h => h) (Or.inl ⟨by rfl, ?_⟩) (by assumption) ?_
  rotate_left
  · (intro w hSw; (try dsimp only at hSw); go_simp; (try with_reducible rfl))
  (try simp only [List.getElem_toArray, List.getElem_cons_zero, Act.put, List.setIfInBounds_toArray, List.set_cons_zero, List.set_cons_succ])
  refine wpAnyH_take (i := 2) (v := ?_) rfl (by kernel_rfl) (by kernel_rfl) (by kernel_rfl) (fun _ _ _ h => h) (Or.inl ⟨by rfl, ?_⟩) (by assumption) ?_
  rotate_left
  · (intro w hSw; (try dsimp only at hSw); go_simp; (try with_reducible rfl))
  (try simp only [List.getElem_toArray, List.getElem_cons_succ, List.getElem_cons_zero, Act.put, List.setIfInBounds_toArray, List.set_cons_zero, List.set_cons_succ])
  refine wpAnyH_take (i := 3) (v := ?_) rfl (by kernel_rfl) (by kernel_rfl) (by kernel_rfl) (fun _ _ _ h => h) (Or.inl ⟨by rfl, ?_⟩) (by assumption) ?_
  rotate_left
  · (intro w hSw; (try dsimp only at hSw); go_simp; (try with_reducible rfl))
  (try simp only [List.getElem_toArray, List.getElem_cons_succ, List.getElem_cons_zero, Act.put, List.setIfInBounds_toArray, List.set_cons_zero, List.set_cons_succ])
  refine wpAnyH_take (i := 7) (v := ?_) rfl (by kernel_rfl) (by kernel_rfl) (by kernel_rfl) (fun _ _ _ h => h) (Or.inl ⟨by rfl, ?_⟩) (by assumption) ?_
  rotate_left
  · (intro w hSw; (try dsimp only at hSw); go_simp; (try with_reducible rfl))
  (try simp only [List.getElem_toArray, List.getElem_cons_succ, List.getElem_cons_zero, Act.put, List.setIfInBounds_toArray, List.set_cons_zero, List.set_cons_succ])
  refine wpAnyH_take (i := 9) (v := ?_) rfl (by kernel_rfl) (by kernel_rfl) (by kernel_rfl) (fun _ _ _ h => h) (Or.inl ⟨by rfl, ?_⟩) (by assumption) ?_
  rotate_left
  · (intro w hSw; (try dsimp only at hSw); go_simp; (try with_reducible rfl))
  (try simp only [List.getElem_toArray, List.getElem_cons_succ, List.getElem_cons_zero, Act.put, List.setIfInBounds_toArray, List.set_cons_zero, List.set_cons_succ])
  refine wpAnyH_take (i := 10) (v := ?_) rfl (by kernel_rfl) (by kernel_rfl) (by kernel_rfl) (fun _ _ _ h => h) (Or.inl ⟨by rfl, ?_⟩) (by assumption) ?_
  rotate_left
  · (intro w hSw; (try dsimp only at hSw); go_simp; (try with_reducible rfl))
  (try simp only [List.getElem_toArray, List.getElem_cons_succ, List.getElem_cons_zero, Act.put, List.setIfInBounds_toArray, List.set_cons_zero, List.set_cons_succ])
  refine wpAnyH_take (i := 1) (v := ?_) rfl (by kernel_rfl) (by kernel_rfl) (by kernel_rfl) (fun _ _ _ h => h) (Or.inl ⟨by rfl, ?_⟩) (by assumption) ?_
  rotate_left
  · (intro w hSw; (try dsimp only at hSw); go_simp; (try with_reducible rfl))
  (try simp only [List.getElem_toArray, List.getElem_cons_succ, List.getElem_cons_zero, Act.put, List.setIfInBounds_toArray, List.set_cons_zero, List.set_cons_succ])
  refine wpAnyH_take (i := 4) (v := ?_) rfl (by kernel_rfl) (by kernel_rfl) (by kernel_rfl) (fun _ _ _ h => h) (Or.inl ⟨by rfl, ?_⟩) (by assumption) ?_
  rotate_left
  · (intro w hSw; (try dsimp only at hSw); go_simp; (try with_reducible rfl))
  (try simp only [List.getElem_toArray, List.getElem_cons_succ, List.getElem_cons_zero, Act.put, List.setIfInBounds_toArray, List.set_cons_zero, List.set_cons_succ])
  refine wpAnyH_take (i := 8) (v := ?_) rfl (by kernel_rfl) (by kernel_rfl) (by kernel_rfl) (fun _ _ _ h => h) (Or.inl ⟨by rfl, ?_⟩) (by assumption) ?_
  rotate_left
  · (intro w hSw; (try dsimp only at hSw); go_simp; (try with_reducible rfl))
  (try simp only [List.getElem_toArray, List.getElem_cons_succ, List.getElem_cons_zero, Act.put, List.setIfInBounds_toArray, List.set_cons_zero, List.set_cons_succ])
  refine wpAnyH_take (i := 11) (v := ?_) rfl (by kernel_rfl) (by kernel_rfl) (by kernel_rfl) (fun _ _ _ h => h) (Or.inl ⟨by rfl, ?_⟩) (by assumption) ?_
  rotate_left
  · (intro w hSw; (try dsimp only at hSw); go_simp; (try with_reducible rfl))
  (try simp only [List.getElem_toArray, List.getElem_cons_succ, List.getElem_cons_zero, Act.put, List.setIfInBounds_toArray, List.set_cons_zero, List.set_cons_succ])
  refine wpAnyH_ready (rs := [5]) (by kernel_rfl) (by simp) (AllReadyH.cons (o := _) rfl (fun K hK => ?_) AllReadyH.nil)
  go_simp
  go_at_call 38
  refine (ntimes_v k1 j (by omega) (by omega)).mono ?_
  rintro e w2 ⟨s5, A5, n5, c5, D5, m5, e5, rfl, g5, hb⟩
  replace h := h.below hb
  replace h' := h'.below hb
  replace k1 := k1.below hb
  replace j := j.below hb
  replace j' := j'.below hb
  replace b0 := b0.below hb
  replace b1 := b1.below hb
  replace b2 := b2.below hb
  replace b9 := b9.below hb
  replace H0 := H0.trans (hb.mono H0.size)
  clear hb
  go_wp2_with fail
  refine hK.out _ _ ⟨b0.cell 0 _ rfl, b0.cell 1 _ rfl, b0.cell 2 _ rfl, b0.cell 3 _ rfl, b0.cell 4 _ rfl, b0.cell 5 _ rfl, b1.cell 0 _ rfl, b1.cell 1 _ rfl, b1.cell 2 _ rfl, b2.cell 0 _ rfl, b2.cell 1 _ rfl, b2.cell 2 _ rfl, b2.cell 3 _ rfl, b2.cell 4 _ rfl, b2.cell 5 _ rfl⟩ (fun hHeld => ?_)
  clear hK K
  (try simp only [List.getElem_toArray, List.getElem_cons_succ, List.getElem_cons_zero, Act.put, List.setIfInBounds_toArray, List.set_cons_zero, List.set_cons_succ])
  refine wpAnyH_ready (rs := [6]) (by kernel_rfl) (by simp) (AllReadyH.cons (o := _) rfl (fun K hK => ?_) AllReadyH.nil)
  go_simp
  go_at_call 39
  refine (nplus_v h g5 (by omega) (by omega)).mono ?_
  rintro e w3 ⟨s6, A6, n6, c6, D6, m6, e6, rfl, g6, hb⟩
  replace h := h.below hb
  replace h' := h'.below hb
  replace k1 := k1.below hb
  replace j := j.below hb
  replace j' := j'.below hb
  replace g5 := g5.below hb
  replace b0 := b0.below hb
  replace b1 := b1.below hb
  replace b2 := b2.below hb
  replace b9 := b9.below hb
  replace H0 := H0.trans (hb.mono H0.size)
  clear hb
  clear g5
  go_wp2_with fail
  refine hK.out _ _ ⟨b0.cell 0 _ rfl, b0.cell 1 _ rfl, b0.cell 2 _ rfl, b0.cell 3 _ rfl, b0.cell 4 _ rfl, b0.cell 5 _ rfl, b1.cell 0 _ rfl, b1.cell 1 _ rfl, b1.cell 2 _ rfl, b2.cell 0 _ rfl, b2.cell 1 _ rfl, b2.cell 2 _ rfl, b2.cell 3 _ rfl, b2.cell 4 _ rfl, b2.cell 5 _ rfl⟩ (fun hHeld => ?_)
  clear hK K
  (try simp only [List.getElem_toArray, List.getElem_cons_succ, List.getElem_cons_zero, Act.put, List.setIfInBounds_toArray, List.set_cons_zero, List.set_cons_succ])
  refine wpAnyH_ready (rs := [12]) (by kernel_rfl) (by simp) (AllReadyH.cons (o := _) rfl (fun K hK => ?_) AllReadyH.nil)
  go_simp
  go_at_call 38
  refine (ntimes_v k1 j' (by omega) (by omega)).mono ?_
  rintro e w4 ⟨s7, A7, n7, c7, D7, m7, e7, rfl, g7, hb⟩
  replace h := h.below hb
  replace h' := h'.below hb
  replace k1 := k1.below hb
  replace j := j.below hb
  replace j' := j'.below hb
  replace g6 := g6.below hb
  replace b0 := b0.below hb
  replace b1 := b1.below hb
  replace b2 := b2.below hb
  replace b9 := b9.below hb
  replace H0 := H0.trans (hb.mono H0.size)
  clear hb
  go_wp2_with fail
  refine hK.out _ _ ⟨b0.cell 0 _ rfl, b0.cell 1 _ rfl, b0.cell 2 _ rfl, b0.cell 3 _ rfl, b0.cell 4 _ rfl, b0.cell 5 _ rfl, b1.cell 0 _ rfl, b1.cell 1 _ rfl, b1.cell 2 _ rfl, b2.cell 0 _ rfl, b2.cell 1 _ rfl, b2.cell 2 _ rfl, b2.cell 3 _ rfl, b2.cell 4 _ rfl, b2.cell 5 _ rfl⟩ (fun hHeld => ?_)
  clear hK K
  (try simp only [List.getElem_toArray, List.getElem_cons_succ, List.getElem_cons_zero, Act.put, List.setIfInBounds_toArray, List.set_cons_zero, List.set_cons_succ])
  refine wpAnyH_ready (rs := [13]) (by kernel_rfl) (by simp) (AllReadyH.cons (o := _) rfl (fun K hK => ?_) AllReadyH.nil)
  go_simp
  go_at_call 39
  refine (nplus_v h' g7 (by omega) (by omega)).mono ?_
  rintro e w5 ⟨s8, A8, n8, c8, D8, m8, e8, rfl, g8, hb⟩
  replace h := h.below hb
  replace h' := h'.below hb
  replace k1 := k1.below hb
  replace j := j.below hb
  replace j' := j'.below hb
  replace g6 := g6.below hb
  replace g7 := g7.below hb
  replace b0 := b0.below hb
  replace b1 := b1.below hb
  replace b2 := b2.below hb
  replace b9 := b9.below hb
  replace H0 := H0.trans (hb.mono H0.size)
  clear hb
  clear g7
  go_wp2_with fail
  refine hK.out _ _ ⟨b0.cell 0 _ rfl, b0.cell 1 _ rfl, b0.cell 2 _ rfl, b0.cell 3 _ rfl, b0.cell 4 _ rfl, b0.cell 5 _ rfl, b1.cell 0 _ rfl, b1.cell 1 _ rfl, b1.cell 2 _ rfl, b2.cell 0 _ rfl, b2.cell 1 _ rfl, b2.cell 2 _ rfl, b2.cell 3 _ rfl, b2.cell 4 _ rfl, b2.cell 5 _ rfl⟩ (fun hHeld => ?_)
  clear hK K
  (try simp only [List.getElem_toArray, List.getElem_cons_succ, List.getElem_cons_zero, Act.put, List.setIfInBounds_toArray, List.set_cons_zero, List.set_cons_succ])
  refine wpAnyH_take (i := 14) (v := ?_) rfl (by kernel_rfl) (by kernel_rfl) (by kernel_rfl) (fun _ _ _ h => h) (Or.inl ⟨by rfl, ?_⟩) (by assumption) ?_
  rotate_left
  · (intro w hSw; (try dsimp only at hSw); go_simp; (try with_reducible rfl))
  (try simp only [List.getElem_toArray, List.getElem_cons_succ, List.getElem_cons_zero, Act.put, List.setIfInBounds_toArray, List.set_cons_zero, List.set_cons_succ])
  have cb90 := b9.cell 0 _ rfl
  have yb90 := b9.frozen 0
  have cb91 := b9.cell 1 _ rfl
  have yb91 := b9.frozen 1
  have cb92 := b9.cell 2 _ rfl
  have yb92 := b9.frozen 2
  have cb93 := b9.cell 3 _ rfl
  have yb93 := b9.frozen 3
  have cb94 := b9.cell 4 _ rfl
  have yb94 := b9.frozen 4
  have cb95 := b9.cell 5 _ rfl
  have yb95 := b9.frozen 5
  refine wpAnyH_ready (rs := [15]) (by kernel_rfl) (by simp) (AllReadyH.cons (o := _) rfl (fun K hK => ?_) AllReadyH.nil)
  go_simp
  clear cb90 yb90 cb91 yb91 cb92 yb92 cb93 yb93 cb94 yb94 cb95 yb95
  have hg := only_store6 w5 (w.heap.size + 1 + 1 + 1) (.bool s6) (.slice A6 n6 c6) (.slice D6 m6 e6) (.bool s8) (.slice A8 n8 c8) (.slice D8 m8 e8)
  have hB := b9.stored6 (.bool s6) (.slice A6 n6 c6) (.slice D6 m6 e6) (.bool s8) (.slice A8 n8 c8) (.slice D8 m8 e8)
  generalize hX : ((((((w5.setCell ⟨w.heap.size + 1 + 1 + 1, 0, none⟩ (.bool s6)).setCell ⟨w.heap.size + 1 + 1 + 1, 1, none⟩ (.slice A6 n6 c6)).setCell ⟨w.heap.size + 1 + 1 + 1, 2, none⟩ (.slice D6 m6 e6)).setCell ⟨w.heap.size + 1 + 1 + 1, 3, none⟩ (.bool s8)).setCell ⟨w.heap.size + 1 + 1 + 1, 4, none⟩ (.slice A8 n8 c8)).setCell ⟨w.heap.size + 1 + 1 + 1, 5, none⟩ (.slice D8 m8 e8)) = X6 at hg hB ⊢
  clear hX
  replace h := h.kept b9 (by simp [notInt]) hg
  replace h' := h'.kept b9 (by simp [notInt]) hg
  replace k1 := k1.kept b9 (by simp [notInt]) hg
  replace j := j.kept b9 (by simp [notInt]) hg
  replace j' := j'.kept b9 (by simp [notInt]) hg
  replace g6 := g6.kept b9 (by simp [notInt]) hg
  replace g8 := g8.kept b9 (by simp [notInt]) hg
  replace b0 := b0.other hg (by omega)
  replace b1 := b1.other hg (by omega)
  replace b2 := b2.other hg (by omega)
  replace b9 := hB
  replace H0 := below_only H0 hg (by omega) H0.size
  clear hg hB
  refine hK.out _ _ ⟨b0.cell 0 _ rfl, b0.cell 1 _ rfl, b0.cell 2 _ rfl, b0.cell 3 _ rfl, b0.cell 4 _ rfl, b0.cell 5 _ rfl, b1.cell 0 _ rfl, b1.cell 1 _ rfl, b1.cell 2 _ rfl, b2.cell 0 _ rfl, b2.cell 1 _ rfl, b2.cell 2 _ rfl, b2.cell 3 _ rfl, b2.cell 4 _ rfl, b2.cell 5 _ rfl⟩ (fun hHeld => ?_)
  clear hK K
  (try simp only [List.getElem_toArray, List.getElem_cons_succ, List.getElem_cons_zero, Act.put, List.setIfInBounds_toArray, List.set_cons_zero, List.set_cons_succ])
  refine wpAnyH_done (by kernel_rfl) ?_ _
  refine NoPanic.normal ?_
  go_wp2_with fail
  refine bodyPost_ret (ret_geop rfl rfl b9) rfl ?_
  exact ⟨s6, A6, n6, c6, D6, m6, e6, s8, A8, n8, c8, D8, m8, e8, rfl, g6.more (by omega), g8.more (by omega), H0⟩
set_option maxRecDepth 100000 in
set_option maxHeartbeats 4000000 in
theorem gcross_v (h : PQ w s0 (.slice A0 n0 c0) (.slice D0 m0 e0) q0 L) (h' : PQ w s1 (.slice A1 n1 c1) (.slice D1 m1 e1) q1 L) (k1 : PQ w s2 (.slice A2 n2 c2) (.slice D2 m2 e2) q2 L0) (k1' : PQ w s3 (.slice A3 n3 c3) (.slice D3 m3 e3) q3 L0) (hL : L ≤ 45) (hL0 : L0 ≤ 45) :
    Calls Tryz.prog 18 #[.agg #[.bool s0, .slice A0 n0 c0, .slice D0 m0 e0, .bool s1, .slice A1 n1 c1, .slice D1 m1 e1], .agg #[.bool s2, .slice A2 n2 c2, .slice D2 m2 e2, .bool s3, .slice A3 n3 c3, .slice D3 m3 e3]] w fun e w' => ∃ s6 A6 n6 c6 D6 m6 e6, e = .returned (.agg #[.bool s6, .slice A6 n6 c6, .slice D6 m6 e6]) ∧ PQ w' s6 (.slice A6 n6 c6) (.slice D6 m6 e6) (q0 * q3 - q1 * q2) (2 * (max L 1 + max L0 1) + 3) ∧ Below w.heap.size w w' := by
  go_enter Tryz.func18, Tryz.ntmps18
  go_wp2_with fail
  obtain ⟨W0, hW, b0, b1, b9, hbW, hszW0⟩ := boxes3 w #[.bool s0, .slice A0 n0 c0, .slice D0 m0 e0, .bool s1, .slice A1 n1 c1, .slice D1 m1 e1] #[.bool s2, .slice A2 n2 c2, .slice D2 m2 e2, .bool s3, .slice A3 n3 c3, .slice D3 m3 e3] #[.bool false, .slice none 0 0, .slice none 0 0] 51 51 49
  rw [hW]
  clear hW
  replace h := h.below hbW
  replace h' := h'.below hbW
  replace k1 := k1.below hbW
  replace k1' := k1'.below hbW
  have H0 := hbW
  clear hbW
  have hD := drawn_below W0
  replace h := h.below hD
  replace h' := h'.below hD
  replace k1 := k1.below hD
  replace k1' := k1'.below hD
  replace b0 := b0.below hD
  replace b1 := b1.below hD
  replace b9 := b9.below hD
  replace H0 := H0.trans (hD.mono H0.size)
  clear hD
  refine wp_region_noPanic ?_
  refine wp_region_held_drew (S := (fun V => V.cell? ⟨w.heap.size, 0, none⟩ = some (.bool s0) ∧ V.cell? ⟨w.heap.size, 1, none⟩ = some (.slice A0 n0 c0) ∧ V.cell? ⟨w.heap.size, 2, none⟩ = some (.slice D0 m0 e0) ∧ V.cell? ⟨w.heap.size, 3, none⟩ = some (.bool s1) ∧ V.cell? ⟨w.heap.size, 4, none⟩ = some (.slice A1 n1 c1) ∧ V.cell? ⟨w.heap.size, 5, none⟩ = some (.slice D1 m1 e1) ∧ V.cell? ⟨w.heap.size + 1, 0, none⟩ = some (.bool s2) ∧ V.cell? ⟨w.heap.size + 1, 1, none⟩ = some (.slice A2 n2 c2) ∧ V.cell? ⟨w.heap.size + 1, 2, none⟩ = some (.slice D2 m2 e2) ∧ V.cell? ⟨w.heap.size + 1, 3, none⟩ = some (.bool s3) ∧ V.cell? ⟨w.heap.size + 1, 4, none⟩ = some (.slice A3 n3 c3) ∧ V.cell? ⟨w.heap.size + 1, 5, none⟩ = some (.slice D3 m3 e3))) (by kernel_rfl) ⟨b0.cell 0 _ rfl, b0.cell 1 _ rfl, b0.cell 2 _ rfl, b0.cell 3 _ rfl, b0.cell 4 _ rfl, b0.cell 5 _ rfl, b1.cell 0 _ rfl, b1.cell 1 _ rfl, b1.cell 2 _ rfl, b1.cell 3 _ rfl, b1.cell 4 _ rfl, b1.cell 5 _ rfl⟩ (fun hHeld => ?_)
  generalize W0.drew = v1 at H0 hHeld h h' k1 k1' b0 b1 b9 ⊢
  refine wpAnyH_take (i := 0) (v := ?_) rfl (by kernel_rfl) (by kernel_rfl) (by kernel_rfl) (fun _ _ _ h => h) (Or.inl ⟨by rfl, ?_⟩) (by assumption) ?_
  rotate_left
  · (intro w hSw; (try dsimp only at hSw); go_simp; (try with_reducible rfl))
  (try simp only [List.getElem_toArray, List.getElem_cons_zero, Act.put, List.setIfInBounds_toArray, List.set_cons_zero, List.set_cons_succ])
  refine wpAnyH_take (i := 2) (v := ?_) rfl (by kernel_rfl) (by kernel_rfl) (by kernel_rfl) (fun _ _ _ h => h) (Or.inl ⟨by rfl, ?_⟩) (by assumption) ?_
  rotate_left
  · (intro w hSw; (try dsimp only at hSw); go_simp; (try with_reducible rfl))
  (try simp only [List.getElem_toArray, List.getElem_cons_succ, List.getElem_cons_zero, Act.put, List.setIfInBounds_toArray, List.set_cons_zero, List.set_cons_succ])
  refine wpAnyH_take (i := 5) (v := ?_) rfl (by kernel_rfl) (by kernel_rfl) (by kernel_rfl) (fun _ _ _ h => h) (Or.inl ⟨by rfl, ?_⟩) (by assumption) ?_
  rotate_left
  · (intro w hSw; (try dsimp only at hSw); go_simp; (try with_reducible rfl))
  (try simp only [List.getElem_toArray, List.getElem_cons_succ, List.getElem_cons_zero, Act.put, List.setIfInBounds_toArray, List.set_cons_zero, List.set_cons_succ])
  refine wpAnyH_take (i := 7) (v := ?_) rfl (by kernel_rfl) (by kernel_rfl) (by kernel_rfl) (fun _ _ _ h => h) (Or.inl ⟨by rfl, ?_⟩) (by assumption) ?_
  rotate_left
  · (intro w hSw; (try dsimp only at hSw); go_simp; (try with_reducible rfl))
  (try simp only [List.getElem_toArray, List.getElem_cons_succ, List.getElem_cons_zero, Act.put, List.setIfInBounds_toArray, List.set_cons_zero, List.set_cons_succ])
  refine wpAnyH_take (i := 1) (v := ?_) rfl (by kernel_rfl) (by kernel_rfl) (by kernel_rfl) (fun _ _ _ h => h) (Or.inl ⟨by rfl, ?_⟩) (by assumption) ?_
  rotate_left
  · (intro w hSw; (try dsimp only at hSw); go_simp; (try with_reducible rfl))
  (try simp only [List.getElem_toArray, List.getElem_cons_succ, List.getElem_cons_zero, Act.put, List.setIfInBounds_toArray, List.set_cons_zero, List.set_cons_succ])
  refine wpAnyH_take (i := 3) (v := ?_) rfl (by kernel_rfl) (by kernel_rfl) (by kernel_rfl) (fun _ _ _ h => h) (Or.inl ⟨by rfl, ?_⟩) (by assumption) ?_
  rotate_left
  · (intro w hSw; (try dsimp only at hSw); go_simp; (try with_reducible rfl))
  (try simp only [List.getElem_toArray, List.getElem_cons_succ, List.getElem_cons_zero, Act.put, List.setIfInBounds_toArray, List.set_cons_zero, List.set_cons_succ])
  refine wpAnyH_take (i := 6) (v := ?_) rfl (by kernel_rfl) (by kernel_rfl) (by kernel_rfl) (fun _ _ _ h => h) (Or.inl ⟨by rfl, ?_⟩) (by assumption) ?_
  rotate_left
  · (intro w hSw; (try dsimp only at hSw); go_simp; (try with_reducible rfl))
  (try simp only [List.getElem_toArray, List.getElem_cons_succ, List.getElem_cons_zero, Act.put, List.setIfInBounds_toArray, List.set_cons_zero, List.set_cons_succ])
  refine wpAnyH_take (i := 8) (v := ?_) rfl (by kernel_rfl) (by kernel_rfl) (by kernel_rfl) (fun _ _ _ h => h) (Or.inl ⟨by rfl, ?_⟩) (by assumption) ?_
  rotate_left
  · (intro w hSw; (try dsimp only at hSw); go_simp; (try with_reducible rfl))
  (try simp only [List.getElem_toArray, List.getElem_cons_succ, List.getElem_cons_zero, Act.put, List.setIfInBounds_toArray, List.set_cons_zero, List.set_cons_succ])
  refine wpAnyH_ready (rs := [4]) (by kernel_rfl) (by simp) (AllReadyH.cons (o := _) rfl (fun K hK => ?_) AllReadyH.nil)
  go_simp
  go_at_call 38
  refine (ntimes_v h k1' (by omega) (by omega)).mono ?_
  rintro e w2 ⟨s4, A4, n4, c4, D4, m4, e4, rfl, g4, hb⟩
  replace h := h.below hb
  replace h' := h'.below hb
  replace k1 := k1.below hb
  replace k1' := k1'.below hb
  replace b0 := b0.below hb
  replace b1 := b1.below hb
  replace b9 := b9.below hb
  replace H0 := H0.trans (hb.mono H0.size)
  clear hb
  go_wp2_with fail
  refine hK.out _ _ ⟨b0.cell 0 _ rfl, b0.cell 1 _ rfl, b0.cell 2 _ rfl, b0.cell 3 _ rfl, b0.cell 4 _ rfl, b0.cell 5 _ rfl, b1.cell 0 _ rfl, b1.cell 1 _ rfl, b1.cell 2 _ rfl, b1.cell 3 _ rfl, b1.cell 4 _ rfl, b1.cell 5 _ rfl⟩ (fun hHeld => ?_)
  clear hK K
  (try simp only [List.getElem_toArray, List.getElem_cons_succ, List.getElem_cons_zero, Act.put, List.setIfInBounds_toArray, List.set_cons_zero, List.set_cons_succ])
  refine wpAnyH_ready (rs := [9]) (by kernel_rfl) (by simp) (AllReadyH.cons (o := _) rfl (fun K hK => ?_) AllReadyH.nil)
  go_simp
  go_at_call 38
  refine (ntimes_v h' k1 (by omega) (by omega)).mono ?_
  rintro e w3 ⟨s5, A5, n5, c5, D5, m5, e5, rfl, g5, hb⟩
  replace h := h.below hb
  replace h' := h'.below hb
  replace k1 := k1.below hb
  replace k1' := k1'.below hb
  replace g4 := g4.below hb
  replace b0 := b0.below hb
  replace b1 := b1.below hb
  replace b9 := b9.below hb
  replace H0 := H0.trans (hb.mono H0.size)
  clear hb
  go_wp2_with fail
  refine hK.out _ _ ⟨b0.cell 0 _ rfl, b0.cell 1 _ rfl, b0.cell 2 _ rfl, b0.cell 3 _ rfl, b0.cell 4 _ rfl, b0.cell 5 _ rfl, b1.cell 0 _ rfl, b1.cell 1 _ rfl, b1.cell 2 _ rfl, b1.cell 3 _ rfl, b1.cell 4 _ rfl, b1.cell 5 _ rfl⟩ (fun hHeld => ?_)
  clear hK K
  (try simp only [List.getElem_toArray, List.getElem_cons_succ, List.getElem_cons_zero, Act.put, List.setIfInBounds_toArray, List.set_cons_zero, List.set_cons_succ])
  refine wpAnyH_ready (rs := [10]) (by kernel_rfl) (by simp) (AllReadyH.cons (o := _) rfl (fun K hK => ?_) AllReadyH.nil)
  go_simp
  go_at_call 37
  refine (nqsub_v g4 g5 (by omega) (by omega)).mono ?_
  rintro e w4 ⟨s6, A6, n6, c6, D6, m6, e6, rfl, g6, hb⟩
  replace h := h.below hb
  replace h' := h'.below hb
  replace k1 := k1.below hb
  replace k1' := k1'.below hb
  replace g4 := g4.below hb
  replace g5 := g5.below hb
  replace b0 := b0.below hb
  replace b1 := b1.below hb
  replace b9 := b9.below hb
  replace H0 := H0.trans (hb.mono H0.size)
  clear hb
  clear g4
  clear g5
  go_wp2_with fail
  refine hK.out _ _ ⟨b0.cell 0 _ rfl, b0.cell 1 _ rfl, b0.cell 2 _ rfl, b0.cell 3 _ rfl, b0.cell 4 _ rfl, b0.cell 5 _ rfl, b1.cell 0 _ rfl, b1.cell 1 _ rfl, b1.cell 2 _ rfl, b1.cell 3 _ rfl, b1.cell 4 _ rfl, b1.cell 5 _ rfl⟩ (fun hHeld => ?_)
  clear hK K
  (try simp only [List.getElem_toArray, List.getElem_cons_succ, List.getElem_cons_zero, Act.put, List.setIfInBounds_toArray, List.set_cons_zero, List.set_cons_succ])
  have cb90 := b9.cell 0 _ rfl
  have yb90 := b9.frozen 0
  have cb91 := b9.cell 1 _ rfl
  have yb91 := b9.frozen 1
  have cb92 := b9.cell 2 _ rfl
  have yb92 := b9.frozen 2
  refine wpAnyH_ready (rs := [11]) (by kernel_rfl) (by simp) (AllReadyH.cons (o := _) rfl (fun K hK => ?_) AllReadyH.nil)
  go_simp
  clear cb90 yb90 cb91 yb91 cb92 yb92
  have hg := only_store3 w4 (w.heap.size + 1 + 1) (.bool s6) (.slice A6 n6 c6) (.slice D6 m6 e6)
  have hB := b9.stored3 (.bool s6) (.slice A6 n6 c6) (.slice D6 m6 e6)
  generalize hX : (((w4.setCell ⟨w.heap.size + 1 + 1, 0, none⟩ (.bool s6)).setCell ⟨w.heap.size + 1 + 1, 1, none⟩ (.slice A6 n6 c6)).setCell ⟨w.heap.size + 1 + 1, 2, none⟩ (.slice D6 m6 e6)) = X5 at hg hB ⊢
  clear hX
  replace h := h.kept b9 (by simp [notInt]) hg
  replace h' := h'.kept b9 (by simp [notInt]) hg
  replace k1 := k1.kept b9 (by simp [notInt]) hg
  replace k1' := k1'.kept b9 (by simp [notInt]) hg
  replace g6 := g6.kept b9 (by simp [notInt]) hg
  replace b0 := b0.other hg (by omega)
  replace b1 := b1.other hg (by omega)
  replace b9 := hB
  replace H0 := below_only H0 hg (by omega) H0.size
  clear hg hB
  refine hK.out _ _ ⟨b0.cell 0 _ rfl, b0.cell 1 _ rfl, b0.cell 2 _ rfl, b0.cell 3 _ rfl, b0.cell 4 _ rfl, b0.cell 5 _ rfl, b1.cell 0 _ rfl, b1.cell 1 _ rfl, b1.cell 2 _ rfl, b1.cell 3 _ rfl, b1.cell 4 _ rfl, b1.cell 5 _ rfl⟩ (fun hHeld => ?_)
  clear hK K
  (try simp only [List.getElem_toArray, List.getElem_cons_succ, List.getElem_cons_zero, Act.put, List.setIfInBounds_toArray, List.set_cons_zero, List.set_cons_succ])
  refine wpAnyH_done (by kernel_rfl) ?_ _
  refine NoPanic.normal ?_
  go_wp2_with fail
  refine bodyPost_ret (ret_numq rfl rfl b9) rfl ?_
  exact ⟨s6, A6, n6, c6, D6, m6, e6, rfl, g6.more (by omega), H0⟩
set_option maxRecDepth 100000 in
set_option maxHeartbeats 4000000 in
theorem gcompare_v (h : PQ w s0 (.slice A0 n0 c0) (.slice D0 m0 e0) q0 L) (h' : PQ w s1 (.slice A1 n1 c1) (.slice D1 m1 e1) q1 L) (k1 : PQ w s2 (.slice A2 n2 c2) (.slice D2 m2 e2) q2 L0) (k1' : PQ w s3 (.slice A3 n3 c3) (.slice D3 m3 e3) q3 L0) (hL : L ≤ 100) (hL0 : L0 ≤ 100) (hk : cmpQ q0 q1 q2 q3 = k) :
    Calls Tryz.prog 35 #[.agg #[.bool s0, .slice A0 n0 c0, .slice D0 m0 e0, .bool s1, .slice A1 n1 c1, .slice D1 m1 e1], .agg #[.bool s2, .slice A2 n2 c2, .slice D2 m2 e2, .bool s3, .slice A3 n3 c3, .slice D3 m3 e3]] w fun e w' => e = .returned (.int .i64 k) ∧ Below w.heap.size w w' := by
  unfold cmpQ at hk
  rcases Decidable.em (rsg (q0 - q2) = 0) with h0 | h0
  · rw [if_pos h0] at hk
    have HK := Lib.hid hk
    have HZ := Lib.hid h0
    clear h0 hk
    go_enter Tryz.func35, Tryz.ntmps35
    go_wp2_with fail
    obtain ⟨W0, hW, b0, b1, hbW, hszW0⟩ := boxes2 w #[.bool s0, .slice A0 n0 c0, .slice D0 m0 e0, .bool s1, .slice A1 n1 c1, .slice D1 m1 e1] #[.bool s2, .slice A2 n2 c2, .slice D2 m2 e2, .bool s3, .slice A3 n3 c3, .slice D3 m3 e3] 51 51
    rw [hW]
    clear hW
    replace h := h.below hbW
    replace h' := h'.below hbW
    replace k1 := k1.below hbW
    replace k1' := k1'.below hbW
    have H0 := hbW
    clear hbW
    have cb00 := b0.cell 0 _ rfl
    have cb01 := b0.cell 1 _ rfl
    have cb02 := b0.cell 2 _ rfl
    have cb03 := b0.cell 3 _ rfl
    have cb04 := b0.cell 4 _ rfl
    have cb05 := b0.cell 5 _ rfl
    have cb10 := b1.cell 0 _ rfl
    have cb11 := b1.cell 1 _ rfl
    have cb12 := b1.cell 2 _ rfl
    have cb13 := b1.cell 3 _ rfl
    have cb14 := b1.cell 4 _ rfl
    have cb15 := b1.cell 5 _ rfl
    go_wp2_with fail
    clear cb00 cb01 cb02 cb03 cb04 cb05 cb10 cb11 cb12 cb13 cb14 cb15
    refine (nqc_v h k1 (by omega) (by omega) HZ.out).mono ?_
    rintro e w1 ⟨rfl, hb⟩
    replace h := h.below hb
    replace h' := h'.below hb
    replace k1 := k1.below hb
    replace k1' := k1'.below hb
    replace b0 := b0.below hb
    replace b1 := b1.below hb
    replace H0 := H0.trans (hb.mono H0.size)
    clear hb
    have cb00 := b0.cell 0 _ rfl
    have cb01 := b0.cell 1 _ rfl
    have cb02 := b0.cell 2 _ rfl
    have cb03 := b0.cell 3 _ rfl
    have cb04 := b0.cell 4 _ rfl
    have cb05 := b0.cell 5 _ rfl
    have cb10 := b1.cell 0 _ rfl
    have cb11 := b1.cell 1 _ rfl
    have cb12 := b1.cell 2 _ rfl
    have cb13 := b1.cell 3 _ rfl
    have cb14 := b1.cell 4 _ rfl
    have cb15 := b1.cell 5 _ rfl
    go_wp2_with fail
    clear cb00 cb01 cb02 cb03 cb04 cb05 cb10 cb11 cb12 cb13 cb14 cb15
    refine (nqc_v h' k1' (by omega) (by omega) HK.out).mono ?_
    rintro e w2 ⟨rfl, hb⟩
    replace h := h.below hb
    replace h' := h'.below hb
    replace k1 := k1.below hb
    replace k1' := k1'.below hb
    replace b0 := b0.below hb
    replace b1 := b1.below hb
    replace H0 := H0.trans (hb.mono H0.size)
    clear hb
    go_wp2_with fail
    go_returns
    exact ⟨rfl, H0⟩
  · rw [if_neg h0] at hk
    have HK := Lib.hid hk
    have hk0 : ((k : Int) != 0) = true := by rw [bne_iff_ne]; rintro rfl; exact h0 hk
    clear h0 hk
    go_enter Tryz.func35, Tryz.ntmps35
    go_wp2_with fail
    obtain ⟨W0, hW, b0, b1, hbW, hszW0⟩ := boxes2 w #[.bool s0, .slice A0 n0 c0, .slice D0 m0 e0, .bool s1, .slice A1 n1 c1, .slice D1 m1 e1] #[.bool s2, .slice A2 n2 c2, .slice D2 m2 e2, .bool s3, .slice A3 n3 c3, .slice D3 m3 e3] 51 51
    rw [hW]
    clear hW
    replace h := h.below hbW
    replace h' := h'.below hbW
    replace k1 := k1.below hbW
    replace k1' := k1'.below hbW
    have H0 := hbW
    clear hbW
    have cb00 := b0.cell 0 _ rfl
    have cb01 := b0.cell 1 _ rfl
    have cb02 := b0.cell 2 _ rfl
    have cb03 := b0.cell 3 _ rfl
    have cb04 := b0.cell 4 _ rfl
    have cb05 := b0.cell 5 _ rfl
    have cb10 := b1.cell 0 _ rfl
    have cb11 := b1.cell 1 _ rfl
    have cb12 := b1.cell 2 _ rfl
    have cb13 := b1.cell 3 _ rfl
    have cb14 := b1.cell 4 _ rfl
    have cb15 := b1.cell 5 _ rfl
    go_wp2_with fail
    clear cb00 cb01 cb02 cb03 cb04 cb05 cb10 cb11 cb12 cb13 cb14 cb15
    refine (nqc_v h k1 (by omega) (by omega) HK.out).mono ?_
    rintro e w1 ⟨rfl, hb⟩
    replace h := h.below hb
    replace h' := h'.below hb
    replace k1 := k1.below hb
    replace k1' := k1'.below hb
    replace b0 := b0.below hb
    replace b1 := b1.below hb
    replace H0 := H0.trans (hb.mono H0.size)
    clear hb
    go_wp2_with fail
    go_returns
    exact ⟨rfl, H0⟩
set_option maxRecDepth 100000 in
set_option maxHeartbeats 4000000 in
theorem gsame_v (h : PQ w s0 (.slice A0 n0 c0) (.slice D0 m0 e0) q0 L) (h' : PQ w s1 (.slice A1 n1 c1) (.slice D1 m1 e1) q1 L) (k1 : PQ w s2 (.slice A2 n2 c2) (.slice D2 m2 e2) q2 L0) (k1' : PQ w s3 (.slice A3 n3 c3) (.slice D3 m3 e3) q3 L0) (hL : L ≤ 100) (hL0 : L0 ≤ 100) (hk : cmpQ q0 q1 q2 q3 = k) :
    Calls Tryz.prog 21 #[.agg #[.bool s0, .slice A0 n0 c0, .slice D0 m0 e0, .bool s1, .slice A1 n1 c1, .slice D1 m1 e1], .agg #[.bool s2, .slice A2 n2 c2, .slice D2 m2 e2, .bool s3, .slice A3 n3 c3, .slice D3 m3 e3]] w fun e w' => e = .returned (.bool ((k : Int) == 0)) ∧ Below w.heap.size w w' := by
  unfold cmpQ at hk
  rcases Decidable.em (rsg (q0 - q2) = 0) with h0 | h0
  · rw [if_pos h0] at hk
    have HK := Lib.hid hk
    have HZ := Lib.hid h0
    clear h0 hk
    go_enter Tryz.func21, Tryz.ntmps21
    go_wp2_with fail
    obtain ⟨W0, hW, b0, b1, hbW, hszW0⟩ := boxes2 w #[.bool s0, .slice A0 n0 c0, .slice D0 m0 e0, .bool s1, .slice A1 n1 c1, .slice D1 m1 e1] #[.bool s2, .slice A2 n2 c2, .slice D2 m2 e2, .bool s3, .slice A3 n3 c3, .slice D3 m3 e3] 51 51
    rw [hW]
    clear hW
    replace h := h.below hbW
    replace h' := h'.below hbW
    replace k1 := k1.below hbW
    replace k1' := k1'.below hbW
    have H0 := hbW
    clear hbW
    have cb00 := b0.cell 0 _ rfl
    have cb01 := b0.cell 1 _ rfl
    have cb02 := b0.cell 2 _ rfl
    have cb03 := b0.cell 3 _ rfl
    have cb04 := b0.cell 4 _ rfl
    have cb05 := b0.cell 5 _ rfl
    have cb10 := b1.cell 0 _ rfl
    have cb11 := b1.cell 1 _ rfl
    have cb12 := b1.cell 2 _ rfl
    have cb13 := b1.cell 3 _ rfl
    have cb14 := b1.cell 4 _ rfl
    have cb15 := b1.cell 5 _ rfl
    go_wp2_with fail
    clear cb00 cb01 cb02 cb03 cb04 cb05 cb10 cb11 cb12 cb13 cb14 cb15
    refine (nqc_v h k1 (by omega) (by omega) HZ.out).mono ?_
    rintro e w1 ⟨rfl, hb⟩
    replace h := h.below hb
    replace h' := h'.below hb
    replace k1 := k1.below hb
    replace k1' := k1'.below hb
    replace b0 := b0.below hb
    replace b1 := b1.below hb
    replace H0 := H0.trans (hb.mono H0.size)
    clear hb
    have cb00 := b0.cell 0 _ rfl
    have cb01 := b0.cell 1 _ rfl
    have cb02 := b0.cell 2 _ rfl
    have cb03 := b0.cell 3 _ rfl
    have cb04 := b0.cell 4 _ rfl
    have cb05 := b0.cell 5 _ rfl
    have cb10 := b1.cell 0 _ rfl
    have cb11 := b1.cell 1 _ rfl
    have cb12 := b1.cell 2 _ rfl
    have cb13 := b1.cell 3 _ rfl
    have cb14 := b1.cell 4 _ rfl
    have cb15 := b1.cell 5 _ rfl
    go_wp2_with fail
    clear cb00 cb01 cb02 cb03 cb04 cb05 cb10 cb11 cb12 cb13 cb14 cb15
    refine (nqc_v h' k1' (by omega) (by omega) HK.out).mono ?_
    rintro e w2 ⟨rfl, hb⟩
    replace h := h.below hb
    replace h' := h'.below hb
    replace k1 := k1.below hb
    replace k1' := k1'.below hb
    replace b0 := b0.below hb
    replace b1 := b1.below hb
    replace H0 := H0.trans (hb.mono H0.size)
    clear hb
    go_wp2_with fail
    go_returns
    exact ⟨rfl, H0⟩
  · rw [if_neg h0] at hk
    have HZ := Lib.hid hk
    have hk0 : ((k : Int) == 0) = false := by rw [beq_eq_false_iff_ne]; rintro rfl; exact h0 hk
    clear h0 hk
    go_enter Tryz.func21, Tryz.ntmps21
    go_wp2_with fail
    obtain ⟨W0, hW, b0, b1, hbW, hszW0⟩ := boxes2 w #[.bool s0, .slice A0 n0 c0, .slice D0 m0 e0, .bool s1, .slice A1 n1 c1, .slice D1 m1 e1] #[.bool s2, .slice A2 n2 c2, .slice D2 m2 e2, .bool s3, .slice A3 n3 c3, .slice D3 m3 e3] 51 51
    rw [hW]
    clear hW
    replace h := h.below hbW
    replace h' := h'.below hbW
    replace k1 := k1.below hbW
    replace k1' := k1'.below hbW
    have H0 := hbW
    clear hbW
    have cb00 := b0.cell 0 _ rfl
    have cb01 := b0.cell 1 _ rfl
    have cb02 := b0.cell 2 _ rfl
    have cb03 := b0.cell 3 _ rfl
    have cb04 := b0.cell 4 _ rfl
    have cb05 := b0.cell 5 _ rfl
    have cb10 := b1.cell 0 _ rfl
    have cb11 := b1.cell 1 _ rfl
    have cb12 := b1.cell 2 _ rfl
    have cb13 := b1.cell 3 _ rfl
    have cb14 := b1.cell 4 _ rfl
    have cb15 := b1.cell 5 _ rfl
    go_wp2_with fail
    clear cb00 cb01 cb02 cb03 cb04 cb05 cb10 cb11 cb12 cb13 cb14 cb15
    refine (nqc_v h k1 (by omega) (by omega) HZ.out).mono ?_
    rintro e w1 ⟨rfl, hb⟩
    replace h := h.below hb
    replace h' := h'.below hb
    replace k1 := k1.below hb
    replace k1' := k1'.below hb
    replace b0 := b0.below hb
    replace b1 := b1.below hb
    replace H0 := H0.trans (hb.mono H0.size)
    clear hb
    go_wp2_with fail
    go_returns
    exact ⟨by rw [hk0]; rfl, H0⟩
end
end Go.Proofs.YthmmnmajkeoaaabGreatDoor
