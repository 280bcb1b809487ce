/-
  The exported functions of package line, of valid lines.
-/
import Derived.Test.YtancgkmkbgkncaaGreatQLnV
import Derived.Test.YtancgkmkbgkncaaGreatQPhase
import Derived.Deep.Cut
namespace Go.Proofs.YtancgkmkbgkncaaGreat
open Go.RowKit

section
variable {A0 A1 A2 A3 A4 A5 A6 A7 A8 A9 A10 A11 A12 A13 A14 A15 A16 A17 A18 A19 A20 A21 A22 A23 D0 D1 D2 D3 D4 D5 D6 D7 D8 D9 D10 D11 D12 D13 D14 D15 D16 D17 D18 D19 D20 D21 D22 D23 : Option Addr} {n0 n1 n2 n3 n4 n5 n6 n7 n8 n9 n10 n11 n12 n13 n14 n15 n16 n17 n18 n19 n20 n21 n22 n23 c0 c1 c2 c3 c4 c5 c6 c7 c8 c9 c10 c11 c12 c13 c14 c15 c16 c17 c18 c19 c20 c21 c22 c23 m0 m1 m2 m3 m4 m5 m6 m7 m8 m9 m10 m11 m12 m13 m14 m15 m16 m17 m18 m19 m20 m21 m22 m23 e0 e1 e2 e3 e4 e5 e6 e7 e8 e9 e10 e11 e12 e13 e14 e15 e16 e17 e18 e19 e20 e21 e22 e23 : Nat} {s0 s1 s2 s3 s4 s5 s6 s7 s8 s9 s10 s11 s12 s13 s14 s15 s16 s17 s18 s19 s20 s21 s22 s23 : Bool} {q0 q1 q2 q3 q4 q5 q6 q7 : Rat} {z0 z1 z2 z3 z4 z5 z6 z7 z8 z9 z10 z11 : Int} {L L0 L1 x y : Nat} {k : Int} {b : Bool} {w : World}
set_option maxRecDepth 100000 in
set_option maxHeartbeats 4000000 in
theorem lmeet_z (h0 : NI w s0 (.slice A0 n0 c0) z0 L) (h1 : NI w s1 (.slice A1 n1 c1) z1 L) (h2 : NI w s2 (.slice A2 n2 c2) z2 L) (v0 : VL z0 z1 z2) (h3 : NI w s3 (.slice A3 n3 c3) z3 L) (h4 : NI w s4 (.slice A4 n4 c4) z4 L) (h5 : NI w s5 (.slice A5 n5 c5) z5 L) (v1 : VL z3 z4 z5) (hz : z0 * z4 - z1 * z3 = 0) (hL : L ≤ 10000) :
    Calls Tryz.prog 41 #[.agg #[.bool s0, .slice A0 n0 c0, .bool s1, .slice A1 n1 c1, .bool s2, .slice A2 n2 c2], .agg #[.bool s3, .slice A3 n3 c3, .bool s4, .slice A4 n4 c4, .bool s5, .slice A5 n5 c5]] w fun e w' => e = .returned (.tuple #[.agg #[.bool false, .slice none 0 0, .slice none 0 0, .bool false, .slice none 0 0, .slice none 0 0], .bool false]) ∧ Below w.heap.size w w' := by
  have V0 := Lib.hid v0
  clear v0
  have V1 := Lib.hid v1
  clear v1
  have HZ := Lib.hid hz
  clear hz
  go_enter Tryz.func41, Tryz.ntmps41
  go_wp2_with fail
  obtain ⟨W0, hW, b0, b1, b9, hbW, hszW0⟩ := boxes3 w #[.bool s0, .slice A0 n0 c0, .bool s1, .slice A1 n1 c1, .bool s2, .slice A2 n2 c2] #[.bool s3, .slice A3 n3 c3, .bool s4, .slice A4 n4 c4, .bool s5, .slice A5 n5 c5] #[.bool false, .slice none 0 0, .slice none 0 0, .bool false, .slice none 0 0, .slice none 0 0] 30 30 54
  rw [hW]
  clear hW
  replace h0 := h0.below hbW
  replace h1 := h1.below hbW
  replace h2 := h2.below hbW
  replace h3 := h3.below hbW
  replace h4 := h4.below hbW
  replace h5 := h5.below hbW
  have H0 := hbW
  clear hbW
  have cb00 := b0.cell 0 _ rfl
  have cb01 := b0.cell 1 _ rfl
  have cb02 := b0.cell 2 _ rfl
  have cb03 := b0.cell 3 _ rfl
  have cb04 := b0.cell 4 _ rfl
  have cb05 := b0.cell 5 _ rfl
  have cb10 := b1.cell 0 _ rfl
  have cb11 := b1.cell 1 _ rfl
  have cb12 := b1.cell 2 _ rfl
  have cb13 := b1.cell 3 _ rfl
  have cb14 := b1.cell 4 _ rfl
  have cb15 := b1.cell 5 _ rfl
  go_wp2_with fail
  clear cb00 cb01 cb02 cb03 cb04 cb05 cb10 cb11 cb12 cb13 cb14 cb15
  refine (lboth_v h0 h1 h2 V0.out h3 h4 h5 V1.out (by omega)).mono ?_
  rintro e w1 ⟨rfl, hb⟩
  replace h0 := h0.below hb
  replace h1 := h1.below hb
  replace h2 := h2.below hb
  replace h3 := h3.below hb
  replace h4 := h4.below hb
  replace h5 := h5.below hb
  replace b0 := b0.below hb
  replace b1 := b1.below hb
  replace b9 := b9.below hb
  replace H0 := H0.trans (hb.mono H0.size)
  clear hb
  have cb00 := b0.cell 0 _ rfl
  have cb01 := b0.cell 1 _ rfl
  have cb02 := b0.cell 2 _ rfl
  have cb03 := b0.cell 3 _ rfl
  have cb04 := b0.cell 4 _ rfl
  have cb05 := b0.cell 5 _ rfl
  have cb10 := b1.cell 0 _ rfl
  have cb11 := b1.cell 1 _ rfl
  have cb12 := b1.cell 2 _ rfl
  have cb13 := b1.cell 3 _ rfl
  have cb14 := b1.cell 4 _ rfl
  have cb15 := b1.cell 5 _ rfl
  go_wp2_with fail
  clear cb00 cb01 cb02 cb03 cb04 cb05 cb10 cb11 cb12 cb13 cb14 cb15
  have hD := drawn_below w1
  replace h0 := h0.below hD
  replace h1 := h1.below hD
  replace h2 := h2.below hD
  replace h3 := h3.below hD
  replace h4 := h4.below hD
  replace h5 := h5.below hD
  replace b0 := b0.below hD
  replace b1 := b1.below hD
  replace b9 := b9.below hD
  replace H0 := H0.trans (hD.mono H0.size)
  clear hD
  refine wp_region_noPanic ?_
  refine wp_region_held_drew (S := (fun V => V.cell? ⟨w.heap.size, 0, none⟩ = some (.bool s0) ∧ V.cell? ⟨w.heap.size, 1, none⟩ = some (.slice A0 n0 c0) ∧ V.cell? ⟨w.heap.size, 2, none⟩ = some (.bool s1) ∧ V.cell? ⟨w.heap.size, 3, none⟩ = some (.slice A1 n1 c1) ∧ V.cell? ⟨w.heap.size, 4, none⟩ = some (.bool s2) ∧ V.cell? ⟨w.heap.size, 5, none⟩ = some (.slice A2 n2 c2) ∧ V.cell? ⟨w.heap.size + 1, 0, none⟩ = some (.bool s3) ∧ V.cell? ⟨w.heap.size + 1, 1, none⟩ = some (.slice A3 n3 c3) ∧ V.cell? ⟨w.heap.size + 1, 2, none⟩ = some (.bool s4) ∧ V.cell? ⟨w.heap.size + 1, 3, none⟩ = some (.slice A4 n4 c4) ∧ V.cell? ⟨w.heap.size + 1, 4, none⟩ = some (.bool s5) ∧ V.cell? ⟨w.heap.size + 1, 5, none⟩ = some (.slice A5 n5 c5))) (by kernel_rfl) ⟨b0.cell 0 _ rfl, b0.cell 1 _ rfl, b0.cell 2 _ rfl, b0.cell 3 _ rfl, b0.cell 4 _ rfl, b0.cell 5 _ rfl, b1.cell 0 _ rfl, b1.cell 1 _ rfl, b1.cell 2 _ rfl, b1.cell 3 _ rfl, b1.cell 4 _ rfl, b1.cell 5 _ rfl⟩ (fun hHeld => ?_)
  generalize w1.drew = v2 at H0 hHeld h0 h1 h2 h3 h4 h5 b0 b1 b9 ⊢
  refine wpAnyH_take (i := 0) (v := ?_) rfl (by kernel_rfl) (by kernel_rfl) (by kernel_rfl) (fun _ _ _ h => h) (Or.inl ⟨by rfl, ?_⟩) (by assumption) ?_
  rotate_left
  · (intro w hSw; (try dsimp only at hSw); go_simp; (try with_reducible rfl))
  (try simp only [List.getElem_toArray, List.getElem_cons_zero, Act.put, List.setIfInBounds_toArray, List.set_cons_zero, List.set_cons_succ])
  refine wpAnyH_take (i := 2) (v := ?_) rfl (by kernel_rfl) (by kernel_rfl) (by kernel_rfl) (fun _ _ _ h => h) (Or.inl ⟨by rfl, ?_⟩) (by assumption) ?_
  rotate_left
  · (intro w hSw; (try dsimp only at hSw); go_simp; (try with_reducible rfl))
  (try simp only [List.getElem_toArray, List.getElem_cons_succ, List.getElem_cons_zero, Act.put, List.setIfInBounds_toArray, List.set_cons_zero, List.set_cons_succ])
  refine wpAnyH_ready (rs := [1]) (by kernel_rfl) (by simp) (AllReadyH.cons (o := _) rfl (fun K hK => ?_) AllReadyH.nil)
  go_simp
  go_at_call 82
  refine (lcoef_v).mono ?_
  rintro e w3 ⟨rfl, hb⟩
  replace h0 := h0.below hb
  replace h1 := h1.below hb
  replace h2 := h2.below hb
  replace h3 := h3.below hb
  replace h4 := h4.below hb
  replace h5 := h5.below hb
  replace b0 := b0.below hb
  replace b1 := b1.below hb
  replace b9 := b9.below hb
  replace H0 := H0.trans (hb.mono H0.size)
  clear hb
  go_wp2_with fail
  refine hK.out _ _ ⟨b0.cell 0 _ rfl, b0.cell 1 _ rfl, b0.cell 2 _ rfl, b0.cell 3 _ rfl, b0.cell 4 _ rfl, b0.cell 5 _ rfl, b1.cell 0 _ rfl, b1.cell 1 _ rfl, b1.cell 2 _ rfl, b1.cell 3 _ rfl, b1.cell 4 _ rfl, b1.cell 5 _ rfl⟩ (fun hHeld => ?_)
  clear hK K
  (try simp only [List.getElem_toArray, List.getElem_cons_succ, List.getElem_cons_zero, Act.put, List.setIfInBounds_toArray, List.set_cons_zero, List.set_cons_succ])
  refine wpAnyH_ready (rs := [3]) (by kernel_rfl) (by simp) (AllReadyH.cons (o := _) rfl (fun K hK => ?_) AllReadyH.nil)
  go_simp
  go_at_call 82
  refine (lcoef_v).mono ?_
  rintro e w4 ⟨rfl, hb⟩
  replace h0 := h0.below hb
  replace h1 := h1.below hb
  replace h2 := h2.below hb
  replace h3 := h3.below hb
  replace h4 := h4.below hb
  replace h5 := h5.below hb
  replace b0 := b0.below hb
  replace b1 := b1.below hb
  replace b9 := b9.below hb
  replace H0 := H0.trans (hb.mono H0.size)
  clear hb
  go_wp2_with fail
  refine hK.out _ _ ⟨b0.cell 0 _ rfl, b0.cell 1 _ rfl, b0.cell 2 _ rfl, b0.cell 3 _ rfl, b0.cell 4 _ rfl, b0.cell 5 _ rfl, b1.cell 0 _ rfl, b1.cell 1 _ rfl, b1.cell 2 _ rfl, b1.cell 3 _ rfl, b1.cell 4 _ rfl, b1.cell 5 _ rfl⟩ (fun hHeld => ?_)
  clear hK K
  (try simp only [List.getElem_toArray, List.getElem_cons_succ, List.getElem_cons_zero, Act.put, List.setIfInBounds_toArray, List.set_cons_zero, List.set_cons_succ])
  refine wpAnyH_ready (rs := [4]) (by kernel_rfl) (by simp) (AllReadyH.cons (o := _) rfl (fun K hK => ?_) AllReadyH.nil)
  go_simp
  go_at_call 91
  refine (dcross_v h0.ri h1.ri h2.ri h3.ri h4.ri h5.ri (by omega)).mono ?_
  rintro e w5 ⟨s6, A6, n6, c6, s7, A7, n7, c7, s8, A8, n8, c8, rfl, g6, g7, g8, hb⟩
  replace h0 := h0.below hb
  replace h1 := h1.below hb
  replace h2 := h2.below hb
  replace h3 := h3.below hb
  replace h4 := h4.below hb
  replace h5 := h5.below hb
  replace b0 := b0.below hb
  replace b1 := b1.below hb
  replace b9 := b9.below hb
  replace H0 := H0.trans (hb.mono H0.size)
  clear hb
  go_wp2_with fail
  refine hK.out _ _ ⟨b0.cell 0 _ rfl, b0.cell 1 _ rfl, b0.cell 2 _ rfl, b0.cell 3 _ rfl, b0.cell 4 _ rfl, b0.cell 5 _ rfl, b1.cell 0 _ rfl, b1.cell 1 _ rfl, b1.cell 2 _ rfl, b1.cell 3 _ rfl, b1.cell 4 _ rfl, b1.cell 5 _ rfl⟩ (fun hHeld => ?_)
  clear hK K
  (try simp only [List.getElem_toArray, List.getElem_cons_succ, List.getElem_cons_zero, Act.put, List.setIfInBounds_toArray, List.set_cons_zero, List.set_cons_succ])
  refine wpAnyH_ready (rs := [5]) (by kernel_rfl) (by simp) (AllReadyH.cons (o := _) rfl (fun K hK => ?_) AllReadyH.nil)
  go_simp
  go_at_call 93
  refine (lpoint_z g6.ri g8.ri HZ.out).mono ?_
  rintro e w6 ⟨rfl, hb⟩
  replace h0 := h0.below hb
  replace h1 := h1.below hb
  replace h2 := h2.below hb
  replace h3 := h3.below hb
  replace h4 := h4.below hb
  replace h5 := h5.below hb
  replace g6 := g6.below hb
  replace g7 := g7.below hb
  replace g8 := g8.below hb
  replace b0 := b0.below hb
  replace b1 := b1.below hb
  replace b9 := b9.below hb
  replace H0 := H0.trans (hb.mono H0.size)
  clear hb
  clear g6
  clear g7
  clear g8
  go_wp2_with fail
  refine hK.out _ _ ⟨b0.cell 0 _ rfl, b0.cell 1 _ rfl, b0.cell 2 _ rfl, b0.cell 3 _ rfl, b0.cell 4 _ rfl, b0.cell 5 _ rfl, b1.cell 0 _ rfl, b1.cell 1 _ rfl, b1.cell 2 _ rfl, b1.cell 3 _ rfl, b1.cell 4 _ rfl, b1.cell 5 _ rfl⟩ (fun hHeld => ?_)
  clear hK K
  (try simp only [List.getElem_toArray, List.getElem_cons_succ, List.getElem_cons_zero, Act.put, List.setIfInBounds_toArray, List.set_cons_zero, List.set_cons_succ])
  refine wpAnyH_take (i := 6) (v := ?_) rfl (by kernel_rfl) (by kernel_rfl) (by kernel_rfl) (fun _ _ _ h => h) (Or.inl ⟨by rfl, ?_⟩) (by assumption) ?_
  rotate_left
  · (intro w hSw; (try dsimp only at hSw); go_simp; (try with_reducible rfl))
  (try simp only [List.getElem_toArray, List.getElem_cons_succ, List.getElem_cons_zero, Act.put, List.setIfInBounds_toArray, List.set_cons_zero, List.set_cons_succ])
  refine wpAnyH_take (i := 7) (v := ?_) rfl (by kernel_rfl) (by kernel_rfl) (by kernel_rfl) (fun _ _ _ h => h) (Or.inl ⟨by rfl, ?_⟩) (by assumption) ?_
  rotate_left
  · (intro w hSw; (try dsimp only at hSw); go_simp; (try with_reducible rfl))
  (try simp only [List.getElem_toArray, List.getElem_cons_succ, List.getElem_cons_zero, Act.put, List.setIfInBounds_toArray, List.set_cons_zero, List.set_cons_succ])
  have cb90 := b9.cell 0 _ rfl
  have yb90 := b9.frozen 0
  have cb91 := b9.cell 1 _ rfl
  have yb91 := b9.frozen 1
  have cb92 := b9.cell 2 _ rfl
  have yb92 := b9.frozen 2
  have cb93 := b9.cell 3 _ rfl
  have yb93 := b9.frozen 3
  have cb94 := b9.cell 4 _ rfl
  have yb94 := b9.frozen 4
  have cb95 := b9.cell 5 _ rfl
  have yb95 := b9.frozen 5
  refine wpAnyH_ready (rs := [8]) (by kernel_rfl) (by simp) (AllReadyH.cons (o := _) rfl (fun K hK => ?_) AllReadyH.nil)
  go_simp
  clear cb90 yb90 cb91 yb91 cb92 yb92 cb93 yb93 cb94 yb94 cb95 yb95
  have hg := only_store6 w6 (w.heap.size + 1 + 1) (.bool false) (.slice none 0 0) (.slice none 0 0) (.bool false) (.slice none 0 0) (.slice none 0 0)
  have hB := b9.stored6 (.bool false) (.slice none 0 0) (.slice none 0 0) (.bool false) (.slice none 0 0) (.slice none 0 0)
  generalize hX : ((((((w6.setCell ⟨w.heap.size + 1 + 1, 0, none⟩ (.bool false)).setCell ⟨w.heap.size + 1 + 1, 1, none⟩ (.slice none 0 0)).setCell ⟨w.heap.size + 1 + 1, 2, none⟩ (.slice none 0 0)).setCell ⟨w.heap.size + 1 + 1, 3, none⟩ (.bool false)).setCell ⟨w.heap.size + 1 + 1, 4, none⟩ (.slice none 0 0)).setCell ⟨w.heap.size + 1 + 1, 5, none⟩ (.slice none 0 0)) = X7 at hg hB ⊢
  clear hX
  replace h0 := h0.kept b9 (by simp [notInt]) hg
  replace h1 := h1.kept b9 (by simp [notInt]) hg
  replace h2 := h2.kept b9 (by simp [notInt]) hg
  replace h3 := h3.kept b9 (by simp [notInt]) hg
  replace h4 := h4.kept b9 (by simp [notInt]) hg
  replace h5 := h5.kept b9 (by simp [notInt]) hg
  replace b0 := b0.other hg (by omega)
  replace b1 := b1.other hg (by omega)
  replace b9 := hB
  replace H0 := below_only H0 hg (by omega) H0.size
  clear hg hB
  refine hK.out _ _ ⟨b0.cell 0 _ rfl, b0.cell 1 _ rfl, b0.cell 2 _ rfl, b0.cell 3 _ rfl, b0.cell 4 _ rfl, b0.cell 5 _ rfl, b1.cell 0 _ rfl, b1.cell 1 _ rfl, b1.cell 2 _ rfl, b1.cell 3 _ rfl, b1.cell 4 _ rfl, b1.cell 5 _ rfl⟩ (fun hHeld => ?_)
  clear hK K
  (try simp only [List.getElem_toArray, List.getElem_cons_succ, List.getElem_cons_zero, Act.put, List.setIfInBounds_toArray, List.set_cons_zero, List.set_cons_succ])
  refine wpAnyH_take (i := 9) (v := ?_) rfl (by kernel_rfl) (by kernel_rfl) (by kernel_rfl) (fun _ _ _ h => h) (Or.inl ⟨by rfl, ?_⟩) (by assumption) ?_
  rotate_left
  · (intro w hSw; (try dsimp only at hSw); go_simp; (try with_reducible rfl))
  (try simp only [List.getElem_toArray, List.getElem_cons_succ, List.getElem_cons_zero, Act.put, List.setIfInBounds_toArray, List.set_cons_zero, List.set_cons_succ])
  refine wpAnyH_done (by kernel_rfl) ?_ _
  refine NoPanic.normal ?_
  go_wp2_with fail
  refine bodyPost_ret (ret_pointb_b rfl rfl b9) rfl ?_
  exact ⟨rfl, H0⟩
set_option maxRecDepth 100000 in
set_option maxHeartbeats 4000000 in
theorem lmeet_v (h0 : NI w s0 (.slice A0 n0 c0) z0 L) (h1 : NI w s1 (.slice A1 n1 c1) z1 L) (h2 : NI w s2 (.slice A2 n2 c2) z2 L) (v0 : VL z0 z1 z2) (h3 : NI w s3 (.slice A3 n3 c3) z3 L) (h4 : NI w s4 (.slice A4 n4 c4) z4 L) (h5 : NI w s5 (.slice A5 n5 c5) z5 L) (v1 : VL z3 z4 z5) (hz : z0 * z4 - z1 * z3 ≠ 0) (hL : L ≤ 10000) :
    Calls Tryz.prog 41 #[.agg #[.bool s0, .slice A0 n0 c0, .bool s1, .slice A1 n1 c1, .bool s2, .slice A2 n2 c2], .agg #[.bool s3, .slice A3 n3 c3, .bool s4, .slice A4 n4 c4, .bool s5, .slice A5 n5 c5]] w fun e w' => ∃ s10 A10 n10 c10 D10 m10 e10 s11 A11 n11 c11 D11 m11 e11, e = .returned (.tuple #[.agg #[.bool s10, .slice A10 n10 c10, .slice D10 m10 e10, .bool s11, .slice A11 n11 c11, .slice D11 m11 e11], .bool true]) ∧ NQ w' s10 (.slice A10 n10 c10) (.slice D10 m10 e10) (((z1 * z5 - z2 * z4 : Int) : Rat) / ((z0 * z4 - z1 * z3 : Int) : Rat)) (2 * L + 1) ∧ NQ w' s11 (.slice A11 n11 c11) (.slice D11 m11 e11) (((z2 * z3 - z0 * z5 : Int) : Rat) / ((z0 * z4 - z1 * z3 : Int) : Rat)) (2 * L + 1) ∧ Below w.heap.size w w' := by
  have V0 := Lib.hid v0
  clear v0
  have V1 := Lib.hid v1
  clear v1
  have HZ := Lib.hid hz
  clear hz
  go_enter Tryz.func41, Tryz.ntmps41
  go_wp2_with fail
  obtain ⟨W0, hW, b0, b1, b9, hbW, hszW0⟩ := boxes3 w #[.bool s0, .slice A0 n0 c0, .bool s1, .slice A1 n1 c1, .bool s2, .slice A2 n2 c2] #[.bool s3, .slice A3 n3 c3, .bool s4, .slice A4 n4 c4, .bool s5, .slice A5 n5 c5] #[.bool false, .slice none 0 0, .slice none 0 0, .bool false, .slice none 0 0, .slice none 0 0] 30 30 54
  rw [hW]
  clear hW
  replace h0 := h0.below hbW
  replace h1 := h1.below hbW
  replace h2 := h2.below hbW
  replace h3 := h3.below hbW
  replace h4 := h4.below hbW
  replace h5 := h5.below hbW
  have H0 := hbW
  clear hbW
  have cb00 := b0.cell 0 _ rfl
  have cb01 := b0.cell 1 _ rfl
  have cb02 := b0.cell 2 _ rfl
  have cb03 := b0.cell 3 _ rfl
  have cb04 := b0.cell 4 _ rfl
  have cb05 := b0.cell 5 _ rfl
  have cb10 := b1.cell 0 _ rfl
  have cb11 := b1.cell 1 _ rfl
  have cb12 := b1.cell 2 _ rfl
  have cb13 := b1.cell 3 _ rfl
  have cb14 := b1.cell 4 _ rfl
  have cb15 := b1.cell 5 _ rfl
  go_wp2_with fail
  clear cb00 cb01 cb02 cb03 cb04 cb05 cb10 cb11 cb12 cb13 cb14 cb15
  refine (lboth_v h0 h1 h2 V0.out h3 h4 h5 V1.out (by omega)).mono ?_
  rintro e w1 ⟨rfl, hb⟩
  replace h0 := h0.below hb
  replace h1 := h1.below hb
  replace h2 := h2.below hb
  replace h3 := h3.below hb
  replace h4 := h4.below hb
  replace h5 := h5.below hb
  replace b0 := b0.below hb
  replace b1 := b1.below hb
  replace b9 := b9.below hb
  replace H0 := H0.trans (hb.mono H0.size)
  clear hb
  have cb00 := b0.cell 0 _ rfl
  have cb01 := b0.cell 1 _ rfl
  have cb02 := b0.cell 2 _ rfl
  have cb03 := b0.cell 3 _ rfl
  have cb04 := b0.cell 4 _ rfl
  have cb05 := b0.cell 5 _ rfl
  have cb10 := b1.cell 0 _ rfl
  have cb11 := b1.cell 1 _ rfl
  have cb12 := b1.cell 2 _ rfl
  have cb13 := b1.cell 3 _ rfl
  have cb14 := b1.cell 4 _ rfl
  have cb15 := b1.cell 5 _ rfl
  go_wp2_with fail
  clear cb00 cb01 cb02 cb03 cb04 cb05 cb10 cb11 cb12 cb13 cb14 cb15
  have hD := drawn_below w1
  replace h0 := h0.below hD
  replace h1 := h1.below hD
  replace h2 := h2.below hD
  replace h3 := h3.below hD
  replace h4 := h4.below hD
  replace h5 := h5.below hD
  replace b0 := b0.below hD
  replace b1 := b1.below hD
  replace b9 := b9.below hD
  replace H0 := H0.trans (hD.mono H0.size)
  clear hD
  refine wp_region_noPanic ?_
  refine wp_region_held_drew (S := (fun V => V.cell? ⟨w.heap.size, 0, none⟩ = some (.bool s0) ∧ V.cell? ⟨w.heap.size, 1, none⟩ = some (.slice A0 n0 c0) ∧ V.cell? ⟨w.heap.size, 2, none⟩ = some (.bool s1) ∧ V.cell? ⟨w.heap.size, 3, none⟩ = some (.slice A1 n1 c1) ∧ V.cell? ⟨w.heap.size, 4, none⟩ = some (.bool s2) ∧ V.cell? ⟨w.heap.size, 5, none⟩ = some (.slice A2 n2 c2) ∧ V.cell? ⟨w.heap.size + 1, 0, none⟩ = some (.bool s3) ∧ V.cell? ⟨w.heap.size + 1, 1, none⟩ = some (.slice A3 n3 c3) ∧ V.cell? ⟨w.heap.size + 1, 2, none⟩ = some (.bool s4) ∧ V.cell? ⟨w.heap.size + 1, 3, none⟩ = some (.slice A4 n4 c4) ∧ V.cell? ⟨w.heap.size + 1, 4, none⟩ = some (.bool s5) ∧ V.cell? ⟨w.heap.size + 1, 5, none⟩ = some (.slice A5 n5 c5))) (by kernel_rfl) ⟨b0.cell 0 _ rfl, b0.cell 1 _ rfl, b0.cell 2 _ rfl, b0.cell 3 _ rfl, b0.cell 4 _ rfl, b0.cell 5 _ rfl, b1.cell 0 _ rfl, b1.cell 1 _ rfl, b1.cell 2 _ rfl, b1.cell 3 _ rfl, b1.cell 4 _ rfl, b1.cell 5 _ rfl⟩ (fun hHeld => ?_)
  generalize w1.drew = v2 at H0 hHeld h0 h1 h2 h3 h4 h5 b0 b1 b9 ⊢
  refine wpAnyH_take (i := 0) (v := ?_) rfl (by kernel_rfl) (by kernel_rfl) (by kernel_rfl) (fun _ _ _ h => h) (Or.inl ⟨by rfl, ?_⟩) (by assumption) ?_
  rotate_left
  · (intro w hSw; (try dsimp only at hSw); go_simp; (try with_reducible rfl))
  (try simp only [List.getElem_toArray, List.getElem_cons_zero, Act.put, List.setIfInBounds_toArray, List.set_cons_zero, List.set_cons_succ])
  refine wpAnyH_take (i := 2) (v := ?_) rfl (by kernel_rfl) (by kernel_rfl) (by kernel_rfl) (fun _ _ _ h => h) (Or.inl ⟨by rfl, ?_⟩) (by assumption) ?_
  rotate_left
  · (intro w hSw; (try dsimp only at hSw); go_simp; (try with_reducible rfl))
  (try simp only [List.getElem_toArray, List.getElem_cons_succ, List.getElem_cons_zero, Act.put, List.setIfInBounds_toArray, List.set_cons_zero, List.set_cons_succ])
  refine wpAnyH_ready (rs := [1]) (by kernel_rfl) (by simp) (AllReadyH.cons (o := _) rfl (fun K hK => ?_) AllReadyH.nil)
  go_simp
  go_at_call 82
  refine (lcoef_v).mono ?_
  rintro e w3 ⟨rfl, hb⟩
  replace h0 := h0.below hb
  replace h1 := h1.below hb
  replace h2 := h2.below hb
  replace h3 := h3.below hb
  replace h4 := h4.below hb
  replace h5 := h5.below hb
  replace b0 := b0.below hb
  replace b1 := b1.below hb
  replace b9 := b9.below hb
  replace H0 := H0.trans (hb.mono H0.size)
  clear hb
  go_wp2_with fail
  refine hK.out _ _ ⟨b0.cell 0 _ rfl, b0.cell 1 _ rfl, b0.cell 2 _ rfl, b0.cell 3 _ rfl, b0.cell 4 _ rfl, b0.cell 5 _ rfl, b1.cell 0 _ rfl, b1.cell 1 _ rfl, b1.cell 2 _ rfl, b1.cell 3 _ rfl, b1.cell 4 _ rfl, b1.cell 5 _ rfl⟩ (fun hHeld => ?_)
  clear hK K
  (try simp only [List.getElem_toArray, List.getElem_cons_succ, List.getElem_cons_zero, Act.put, List.setIfInBounds_toArray, List.set_cons_zero, List.set_cons_succ])
  refine wpAnyH_ready (rs := [3]) (by kernel_rfl) (by simp) (AllReadyH.cons (o := _) rfl (fun K hK => ?_) AllReadyH.nil)
  go_simp
  go_at_call 82
  refine (lcoef_v).mono ?_
  rintro e w4 ⟨rfl, hb⟩
  replace h0 := h0.below hb
  replace h1 := h1.below hb
  replace h2 := h2.below hb
  replace h3 := h3.below hb
  replace h4 := h4.below hb
  replace h5 := h5.below hb
  replace b0 := b0.below hb
  replace b1 := b1.below hb
  replace b9 := b9.below hb
  replace H0 := H0.trans (hb.mono H0.size)
  clear hb
  go_wp2_with fail
  refine hK.out _ _ ⟨b0.cell 0 _ rfl, b0.cell 1 _ rfl, b0.cell 2 _ rfl, b0.cell 3 _ rfl, b0.cell 4 _ rfl, b0.cell 5 _ rfl, b1.cell 0 _ rfl, b1.cell 1 _ rfl, b1.cell 2 _ rfl, b1.cell 3 _ rfl, b1.cell 4 _ rfl, b1.cell 5 _ rfl⟩ (fun hHeld => ?_)
  clear hK K
  (try simp only [List.getElem_toArray, List.getElem_cons_succ, List.getElem_cons_zero, Act.put, List.setIfInBounds_toArray, List.set_cons_zero, List.set_cons_succ])
  refine wpAnyH_ready (rs := [4]) (by kernel_rfl) (by simp) (AllReadyH.cons (o := _) rfl (fun K hK => ?_) AllReadyH.nil)
  go_simp
  go_at_call 91
  refine (dcross_v h0.ri h1.ri h2.ri h3.ri h4.ri h5.ri (by omega)).mono ?_
  rintro e w5 ⟨s6, A6, n6, c6, s7, A7, n7, c7, s8, A8, n8, c8, rfl, g6, g7, g8, hb⟩
  replace h0 := h0.below hb
  replace h1 := h1.below hb
  replace h2 := h2.below hb
  replace h3 := h3.below hb
  replace h4 := h4.below hb
  replace h5 := h5.below hb
  replace b0 := b0.below hb
  replace b1 := b1.below hb
  replace b9 := b9.below hb
  replace H0 := H0.trans (hb.mono H0.size)
  clear hb
  go_wp2_with fail
  refine hK.out _ _ ⟨b0.cell 0 _ rfl, b0.cell 1 _ rfl, b0.cell 2 _ rfl, b0.cell 3 _ rfl, b0.cell 4 _ rfl, b0.cell 5 _ rfl, b1.cell 0 _ rfl, b1.cell 1 _ rfl, b1.cell 2 _ rfl, b1.cell 3 _ rfl, b1.cell 4 _ rfl, b1.cell 5 _ rfl⟩ (fun hHeld => ?_)
  clear hK K
  (try simp only [List.getElem_toArray, List.getElem_cons_succ, List.getElem_cons_zero, Act.put, List.setIfInBounds_toArray, List.set_cons_zero, List.set_cons_succ])
  refine wpAnyH_ready (rs := [5]) (by kernel_rfl) (by simp) (AllReadyH.cons (o := _) rfl (fun K hK => ?_) AllReadyH.nil)
  go_simp
  go_at_call 93
  refine (lpoint_v g6.ri g7.ri g8.ri HZ.out (by omega)).mono ?_
  rintro e w6 ⟨s10, A10, n10, c10, D10, m10, e10, s11, A11, n11, c11, D11, m11, e11, rfl, g9, g10, hb⟩
  replace h0 := h0.below hb
  replace h1 := h1.below hb
  replace h2 := h2.below hb
  replace h3 := h3.below hb
  replace h4 := h4.below hb
  replace h5 := h5.below hb
  replace g6 := g6.below hb
  replace g7 := g7.below hb
  replace g8 := g8.below hb
  replace b0 := b0.below hb
  replace b1 := b1.below hb
  replace b9 := b9.below hb
  replace H0 := H0.trans (hb.mono H0.size)
  clear hb
  clear g6
  clear g7
  clear g8
  go_wp2_with fail
  refine hK.out _ _ ⟨b0.cell 0 _ rfl, b0.cell 1 _ rfl, b0.cell 2 _ rfl, b0.cell 3 _ rfl, b0.cell 4 _ rfl, b0.cell 5 _ rfl, b1.cell 0 _ rfl, b1.cell 1 _ rfl, b1.cell 2 _ rfl, b1.cell 3 _ rfl, b1.cell 4 _ rfl, b1.cell 5 _ rfl⟩ (fun hHeld => ?_)
  clear hK K
  (try simp only [List.getElem_toArray, List.getElem_cons_succ, List.getElem_cons_zero, Act.put, List.setIfInBounds_toArray, List.set_cons_zero, List.set_cons_succ])
  refine wpAnyH_take (i := 6) (v := ?_) rfl (by kernel_rfl) (by kernel_rfl) (by kernel_rfl) (fun _ _ _ h => h) (Or.inl ⟨by rfl, ?_⟩) (by assumption) ?_
  rotate_left
  · (intro w hSw; (try dsimp only at hSw); go_simp; (try with_reducible rfl))
  (try simp only [List.getElem_toArray, List.getElem_cons_succ, List.getElem_cons_zero, Act.put, List.setIfInBounds_toArray, List.set_cons_zero, List.set_cons_succ])
  refine wpAnyH_take (i := 7) (v := ?_) rfl (by kernel_rfl) (by kernel_rfl) (by kernel_rfl) (fun _ _ _ h => h) (Or.inl ⟨by rfl, ?_⟩) (by assumption) ?_
  rotate_left
  · (intro w hSw; (try dsimp only at hSw); go_simp; (try with_reducible rfl))
  (try simp only [List.getElem_toArray, List.getElem_cons_succ, List.getElem_cons_zero, Act.put, List.setIfInBounds_toArray, List.set_cons_zero, List.set_cons_succ])
  have cb90 := b9.cell 0 _ rfl
  have yb90 := b9.frozen 0
  have cb91 := b9.cell 1 _ rfl
  have yb91 := b9.frozen 1
  have cb92 := b9.cell 2 _ rfl
  have yb92 := b9.frozen 2
  have cb93 := b9.cell 3 _ rfl
  have yb93 := b9.frozen 3
  have cb94 := b9.cell 4 _ rfl
  have yb94 := b9.frozen 4
  have cb95 := b9.cell 5 _ rfl
  have yb95 := b9.frozen 5
  refine wpAnyH_ready (rs := [8]) (by kernel_rfl) (by simp) (AllReadyH.cons (o := _) rfl (fun K hK => ?_) AllReadyH.nil)
  go_simp
  clear cb90 yb90 cb91 yb91 cb92 yb92 cb93 yb93 cb94 yb94 cb95 yb95
  have hg := only_store6 w6 (w.heap.size + 1 + 1) (.bool s10) (.slice A10 n10 c10) (.slice D10 m10 e10) (.bool s11) (.slice A11 n11 c11) (.slice D11 m11 e11)
  have hB := b9.stored6 (.bool s10) (.slice A10 n10 c10) (.slice D10 m10 e10) (.bool s11) (.slice A11 n11 c11) (.slice D11 m11 e11)
  generalize hX : ((((((w6.setCell ⟨w.heap.size + 1 + 1, 0, none⟩ (.bool s10)).setCell ⟨w.heap.size + 1 + 1, 1, none⟩ (.slice A10 n10 c10)).setCell ⟨w.heap.size + 1 + 1, 2, none⟩ (.slice D10 m10 e10)).setCell ⟨w.heap.size + 1 + 1, 3, none⟩ (.bool s11)).setCell ⟨w.heap.size + 1 + 1, 4, none⟩ (.slice A11 n11 c11)).setCell ⟨w.heap.size + 1 + 1, 5, none⟩ (.slice D11 m11 e11)) = X7 at hg hB ⊢
  clear hX
  replace h0 := h0.kept b9 (by simp [notInt]) hg
  replace h1 := h1.kept b9 (by simp [notInt]) hg
  replace h2 := h2.kept b9 (by simp [notInt]) hg
  replace h3 := h3.kept b9 (by simp [notInt]) hg
  replace h4 := h4.kept b9 (by simp [notInt]) hg
  replace h5 := h5.kept b9 (by simp [notInt]) hg
  replace g9 := g9.kept b9 (by simp [notInt]) hg
  replace g10 := g10.kept b9 (by simp [notInt]) hg
  replace b0 := b0.other hg (by omega)
  replace b1 := b1.other hg (by omega)
  replace b9 := hB
  replace H0 := below_only H0 hg (by omega) H0.size
  clear hg hB
  refine hK.out _ _ ⟨b0.cell 0 _ rfl, b0.cell 1 _ rfl, b0.cell 2 _ rfl, b0.cell 3 _ rfl, b0.cell 4 _ rfl, b0.cell 5 _ rfl, b1.cell 0 _ rfl, b1.cell 1 _ rfl, b1.cell 2 _ rfl, b1.cell 3 _ rfl, b1.cell 4 _ rfl, b1.cell 5 _ rfl⟩ (fun hHeld => ?_)
  clear hK K
  (try simp only [List.getElem_toArray, List.getElem_cons_succ, List.getElem_cons_zero, Act.put, List.setIfInBounds_toArray, List.set_cons_zero, List.set_cons_succ])
  refine wpAnyH_take (i := 9) (v := ?_) rfl (by kernel_rfl) (by kernel_rfl) (by kernel_rfl) (fun _ _ _ h => h) (Or.inl ⟨by rfl, ?_⟩) (by assumption) ?_
  rotate_left
  · (intro w hSw; (try dsimp only at hSw); go_simp; (try with_reducible rfl))
  (try simp only [List.getElem_toArray, List.getElem_cons_succ, List.getElem_cons_zero, Act.put, List.setIfInBounds_toArray, List.set_cons_zero, List.set_cons_succ])
  refine wpAnyH_done (by kernel_rfl) ?_ _
  refine NoPanic.normal ?_
  go_wp2_with fail
  refine bodyPost_ret (ret_pointb_b rfl rfl b9) rfl ?_
  exact ⟨_, _, _, _, _, _, _, _, _, _, _, _, _, _, rfl, g9, g10, H0⟩
set_option maxRecDepth 100000 in
set_option maxHeartbeats 4000000 in
theorem lparallel_v (h0 : NI w s0 (.slice A0 n0 c0) z0 L) (h1 : NI w s1 (.slice A1 n1 c1) z1 L) (h2 : NI w s2 (.slice A2 n2 c2) z2 L) (v0 : VL z0 z1 z2) (h3 : NI w s3 (.slice A3 n3 c3) z3 L) (h4 : NI w s4 (.slice A4 n4 c4) z4 L) (h5 : NI w s5 (.slice A5 n5 c5) z5 L) (v1 : VL z3 z4 z5) (hk : decide (z0 * z4 - z1 * z3 = 0) = b) (hL : L ≤ 10000) :
    Calls Tryz.prog 47 #[.agg #[.bool s0, .slice A0 n0 c0, .bool s1, .slice A1 n1 c1, .bool s2, .slice A2 n2 c2], .agg #[.bool s3, .slice A3 n3 c3, .bool s4, .slice A4 n4 c4, .bool s5, .slice A5 n5 c5]] w fun e w' => e = .returned (.bool b) ∧ Below w.heap.size w w' := by
  have V0 := Lib.hid v0
  clear v0
  have V1 := Lib.hid v1
  clear v1
  by_cases hd : z0 * z4 - z1 * z3 = 0
  · rw [decide_eq_true hd] at hk
    subst hk
    have HS : Hid ((z0 * z4 - z1 * z3).sign = 0) := Lib.hid (by rw [hd]; rfl)
    clear hd
    go_enter Tryz.func47, Tryz.ntmps47
    go_wp2_with fail
    obtain ⟨W0, hW, b0, b1, hbW, hszW0⟩ := boxes2 w #[.bool s0, .slice A0 n0 c0, .bool s1, .slice A1 n1 c1, .bool s2, .slice A2 n2 c2] #[.bool s3, .slice A3 n3 c3, .bool s4, .slice A4 n4 c4, .bool s5, .slice A5 n5 c5] 30 30
    rw [hW]
    clear hW
    replace h0 := h0.below hbW
    replace h1 := h1.below hbW
    replace h2 := h2.below hbW
    replace h3 := h3.below hbW
    replace h4 := h4.below hbW
    replace h5 := h5.below hbW
    have H0 := hbW
    clear hbW
    have cb00 := b0.cell 0 _ rfl
    have cb01 := b0.cell 1 _ rfl
    have cb02 := b0.cell 2 _ rfl
    have cb03 := b0.cell 3 _ rfl
    have cb04 := b0.cell 4 _ rfl
    have cb05 := b0.cell 5 _ rfl
    have cb10 := b1.cell 0 _ rfl
    have cb11 := b1.cell 1 _ rfl
    have cb12 := b1.cell 2 _ rfl
    have cb13 := b1.cell 3 _ rfl
    have cb14 := b1.cell 4 _ rfl
    have cb15 := b1.cell 5 _ rfl
    go_wp2_with fail
    clear cb00 cb01 cb02 cb03 cb04 cb05 cb10 cb11 cb12 cb13 cb14 cb15
    refine (ldet_v h0.ri h1.ri h3.ri h4.ri (by omega)).mono ?_
    rintro e w1 ⟨s6, A6, n6, c6, rfl, g6, hb⟩
    replace h0 := h0.below hb
    replace h1 := h1.below hb
    replace h2 := h2.below hb
    replace h3 := h3.below hb
    replace h4 := h4.below hb
    replace h5 := h5.below hb
    replace b0 := b0.below hb
    replace b1 := b1.below hb
    replace H0 := H0.trans (hb.mono H0.size)
    clear hb
    go_wp2_with fail
    refine (isign_is g6.ri HS.out).mono ?_
    rintro e w2 ⟨rfl, hb⟩
    replace h0 := h0.below hb
    replace h1 := h1.below hb
    replace h2 := h2.below hb
    replace h3 := h3.below hb
    replace h4 := h4.below hb
    replace h5 := h5.below hb
    replace g6 := g6.below hb
    replace b0 := b0.below hb
    replace b1 := b1.below hb
    replace H0 := H0.trans (hb.mono H0.size)
    clear hb
    have cb00 := b0.cell 0 _ rfl
    have cb01 := b0.cell 1 _ rfl
    have cb02 := b0.cell 2 _ rfl
    have cb03 := b0.cell 3 _ rfl
    have cb04 := b0.cell 4 _ rfl
    have cb05 := b0.cell 5 _ rfl
    have cb10 := b1.cell 0 _ rfl
    have cb11 := b1.cell 1 _ rfl
    have cb12 := b1.cell 2 _ rfl
    have cb13 := b1.cell 3 _ rfl
    have cb14 := b1.cell 4 _ rfl
    have cb15 := b1.cell 5 _ rfl
    go_wp2_with fail
    clear cb00 cb01 cb02 cb03 cb04 cb05 cb10 cb11 cb12 cb13 cb14 cb15
    refine (lboth_v h0 h1 h2 V0.out h3 h4 h5 V1.out (by omega)).mono ?_
    rintro e w3 ⟨rfl, hb⟩
    replace h0 := h0.below hb
    replace h1 := h1.below hb
    replace h2 := h2.below hb
    replace h3 := h3.below hb
    replace h4 := h4.below hb
    replace h5 := h5.below hb
    replace g6 := g6.below hb
    replace b0 := b0.below hb
    replace b1 := b1.below hb
    replace H0 := H0.trans (hb.mono H0.size)
    clear hb
    go_wp2_with fail
    go_returns
    exact ⟨rfl, H0⟩
  · rw [decide_eq_false hd] at hk
    subst hk
    obtain ⟨ks, hks⟩ : ∃ k, (z0 * z4 - z1 * z3).sign = k := ⟨_, rfl⟩
    have hk1 : ((ks : Int) == 0) = false := by rw [beq_eq_false_iff_ne]; rintro rfl; exact hd ((sign0_iff _).1 hks)
    have HS := Lib.hid hks
    clear hd hks
    go_enter Tryz.func47, Tryz.ntmps47
    go_wp2_with fail
    obtain ⟨W0, hW, b0, b1, hbW, hszW0⟩ := boxes2 w #[.bool s0, .slice A0 n0 c0, .bool s1, .slice A1 n1 c1, .bool s2, .slice A2 n2 c2] #[.bool s3, .slice A3 n3 c3, .bool s4, .slice A4 n4 c4, .bool s5, .slice A5 n5 c5] 30 30
    rw [hW]
    clear hW
    replace h0 := h0.below hbW
    replace h1 := h1.below hbW
    replace h2 := h2.below hbW
    replace h3 := h3.below hbW
    replace h4 := h4.below hbW
    replace h5 := h5.below hbW
    have H0 := hbW
    clear hbW
    have cb00 := b0.cell 0 _ rfl
    have cb01 := b0.cell 1 _ rfl
    have cb02 := b0.cell 2 _ rfl
    have cb03 := b0.cell 3 _ rfl
    have cb04 := b0.cell 4 _ rfl
    have cb05 := b0.cell 5 _ rfl
    have cb10 := b1.cell 0 _ rfl
    have cb11 := b1.cell 1 _ rfl
    have cb12 := b1.cell 2 _ rfl
    have cb13 := b1.cell 3 _ rfl
    have cb14 := b1.cell 4 _ rfl
    have cb15 := b1.cell 5 _ rfl
    go_wp2_with fail
    clear cb00 cb01 cb02 cb03 cb04 cb05 cb10 cb11 cb12 cb13 cb14 cb15
    refine (ldet_v h0.ri h1.ri h3.ri h4.ri (by omega)).mono ?_
    rintro e w1 ⟨s6, A6, n6, c6, rfl, g6, hb⟩
    replace h0 := h0.below hb
    replace h1 := h1.below hb
    replace h2 := h2.below hb
    replace h3 := h3.below hb
    replace h4 := h4.below hb
    replace h5 := h5.below hb
    replace b0 := b0.below hb
    replace b1 := b1.below hb
    replace H0 := H0.trans (hb.mono H0.size)
    clear hb
    go_wp2_with fail
    refine (isign_is g6.ri HS.out).mono ?_
    rintro e w2 ⟨rfl, hb⟩
    replace h0 := h0.below hb
    replace h1 := h1.below hb
    replace h2 := h2.below hb
    replace h3 := h3.below hb
    replace h4 := h4.below hb
    replace h5 := h5.below hb
    replace g6 := g6.below hb
    replace b0 := b0.below hb
    replace b1 := b1.below hb
    replace H0 := H0.trans (hb.mono H0.size)
    clear hb
    have cb00 := b0.cell 0 _ rfl
    have cb01 := b0.cell 1 _ rfl
    have cb02 := b0.cell 2 _ rfl
    have cb03 := b0.cell 3 _ rfl
    have cb04 := b0.cell 4 _ rfl
    have cb05 := b0.cell 5 _ rfl
    have cb10 := b1.cell 0 _ rfl
    have cb11 := b1.cell 1 _ rfl
    have cb12 := b1.cell 2 _ rfl
    have cb13 := b1.cell 3 _ rfl
    have cb14 := b1.cell 4 _ rfl
    have cb15 := b1.cell 5 _ rfl
    go_wp2_with fail
    go_returns
    exact ⟨rfl, H0⟩
end
end Go.Proofs.YtancgkmkbgkncaaGreat
