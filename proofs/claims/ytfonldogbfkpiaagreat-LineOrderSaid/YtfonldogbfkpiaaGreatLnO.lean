/-
  slices.SortFunc of the coefficients of two lines; Canon.
-/
import Derived.Test.YtfonldogbfkpiaaGreatLnC
import Derived.Test.YtfonldogbfkpiaaGreatShelf
namespace Go.Proofs.YtfonldogbfkpiaaGreat
open Go.RowKit

section
variable {A0 A1 A2 A3 A4 A5 A6 A7 A8 A9 A10 A11 A12 A13 A14 A15 A16 A17 A18 A19 A20 A21 A22 A23 D0 D1 D2 D3 D4 D5 D6 D7 D8 D9 D10 D11 D12 D13 D14 D15 D16 D17 D18 D19 D20 D21 D22 D23 : Option Addr} {n0 n1 n2 n3 n4 n5 n6 n7 n8 n9 n10 n11 n12 n13 n14 n15 n16 n17 n18 n19 n20 n21 n22 n23 c0 c1 c2 c3 c4 c5 c6 c7 c8 c9 c10 c11 c12 c13 c14 c15 c16 c17 c18 c19 c20 c21 c22 c23 m0 m1 m2 m3 m4 m5 m6 m7 m8 m9 m10 m11 m12 m13 m14 m15 m16 m17 m18 m19 m20 m21 m22 m23 e0 e1 e2 e3 e4 e5 e6 e7 e8 e9 e10 e11 e12 e13 e14 e15 e16 e17 e18 e19 e20 e21 e22 e23 : Nat} {s0 s1 s2 s3 s4 s5 s6 s7 s8 s9 s10 s11 s12 s13 s14 s15 s16 s17 s18 s19 s20 s21 s22 s23 : Bool} {q0 q1 q2 q3 q4 q5 q6 q7 : Rat} {z0 z1 z2 z3 z4 z5 z6 z7 z8 z9 z10 z11 : Int} {L L0 L1 x y : Nat} {k : Int} {b : Bool} {w : World}
theorem grown_below {w X : World} {r : Option Nat} (h : Below w.heap.size w X) : w.grownBy X r := ⟨h.os, h.tape, h.output, h.size, fun k hk _ => h.block k hk⟩
theorem only_step {w X : World} {g j : Nat} {u : Value} (h : w.grownBy X (some g)) : w.grownBy (X.setCell ⟨g, j, none⟩ u) (some g) := only_trans h (only_setCell X ⟨g, j, none⟩ u)
theorem only_swap (w : World) (g : Nat) (u0 u1 u2 u3 u4 u5 u6 u7 u8 u9 u10 u11 : Value) : w.grownBy ((((((((((((w.setCell ⟨g, 6, none⟩ u0).setCell ⟨g, 7, none⟩ u1).setCell ⟨g, 8, none⟩ u2).setCell ⟨g, 9, none⟩ u3).setCell ⟨g, 10, none⟩ u4).setCell ⟨g, 11, none⟩ u5).setCell ⟨g, 0, none⟩ u6).setCell ⟨g, 1, none⟩ u7).setCell ⟨g, 2, none⟩ u8).setCell ⟨g, 3, none⟩ u9).setCell ⟨g, 4, none⟩ u10).setCell ⟨g, 5, none⟩ u11) (some g) :=
  only_step (only_step (only_step (only_step (only_step (only_step (only_step (only_step (only_step (only_step (only_step (only_setCell w ⟨g, 6, none⟩ u0)))))))))))
theorem Box.step {w : World} {g : Nat} {cs : Array Value} {t : TypeId} (h : Box w g cs t) (j : Nat) (u : Value) : Box (w.setCell ⟨g, j, none⟩ u) g (cs.setIfInBounds j u) t := by
  unfold Box; rw [heap_setCell_same w g j _ _ _ h]
theorem Box.swap {w : World} {g : Nat} {a0 a1 a2 a3 a4 a5 a6 a7 a8 a9 a10 a11 : Value} {t : TypeId} (h : Box w g #[a0, a1, a2, a3, a4, a5, a6, a7, a8, a9, a10, a11] t) (u0 u1 u2 u3 u4 u5 u6 u7 u8 u9 u10 u11 : Value) : Box ((((((((((((w.setCell ⟨g, 6, none⟩ u0).setCell ⟨g, 7, none⟩ u1).setCell ⟨g, 8, none⟩ u2).setCell ⟨g, 9, none⟩ u3).setCell ⟨g, 10, none⟩ u4).setCell ⟨g, 11, none⟩ u5).setCell ⟨g, 0, none⟩ u6).setCell ⟨g, 1, none⟩ u7).setCell ⟨g, 2, none⟩ u8).setCell ⟨g, 3, none⟩ u9).setCell ⟨g, 4, none⟩ u10).setCell ⟨g, 5, none⟩ u11) g #[u6, u7, u8, u9, u10, u11, u0, u1, u2, u3, u4, u5] t := by
  have h9 := (((((((((((h.step 6 u0).step 7 u1).step 8 u2).step 9 u3).step 10 u4).step 11 u5).step 0 u6).step 1 u7).step 2 u8).step 3 u9).step 4 u10).step 5 u11
  simpa using h9
set_option maxRecDepth 100000 in
set_option maxHeartbeats 4000000 in
theorem lins_lt {g : Nat} (b0 : Box w g #[.bool s0, .slice A0 n0 c0, .bool s1, .slice A1 n1 c1, .bool s2, .slice A2 n2 c2, .bool s3, .slice A3 n3 c3, .bool s4, .slice A4 n4 c4, .bool s5, .slice A5 n5 c5] 58) (h0 : RI w s0 (.slice A0 n0 c0) z0 L) (h1 : RI w s1 (.slice A1 n1 c1) z1 L) (h2 : RI w s2 (.slice A2 n2 c2) z2 L) (h3 : RI w s3 (.slice A3 n3 c3) z3 L) (h4 : RI w s4 (.slice A4 n4 c4) z4 L) (h5 : RI w s5 (.slice A5 n5 c5) z5 L) (hk : cmp3 z3 z4 z5 z0 z1 z2 = -1) :
    Calls Tryz.prog 80 #[.slice (some ⟨g, 0, none⟩) 2 2, .int .i64 0, .int .i64 2, .func (.func 20) #[] #[]] w fun e w' => e = .returned (.tuple #[]) ∧ Box w' g #[.bool s3, .slice A3 n3 c3, .bool s4, .slice A4 n4 c4, .bool s5, .slice A5 n5 c5, .bool s0, .slice A0 n0 c0, .bool s1, .slice A1 n1 c1, .bool s2, .slice A2 n2 c2] 58 ∧ w.grownBy w' (some g) := by
  have HK := Lib.hid hk
  clear hk
  go_enter Tryz.func80, Tryz.ntmps80
  go_wp2_with fail
  have H0 := Below.refl w.heap.size w
  refine wp_loop_rounds 3 ?_
  rw [rounds_succ]
  go_wp2_with fail
  refine wp_loop_rounds 3 ?_
  rw [rounds_succ]
  go_wp2_with fail
  have hw0 : IntKind.i64.wrap 0 = 0 := by decide +kernel
  have hD := drawn_below w
  replace h0 := h0.below hD
  replace h1 := h1.below hD
  replace h2 := h2.below hD
  replace h3 := h3.below hD
  replace h4 := h4.below hD
  replace h5 := h5.below hD
  replace b0 := b0.below hD
  replace H0 := H0.trans (hD.mono H0.size)
  clear hD
  refine wp_region_noPanic ?_
  refine wp_region_held_drew (S := (fun V => V.cell? ⟨g, 0, none⟩ = some (.bool s0) ∧ V.cell? ⟨g, 1, none⟩ = some (.slice A0 n0 c0) ∧ V.cell? ⟨g, 2, none⟩ = some (.bool s1) ∧ V.cell? ⟨g, 3, none⟩ = some (.slice A1 n1 c1) ∧ V.cell? ⟨g, 4, none⟩ = some (.bool s2) ∧ V.cell? ⟨g, 5, none⟩ = some (.slice A2 n2 c2) ∧ V.cell? ⟨g, 6, none⟩ = some (.bool s3) ∧ V.cell? ⟨g, 7, none⟩ = some (.slice A3 n3 c3) ∧ V.cell? ⟨g, 8, none⟩ = some (.bool s4) ∧ V.cell? ⟨g, 9, none⟩ = some (.slice A4 n4 c4) ∧ V.cell? ⟨g, 10, none⟩ = some (.bool s5) ∧ V.cell? ⟨g, 11, none⟩ = some (.slice A5 n5 c5))) (by kernel_rfl) ⟨b0.cell 0 _ rfl, b0.cell 1 _ rfl, b0.cell 2 _ rfl, b0.cell 3 _ rfl, b0.cell 4 _ rfl, b0.cell 5 _ rfl, b0.cell 6 _ rfl, b0.cell 7 _ rfl, b0.cell 8 _ rfl, b0.cell 9 _ rfl, b0.cell 10 _ rfl, b0.cell 11 _ rfl⟩ (fun hHeld => ?_)
  generalize w.drew = v0 at H0 hHeld h0 h1 h2 h3 h4 h5 b0 ⊢
  refine wpAnyH_take (i := 0) (v := ?_) rfl (by kernel_rfl) (by kernel_rfl) (by kernel_rfl) (fun _ _ _ h => h) (Or.inl ⟨by rfl, ?_⟩) (by assumption) ?_
  rotate_left
  · (intro w hSw; (try dsimp only at hSw); go_simp; (try with_reducible rfl))
  (try simp only [List.getElem_toArray, List.getElem_cons_zero, Act.put, List.setIfInBounds_toArray, List.set_cons_zero, List.set_cons_succ])
  refine wpAnyH_take (i := 1) (v := ?_) rfl (by kernel_rfl) (by kernel_rfl) (by kernel_rfl) (fun _ _ _ h => h) (Or.inl ⟨by rfl, ?_⟩) (by assumption) ?_
  rotate_left
  · (intro w hSw; (try dsimp only at hSw); go_simp; (try with_reducible rfl))
  (try simp only [List.getElem_toArray, List.getElem_cons_succ, List.getElem_cons_zero, Act.put, List.setIfInBounds_toArray, List.set_cons_zero, List.set_cons_succ])
  refine wpAnyH_take (i := 2) (v := ?_) rfl (by kernel_rfl) (by kernel_rfl) (by kernel_rfl) (fun _ _ _ h => h) (Or.inl ⟨by rfl, ?_⟩) (by assumption) ?_
  rotate_left
  · (intro w hSw; (try dsimp only at hSw); go_simp; (try with_reducible rfl))
  (try simp only [List.getElem_toArray, List.getElem_cons_succ, List.getElem_cons_zero, Act.put, List.setIfInBounds_toArray, List.set_cons_zero, List.set_cons_succ])
  refine wpAnyH_take (i := 3) (v := ?_) rfl (by kernel_rfl) (by kernel_rfl) (by kernel_rfl) (fun _ _ _ h => h) (Or.inl ⟨by rfl, ?_⟩) (by assumption) ?_
  rotate_left
  · (intro w hSw; (try dsimp only at hSw); go_simp; (try with_reducible rfl))
  (try simp only [List.getElem_toArray, List.getElem_cons_succ, List.getElem_cons_zero, Act.put, List.setIfInBounds_toArray, List.set_cons_zero, List.set_cons_succ])
  refine wpAnyH_take (i := 4) (v := ?_) rfl (by kernel_rfl) (by kernel_rfl) (by kernel_rfl) (fun _ _ _ h => h) (Or.inl ⟨by rfl, ?_⟩) (by assumption) ?_
  rotate_left
  · (intro w hSw; (try dsimp only at hSw); go_simp; (try with_reducible rfl))
  (try simp only [List.getElem_toArray, List.getElem_cons_succ, List.getElem_cons_zero, Act.put, List.setIfInBounds_toArray, List.set_cons_zero, List.set_cons_succ])
  refine wpAnyH_take (i := 5) (v := ?_) rfl (by kernel_rfl) (by kernel_rfl) (by kernel_rfl) (fun _ _ _ h => h) (Or.inl ⟨by rfl, ?_⟩) (by assumption) ?_
  rotate_left
  · (intro w hSw; (try dsimp only at hSw); go_simp; (try with_reducible rfl))
  (try simp only [List.getElem_toArray, List.getElem_cons_succ, List.getElem_cons_zero, Act.put, List.setIfInBounds_toArray, List.set_cons_zero, List.set_cons_succ])
  refine wpAnyH_take (i := 6) (v := ?_) rfl (by kernel_rfl) (by kernel_rfl) (by kernel_rfl) (fun _ _ _ h => h) (Or.inl ⟨by rfl, ?_⟩) (by assumption) ?_
  rotate_left
  · (intro w hSw; (try dsimp only at hSw); go_simp; (try with_reducible rfl))
  (try simp only [List.getElem_toArray, List.getElem_cons_succ, List.getElem_cons_zero, Act.put, List.setIfInBounds_toArray, List.set_cons_zero, List.set_cons_succ])
  refine wpAnyH_take (i := 9) (v := ?_) rfl (by kernel_rfl) (by kernel_rfl) (by kernel_rfl) (fun _ _ _ h => h) (Or.inl ⟨by rfl, ?_⟩) (by assumption) ?_
  rotate_left
  · (intro w hSw; (try dsimp only at hSw); go_simp; (try with_reducible rfl))
  (try simp only [List.getElem_toArray, List.getElem_cons_succ, List.getElem_cons_zero, Act.put, List.setIfInBounds_toArray, List.set_cons_zero, List.set_cons_succ])
  refine wpAnyH_take (i := 10) (v := ?_) rfl (by kernel_rfl) (by kernel_rfl) (by kernel_rfl) (fun _ _ _ h => h) (Or.inl ⟨by rfl, ?_⟩) (by assumption) ?_
  rotate_left
  · (intro w hSw; (try dsimp only at hSw); go_simp; (try with_reducible rfl))
  (try simp only [List.getElem_toArray, List.getElem_cons_succ, List.getElem_cons_zero, Act.put, List.setIfInBounds_toArray, List.set_cons_zero, List.set_cons_succ])
  refine wpAnyH_take (i := 7) (v := ?_) rfl (by kernel_rfl) (by kernel_rfl) (by kernel_rfl) (fun _ _ _ h => h) (Or.inl ⟨by rfl, ?_⟩) (by assumption) ?_
  rotate_left
  · (intro w hSw; (try dsimp only at hSw); go_simp; (try with_reducible rfl))
  (try simp only [List.getElem_toArray, List.getElem_cons_succ, List.getElem_cons_zero, Act.put, List.setIfInBounds_toArray, List.set_cons_zero, List.set_cons_succ])
  refine wpAnyH_take (i := 11) (v := ?_) rfl (by kernel_rfl) (by kernel_rfl) (by kernel_rfl) (fun _ _ _ h => h) (Or.inl ⟨by rfl, ?_⟩) (by assumption) ?_
  rotate_left
  · (intro w hSw; (try dsimp only at hSw); go_simp; (try with_reducible rfl))
  (try simp only [List.getElem_toArray, List.getElem_cons_succ, List.getElem_cons_zero, Act.put, List.setIfInBounds_toArray, List.set_cons_zero, List.set_cons_succ])
  refine wpAnyH_take (i := 8) (v := ?_) rfl (by kernel_rfl) (by kernel_rfl) (by kernel_rfl) (fun _ _ _ h => h) (Or.inl ⟨by rfl, ?_⟩) (by assumption) ?_
  rotate_left
  · (intro w hSw; (try dsimp only at hSw); go_simp; (try with_reducible rfl))
  (try simp only [List.getElem_toArray, List.getElem_cons_succ, List.getElem_cons_zero, Act.put, List.setIfInBounds_toArray, List.set_cons_zero, List.set_cons_succ])
  refine wpAnyH_take (i := 12) (v := ?_) rfl (by kernel_rfl) (by kernel_rfl) (by kernel_rfl) (fun _ _ _ h => h) (Or.inl ⟨by rfl, ?_⟩) (by assumption) ?_
  rotate_left
  · (intro w hSw; (try dsimp only at hSw); go_simp; (try with_reducible rfl))
  (try simp only [List.getElem_toArray, List.getElem_cons_succ, List.getElem_cons_zero, Act.put, List.setIfInBounds_toArray, List.set_cons_zero, List.set_cons_succ])
  refine wpAnyH_take (i := 13) (v := ?_) rfl (by kernel_rfl) (by kernel_rfl) (by kernel_rfl) (fun _ _ _ h => h) (Or.inl ⟨by rfl, ?_⟩) (by assumption) ?_
  rotate_left
  · (intro w hSw; (try dsimp only at hSw); go_simp; (try with_reducible rfl))
  (try simp only [List.getElem_toArray, List.getElem_cons_succ, List.getElem_cons_zero, Act.put, List.setIfInBounds_toArray, List.set_cons_zero, List.set_cons_succ])
  refine wpAnyH_ready (rs := [14]) (by kernel_rfl) (by simp) (AllReadyH.cons (o := _) rfl (fun K hK => ?_) AllReadyH.nil)
  go_simp
  go_at_call 20
  refine (lcmp_v h3 h4 h5 h0 h1 h2 HK.out).mono ?_
  rintro e w1 ⟨rfl, hb⟩
  replace h0 := h0.below hb
  replace h1 := h1.below hb
  replace h2 := h2.below hb
  replace h3 := h3.below hb
  replace h4 := h4.below hb
  replace h5 := h5.below hb
  replace b0 := b0.below hb
  replace H0 := H0.trans (hb.mono H0.size)
  clear hb
  go_wp2_with fail
  refine hK.out _ _ ⟨b0.cell 0 _ rfl, b0.cell 1 _ rfl, b0.cell 2 _ rfl, b0.cell 3 _ rfl, b0.cell 4 _ rfl, b0.cell 5 _ rfl, b0.cell 6 _ rfl, b0.cell 7 _ rfl, b0.cell 8 _ rfl, b0.cell 9 _ rfl, b0.cell 10 _ rfl, b0.cell 11 _ rfl⟩ (fun hHeld => ?_)
  clear hK K
  (try simp only [List.getElem_toArray, List.getElem_cons_succ, List.getElem_cons_zero, Act.put, List.setIfInBounds_toArray, List.set_cons_zero, List.set_cons_succ])
  refine wpAnyH_take (i := 15) (v := ?_) rfl (by kernel_rfl) (by kernel_rfl) (by kernel_rfl) (fun _ _ _ h => h) (Or.inl ⟨by rfl, ?_⟩) (by assumption) ?_
  rotate_left
  · (intro w hSw; (try dsimp only at hSw); go_simp; (try with_reducible rfl))
  (try simp only [List.getElem_toArray, List.getElem_cons_succ, List.getElem_cons_zero, Act.put, List.setIfInBounds_toArray, List.set_cons_zero, List.set_cons_succ])
  refine wpAnyH_take (i := 16) (v := ?_) rfl (by kernel_rfl) (by kernel_rfl) (by kernel_rfl) (fun _ _ _ h => h) (Or.inl ⟨by rfl, ?_⟩) (by assumption) ?_
  rotate_left
  · (intro w hSw; (try dsimp only at hSw); go_simp; (try with_reducible rfl))
  (try simp only [List.getElem_toArray, List.getElem_cons_succ, List.getElem_cons_zero, Act.put, List.setIfInBounds_toArray, List.set_cons_zero, List.set_cons_succ])
  refine wpAnyH_done (by kernel_rfl) ?_ _
  refine NoPanic.normal ?_
  go_wp2_with fail
  have hD := drawn_below w1
  replace h0 := h0.below hD
  replace h1 := h1.below hD
  replace h2 := h2.below hD
  replace h3 := h3.below hD
  replace h4 := h4.below hD
  replace h5 := h5.below hD
  replace b0 := b0.below hD
  replace H0 := H0.trans (hD.mono H0.size)
  clear hD
  refine wp_region_noPanic ?_
  refine wp_region_anyd (by kernel_rfl) ?_
  generalize w1.drew = v2 at H0 h0 h1 h2 h3 h4 h5 b0 ⊢
  refine wpAny_take (i := 0) (v := ?_) rfl (by kernel_rfl) (by kernel_rfl) (by kernel_rfl) (fun _ _ _ h => h) (Or.inl ⟨by rfl, ?_⟩) ?_
  rotate_left
  · (intro w; go_simp; (try with_reducible rfl))
  (try simp only [List.getElem_toArray, List.getElem_cons_zero, Act.put, List.setIfInBounds_toArray, List.set_cons_zero, List.set_cons_succ])
  refine wpAny_take (i := 1) (v := ?_) rfl (by kernel_rfl) (by kernel_rfl) (by kernel_rfl) (fun _ _ _ h => h) (Or.inl ⟨by rfl, ?_⟩) ?_
  rotate_left
  · (intro w; go_simp; (try with_reducible rfl))
  (try simp only [List.getElem_toArray, List.getElem_cons_succ, List.getElem_cons_zero, Act.put, List.setIfInBounds_toArray, List.set_cons_zero, List.set_cons_succ])
  refine wpAny_take (i := 2) (v := ?_) rfl (by kernel_rfl) (by kernel_rfl) (by kernel_rfl) (fun _ _ _ h => h) (Or.inl ⟨by rfl, ?_⟩) ?_
  rotate_left
  · (intro w; go_simp; (try with_reducible rfl))
  (try simp only [List.getElem_toArray, List.getElem_cons_succ, List.getElem_cons_zero, Act.put, List.setIfInBounds_toArray, List.set_cons_zero, List.set_cons_succ])
  refine wpAny_take (i := 3) (v := ?_) rfl (by kernel_rfl) (by kernel_rfl) (by kernel_rfl) (fun _ _ _ h => h) (Or.inl ⟨by rfl, ?_⟩) ?_
  rotate_left
  · (intro w; go_simp; (try with_reducible rfl))
  (try simp only [List.getElem_toArray, List.getElem_cons_succ, List.getElem_cons_zero, Act.put, List.setIfInBounds_toArray, List.set_cons_zero, List.set_cons_succ])
  refine wpAny_take (i := 4) (v := ?_) rfl (by kernel_rfl) (by kernel_rfl) (by kernel_rfl) (fun _ _ _ h => h) (Or.inl ⟨by rfl, ?_⟩) ?_
  rotate_left
  · (intro w; go_simp; (try with_reducible rfl))
  (try simp only [List.getElem_toArray, List.getElem_cons_succ, List.getElem_cons_zero, Act.put, List.setIfInBounds_toArray, List.set_cons_zero, List.set_cons_succ])
  refine wpAny_take (i := 5) (v := ?_) rfl (by kernel_rfl) (by kernel_rfl) (by kernel_rfl) (fun _ _ _ h => h) (Or.inl ⟨by rfl, ?_⟩) ?_
  rotate_left
  · (intro w; go_simp; (try with_reducible rfl))
  (try simp only [List.getElem_toArray, List.getElem_cons_succ, List.getElem_cons_zero, Act.put, List.setIfInBounds_toArray, List.set_cons_zero, List.set_cons_succ])
  refine wpAny_take (i := 6) (v := ?_) rfl (by kernel_rfl) (by kernel_rfl) (by kernel_rfl) (fun _ _ _ h => h) (Or.inl ⟨by rfl, ?_⟩) ?_
  rotate_left
  · (intro w; go_simp; (try with_reducible rfl))
  (try simp only [List.getElem_toArray, List.getElem_cons_succ, List.getElem_cons_zero, Act.put, List.setIfInBounds_toArray, List.set_cons_zero, List.set_cons_succ])
  refine wpAny_take (i := 7) (v := ?_) rfl (by kernel_rfl) (by kernel_rfl) (by kernel_rfl) (fun _ _ _ h => h) (Or.inl ⟨by rfl, ?_⟩) ?_
  rotate_left
  · (intro w; go_simp; (try with_reducible rfl))
  (try simp only [List.getElem_toArray, List.getElem_cons_succ, List.getElem_cons_zero, Act.put, List.setIfInBounds_toArray, List.set_cons_zero, List.set_cons_succ])
  refine wpAny_take (i := 8) (v := ?_) rfl (by kernel_rfl) (by kernel_rfl) (by kernel_rfl) (fun _ _ _ h => h) (Or.inl ⟨by rfl, ?_⟩) ?_
  rotate_left
  · (intro w; go_simp; (try with_reducible rfl))
  (try simp only [List.getElem_toArray, List.getElem_cons_succ, List.getElem_cons_zero, Act.put, List.setIfInBounds_toArray, List.set_cons_zero, List.set_cons_succ])
  refine wpAny_take (i := 10) (v := ?_) rfl (by kernel_rfl) (by kernel_rfl) (by kernel_rfl) (fun _ _ _ h => h) (Or.inl ⟨by rfl, ?_⟩) ?_
  rotate_left
  · (intro w; go_simp; (try with_reducible rfl))
  (try simp only [List.getElem_toArray, List.getElem_cons_succ, List.getElem_cons_zero, Act.put, List.setIfInBounds_toArray, List.set_cons_zero, List.set_cons_succ])
  refine wpAny_take (i := 11) (v := ?_) rfl (by kernel_rfl) (by kernel_rfl) (by kernel_rfl) (fun _ _ _ h => h) (Or.inl ⟨by rfl, ?_⟩) ?_
  rotate_left
  · (intro w; go_simp; (try with_reducible rfl))
  (try simp only [List.getElem_toArray, List.getElem_cons_succ, List.getElem_cons_zero, Act.put, List.setIfInBounds_toArray, List.set_cons_zero, List.set_cons_succ])
  refine wpAny_take (i := 12) (v := ?_) rfl (by kernel_rfl) (by kernel_rfl) (by kernel_rfl) (fun _ _ _ h => h) (Or.inl ⟨by rfl, ?_⟩) ?_
  rotate_left
  · (intro w; go_simp; (try with_reducible rfl))
  (try simp only [List.getElem_toArray, List.getElem_cons_succ, List.getElem_cons_zero, Act.put, List.setIfInBounds_toArray, List.set_cons_zero, List.set_cons_succ])
  refine wpAny_of_F (S := (fun V => V.cell? ⟨g, 0, none⟩ = some (.bool s0) ∧ V.cell? ⟨g, 1, none⟩ = some (.slice A0 n0 c0) ∧ V.cell? ⟨g, 2, none⟩ = some (.bool s1) ∧ V.cell? ⟨g, 3, none⟩ = some (.slice A1 n1 c1) ∧ V.cell? ⟨g, 4, none⟩ = some (.bool s2) ∧ V.cell? ⟨g, 5, none⟩ = some (.slice A2 n2 c2) ∧ V.cell? ⟨g, 6, none⟩ = some (.bool s3) ∧ V.cell? ⟨g, 7, none⟩ = some (.slice A3 n3 c3) ∧ V.cell? ⟨g, 8, none⟩ = some (.bool s4) ∧ V.cell? ⟨g, 9, none⟩ = some (.slice A4 n4 c4) ∧ V.cell? ⟨g, 10, none⟩ = some (.bool s5) ∧ V.cell? ⟨g, 11, none⟩ = some (.slice A5 n5 c5))) (F := (fun j => j == 15 || j == 16 || j == 17)) _ _ _ _ ?_
  refine wpAnyF_take (i := 9) (v := ?_) (fun j => j == 14 || j == 15 || j == 16 || j == 17) rfl (by kernel_rfl) (by kernel_rfl) (by kernel_rfl) (by kernel_rfl) (fun j hj => by have h6 : 18 ≤ j := hj; simp; omega) (fun _ _ _ h => h) (Or.inl ⟨by rfl, ?_⟩) ⟨b0.cell 0 _ rfl, b0.cell 1 _ rfl, b0.cell 2 _ rfl, b0.cell 3 _ rfl, b0.cell 4 _ rfl, b0.cell 5 _ rfl, b0.cell 6 _ rfl, b0.cell 7 _ rfl, b0.cell 8 _ rfl, b0.cell 9 _ rfl, b0.cell 10 _ rfl, b0.cell 11 _ rfl⟩ ?_
  rotate_left
  · (intro w hSw; (try dsimp only at hSw); go_simp; (try with_reducible rfl))
  (try simp only [List.getElem_toArray, List.getElem_cons_succ, List.getElem_cons_zero, Act.put, List.setIfInBounds_toArray, List.set_cons_zero, List.set_cons_succ])
  refine wpAnyF_take (i := 13) (v := ?_) (fun j => j == 14 || j == 15 || j == 16 || j == 17) rfl (by kernel_rfl) (by kernel_rfl) (by kernel_rfl) (by kernel_rfl) (fun j hj => by have h6 : 18 ≤ j := hj; simp; omega) (fun _ _ _ h => h) (Or.inl ⟨by rfl, ?_⟩) ⟨b0.cell 0 _ rfl, b0.cell 1 _ rfl, b0.cell 2 _ rfl, b0.cell 3 _ rfl, b0.cell 4 _ rfl, b0.cell 5 _ rfl, b0.cell 6 _ rfl, b0.cell 7 _ rfl, b0.cell 8 _ rfl, b0.cell 9 _ rfl, b0.cell 10 _ rfl, b0.cell 11 _ rfl⟩ ?_
  rotate_left
  · (intro w hSw; (try dsimp only at hSw); go_simp; (try with_reducible rfl))
  (try simp only [List.getElem_toArray, List.getElem_cons_succ, List.getElem_cons_zero, Act.put, List.setIfInBounds_toArray, List.set_cons_zero, List.set_cons_succ])
  refine wpAnyF_take (i := 14) (v := ?_) (fun j => j == 15 || j == 16 || j == 17) rfl (by kernel_rfl) (by kernel_rfl) (by kernel_rfl) (by kernel_rfl) (fun j hj => by have h6 : 18 ≤ j := hj; simp; omega) (fun _ _ _ h => h) (Or.inl ⟨by rfl, ?_⟩) ⟨b0.cell 0 _ rfl, b0.cell 1 _ rfl, b0.cell 2 _ rfl, b0.cell 3 _ rfl, b0.cell 4 _ rfl, b0.cell 5 _ rfl, b0.cell 6 _ rfl, b0.cell 7 _ rfl, b0.cell 8 _ rfl, b0.cell 9 _ rfl, b0.cell 10 _ rfl, b0.cell 11 _ rfl⟩ ?_
  rotate_left
  · (intro w hSw; (try dsimp only at hSw); go_simp; (try with_reducible rfl))
  (try simp only [List.getElem_toArray, List.getElem_cons_succ, List.getElem_cons_zero, Act.put, List.setIfInBounds_toArray, List.set_cons_zero, List.set_cons_succ])
  have cb00 := b0.cell 0 _ rfl
  have yb00 := b0.frozen 0
  have cb01 := b0.cell 1 _ rfl
  have yb01 := b0.frozen 1
  have cb02 := b0.cell 2 _ rfl
  have yb02 := b0.frozen 2
  have cb03 := b0.cell 3 _ rfl
  have yb03 := b0.frozen 3
  have cb04 := b0.cell 4 _ rfl
  have yb04 := b0.frozen 4
  have cb05 := b0.cell 5 _ rfl
  have yb05 := b0.frozen 5
  have cb06 := b0.cell 6 _ rfl
  have yb06 := b0.frozen 6
  have cb07 := b0.cell 7 _ rfl
  have yb07 := b0.frozen 7
  have cb08 := b0.cell 8 _ rfl
  have yb08 := b0.frozen 8
  have cb09 := b0.cell 9 _ rfl
  have yb09 := b0.frozen 9
  have cb010 := b0.cell 10 _ rfl
  have yb010 := b0.frozen 10
  have cb011 := b0.cell 11 _ rfl
  have yb011 := b0.frozen 11
  refine wpAnyF_last (i := 15) (by kernel_rfl) rfl rfl (fun K hK => ?_)
  go_simp
  refine hK.out _ _ ?_
  clear hK K
  (try simp only [List.getElem_toArray, List.getElem_cons_succ, List.getElem_cons_zero, Act.put, List.setIfInBounds_toArray, List.set_cons_zero, List.set_cons_succ])
  refine wpAny_take (i := 16) (v := ?_) rfl (by kernel_rfl) (by kernel_rfl) (by kernel_rfl) (fun _ _ _ h => h) (Or.inl ⟨by rfl, ?_⟩) ?_
  rotate_left
  · (intro w; go_simp; (try with_reducible rfl))
  (try simp only [List.getElem_toArray, List.getElem_cons_succ, List.getElem_cons_zero, Act.put, List.setIfInBounds_toArray, List.set_cons_zero, List.set_cons_succ])
  refine wpAny_one (i := 17) (by kernel_rfl) rfl (fun K hK => ?_)
  go_simp
  refine hK.out _ _ ?_
  clear hK K
  (try simp only [List.getElem_toArray, List.getElem_cons_succ, List.getElem_cons_zero, Act.put, List.setIfInBounds_toArray, List.set_cons_zero, List.set_cons_succ])
  clear cb00 yb00 cb01 yb01 cb02 yb02 cb03 yb03 cb04 yb04 cb05 yb05 cb06 yb06 cb07 yb07 cb08 yb08 cb09 yb09 cb010 yb010 cb011 yb011
  have hg := only_swap v2 g (.bool s0) (.slice A0 n0 c0) (.bool s1) (.slice A1 n1 c1) (.bool s2) (.slice A2 n2 c2) (.bool s3) (.slice A3 n3 c3) (.bool s4) (.slice A4 n4 c4) (.bool s5) (.slice A5 n5 c5)
  have hB := b0.swap (.bool s0) (.slice A0 n0 c0) (.bool s1) (.slice A1 n1 c1) (.bool s2) (.slice A2 n2 c2) (.bool s3) (.slice A3 n3 c3) (.bool s4) (.slice A4 n4 c4) (.bool s5) (.slice A5 n5 c5)
  generalize hX : ((((((((((((v2.setCell ⟨g, 6, none⟩ (.bool s0)).setCell ⟨g, 7, none⟩ (.slice A0 n0 c0)).setCell ⟨g, 8, none⟩ (.bool s1)).setCell ⟨g, 9, none⟩ (.slice A1 n1 c1)).setCell ⟨g, 10, none⟩ (.bool s2)).setCell ⟨g, 11, none⟩ (.slice A2 n2 c2)).setCell ⟨g, 0, none⟩ (.bool s3)).setCell ⟨g, 1, none⟩ (.slice A3 n3 c3)).setCell ⟨g, 2, none⟩ (.bool s4)).setCell ⟨g, 3, none⟩ (.slice A4 n4 c4)).setCell ⟨g, 4, none⟩ (.bool s5)).setCell ⟨g, 5, none⟩ (.slice A5 n5 c5)) = X at hg hB ⊢
  clear hX
  have HG := only_trans (grown_below H0) hg
  clear H0 hg b0 h0 h1 h2 h3 h4 h5
  refine wpAny_done (by kernel_rfl) ?_ _
  refine NoPanic.normal ?_
  go_wp2_with fail
  rw [rounds_succ]
  go_wp2_with fail
  have H0 := Below.refl X.heap.size X
  have hD := drawn_below X
  replace hB := hB.below hD
  replace H0 := H0.trans (hD.mono H0.size)
  clear hD
  refine wp_region_noPanic ?_
  refine wp_region_held_drew (S := (fun V => V.cell? ⟨g, 0, none⟩ = some (.bool s3) ∧ V.cell? ⟨g, 1, none⟩ = some (.slice A3 n3 c3) ∧ V.cell? ⟨g, 2, none⟩ = some (.bool s4) ∧ V.cell? ⟨g, 3, none⟩ = some (.slice A4 n4 c4) ∧ V.cell? ⟨g, 4, none⟩ = some (.bool s5) ∧ V.cell? ⟨g, 5, none⟩ = some (.slice A5 n5 c5) ∧ V.cell? ⟨g, 6, none⟩ = some (.bool s0) ∧ V.cell? ⟨g, 7, none⟩ = some (.slice A0 n0 c0) ∧ V.cell? ⟨g, 8, none⟩ = some (.bool s1) ∧ V.cell? ⟨g, 9, none⟩ = some (.slice A1 n1 c1) ∧ V.cell? ⟨g, 10, none⟩ = some (.bool s2) ∧ V.cell? ⟨g, 11, none⟩ = some (.slice A2 n2 c2))) (by kernel_rfl) ⟨hB.cell 0 _ rfl, hB.cell 1 _ rfl, hB.cell 2 _ rfl, hB.cell 3 _ rfl, hB.cell 4 _ rfl, hB.cell 5 _ rfl, hB.cell 6 _ rfl, hB.cell 7 _ rfl, hB.cell 8 _ rfl, hB.cell 9 _ rfl, hB.cell 10 _ rfl, hB.cell 11 _ rfl⟩ (fun hHeld => ?_)
  generalize X.drew = v900 at H0 hHeld hB ⊢
  refine wpAnyH_take (i := 0) (v := ?_) rfl (by kernel_rfl) (by kernel_rfl) (by kernel_rfl) (fun _ _ _ h => h) (Or.inl ⟨by rfl, ?_⟩) (by assumption) ?_
  rotate_left
  · (intro w hSw; (try dsimp only at hSw); go_simp; (try with_reducible rfl))
  (try simp only [List.getElem_toArray, List.getElem_cons_zero, Act.put, List.setIfInBounds_toArray, List.set_cons_zero, List.set_cons_succ])
  refine wpAnyH_take (i := 1) (v := ?_) rfl (by kernel_rfl) (by kernel_rfl) (by kernel_rfl) (fun _ _ _ h => h) (Or.inl ⟨by rfl, ?_⟩) (by assumption) ?_
  rotate_left
  · (intro w hSw; (try dsimp only at hSw); go_simp; (try with_reducible rfl))
  (try simp only [List.getElem_toArray, List.getElem_cons_succ, List.getElem_cons_zero, Act.put, List.setIfInBounds_toArray, List.set_cons_zero, List.set_cons_succ])
  refine wpAnyH_take (i := 2) (v := ?_) rfl (by kernel_rfl) (by kernel_rfl) (by kernel_rfl) (fun _ _ _ h => h) (Or.inl ⟨by rfl, ?_⟩) (by assumption) ?_
  rotate_left
  · (intro w hSw; (try dsimp only at hSw); go_simp; (try with_reducible rfl))
  (try simp only [List.getElem_toArray, List.getElem_cons_succ, List.getElem_cons_zero, Act.put, List.setIfInBounds_toArray, List.set_cons_zero, List.set_cons_succ])
  refine wpAnyH_take (i := 3) (v := ?_) rfl (by kernel_rfl) (by kernel_rfl) (by kernel_rfl) (fun _ _ _ h => h) (Or.inl ⟨by rfl, ?_⟩) (by assumption) ?_
  rotate_left
  · (intro w hSw; (try dsimp only at hSw); go_simp; (try with_reducible rfl))
  (try simp only [List.getElem_toArray, List.getElem_cons_succ, List.getElem_cons_zero, Act.put, List.setIfInBounds_toArray, List.set_cons_zero, List.set_cons_succ])
  refine wpAnyH_take (i := 4) (v := undef) rfl (by kernel_rfl) (by kernel_rfl) (by kernel_rfl) (fun _ _ _ h => h) (Or.inr ⟨by rfl, rfl⟩) (by assumption) ?_
  (try simp only [List.getElem_toArray, List.getElem_cons_succ, List.getElem_cons_zero, Act.put, List.setIfInBounds_toArray, List.set_cons_zero, List.set_cons_succ])
  refine wpAnyH_take (i := 5) (v := undef) rfl (by kernel_rfl) (by kernel_rfl) (by kernel_rfl) (fun _ _ _ h => h) (Or.inr ⟨by rfl, rfl⟩) (by assumption) ?_
  (try simp only [List.getElem_toArray, List.getElem_cons_succ, List.getElem_cons_zero, Act.put, List.setIfInBounds_toArray, List.set_cons_zero, List.set_cons_succ])
  refine wpAnyH_take (i := 6) (v := undef) rfl (by kernel_rfl) (by kernel_rfl) (by kernel_rfl) (fun _ _ _ h => h) (Or.inr ⟨by rfl, rfl⟩) (by assumption) ?_
  (try simp only [List.getElem_toArray, List.getElem_cons_succ, List.getElem_cons_zero, Act.put, List.setIfInBounds_toArray, List.set_cons_zero, List.set_cons_succ])
  refine wpAnyH_take (i := 9) (v := undef) rfl (by kernel_rfl) (by kernel_rfl) (by kernel_rfl) (fun _ _ _ h => h) (Or.inr ⟨by rfl, rfl⟩) (by assumption) ?_
  (try simp only [List.getElem_toArray, List.getElem_cons_succ, List.getElem_cons_zero, Act.put, List.setIfInBounds_toArray, List.set_cons_zero, List.set_cons_succ])
  refine wpAnyH_take (i := 10) (v := undef) rfl (by kernel_rfl) (by kernel_rfl) (by kernel_rfl) (fun _ _ _ h => h) (Or.inr ⟨by rfl, rfl⟩) (by assumption) ?_
  (try simp only [List.getElem_toArray, List.getElem_cons_succ, List.getElem_cons_zero, Act.put, List.setIfInBounds_toArray, List.set_cons_zero, List.set_cons_succ])
  refine wpAnyH_take (i := 7) (v := undef) rfl (by kernel_rfl) (by kernel_rfl) (by kernel_rfl) (fun _ _ _ h => h) (Or.inr ⟨by rfl, rfl⟩) (by assumption) ?_
  (try simp only [List.getElem_toArray, List.getElem_cons_succ, List.getElem_cons_zero, Act.put, List.setIfInBounds_toArray, List.set_cons_zero, List.set_cons_succ])
  refine wpAnyH_take (i := 11) (v := undef) rfl (by kernel_rfl) (by kernel_rfl) (by kernel_rfl) (fun _ _ _ h => h) (Or.inr ⟨by rfl, rfl⟩) (by assumption) ?_
  (try simp only [List.getElem_toArray, List.getElem_cons_succ, List.getElem_cons_zero, Act.put, List.setIfInBounds_toArray, List.set_cons_zero, List.set_cons_succ])
  refine wpAnyH_take (i := 8) (v := undef) rfl (by kernel_rfl) (by kernel_rfl) (by kernel_rfl) (fun _ _ _ h => h) (Or.inr ⟨by rfl, rfl⟩) (by assumption) ?_
  (try simp only [List.getElem_toArray, List.getElem_cons_succ, List.getElem_cons_zero, Act.put, List.setIfInBounds_toArray, List.set_cons_zero, List.set_cons_succ])
  refine wpAnyH_take (i := 12) (v := undef) rfl (by kernel_rfl) (by kernel_rfl) (by kernel_rfl) (fun _ _ _ h => h) (Or.inr ⟨by rfl, rfl⟩) (by assumption) ?_
  (try simp only [List.getElem_toArray, List.getElem_cons_succ, List.getElem_cons_zero, Act.put, List.setIfInBounds_toArray, List.set_cons_zero, List.set_cons_succ])
  refine wpAnyH_take (i := 13) (v := undef) rfl (by kernel_rfl) (by kernel_rfl) (by kernel_rfl) (fun _ _ _ h => h) (Or.inr ⟨by rfl, rfl⟩) (by assumption) ?_
  (try simp only [List.getElem_toArray, List.getElem_cons_succ, List.getElem_cons_zero, Act.put, List.setIfInBounds_toArray, List.set_cons_zero, List.set_cons_succ])
  refine wpAnyH_take (i := 14) (v := undef) rfl (by kernel_rfl) (by kernel_rfl) (by kernel_rfl) (fun _ _ _ h => h) (Or.inr ⟨by rfl, rfl⟩) (by assumption) ?_
  (try simp only [List.getElem_toArray, List.getElem_cons_succ, List.getElem_cons_zero, Act.put, List.setIfInBounds_toArray, List.set_cons_zero, List.set_cons_succ])
  refine wpAnyH_take (i := 15) (v := undef) rfl (by kernel_rfl) (by kernel_rfl) (by kernel_rfl) (fun _ _ _ h => h) (Or.inr ⟨by rfl, rfl⟩) (by assumption) ?_
  (try simp only [List.getElem_toArray, List.getElem_cons_succ, List.getElem_cons_zero, Act.put, List.setIfInBounds_toArray, List.set_cons_zero, List.set_cons_succ])
  refine wpAnyH_take (i := 16) (v := ?_) rfl (by kernel_rfl) (by kernel_rfl) (by kernel_rfl) (fun _ _ _ h => h) (Or.inl ⟨by rfl, ?_⟩) (by assumption) ?_
  rotate_left
  · (intro w hSw; (try dsimp only at hSw); go_simp; (try with_reducible rfl))
  (try simp only [List.getElem_toArray, List.getElem_cons_succ, List.getElem_cons_zero, Act.put, List.setIfInBounds_toArray, List.set_cons_zero, List.set_cons_succ])
  refine wpAnyH_done (by kernel_rfl) ?_ _
  refine NoPanic.normal ?_
  go_wp2_with fail
  rw [rounds_succ]
  go_wp2_with fail
  go_end0
  exact ⟨rfl, hB, only_trans HG (grown_below H0)⟩
set_option maxRecDepth 100000 in
set_option maxHeartbeats 4000000 in
theorem lpdq_lt {g : Nat} (y : Int) (b0 : Box w g #[.bool s0, .slice A0 n0 c0, .bool s1, .slice A1 n1 c1, .bool s2, .slice A2 n2 c2, .bool s3, .slice A3 n3 c3, .bool s4, .slice A4 n4 c4, .bool s5, .slice A5 n5 c5] 58) (h0 : RI w s0 (.slice A0 n0 c0) z0 L) (h1 : RI w s1 (.slice A1 n1 c1) z1 L) (h2 : RI w s2 (.slice A2 n2 c2) z2 L) (h3 : RI w s3 (.slice A3 n3 c3) z3 L) (h4 : RI w s4 (.slice A4 n4 c4) z4 L) (h5 : RI w s5 (.slice A5 n5 c5) z5 L) (hk : cmp3 z3 z4 z5 z0 z1 z2 = -1) :
    Calls Tryz.prog 51 #[.slice (some ⟨g, 0, none⟩) 2 2, .int .i64 0, .int .i64 2, .int .i64 y, .func (.func 20) #[] #[]] w fun e w' => e = .returned (.tuple #[]) ∧ Box w' g #[.bool s3, .slice A3 n3 c3, .bool s4, .slice A4 n4 c4, .bool s5, .slice A5 n5 c5, .bool s0, .slice A0 n0 c0, .bool s1, .slice A1 n1 c1, .bool s2, .slice A2 n2 c2] 58 ∧ w.grownBy w' (some g) := by
  have HK := Lib.hid hk
  clear hk
  go_enter Tryz.func51, Tryz.ntmps51
  go_wp2_with fail
  refine wp_loop_rounds 1 ?_
  rw [rounds_succ]
  go_wp2_with fail
  refine (lins_lt b0 h0 h1 h2 h3 h4 h5 HK.out).mono ?_
  rintro e w' ⟨rfl, hB, hg⟩
  go_wp2_with fail
  exact bodyPost_ret (results_none rfl _ _ _) rfl ⟨rfl, hB, hg⟩
set_option maxRecDepth 100000 in
set_option maxHeartbeats 4000000 in
theorem lsf_lt {g : Nat} (b0 : Box w g #[.bool s0, .slice A0 n0 c0, .bool s1, .slice A1 n1 c1, .bool s2, .slice A2 n2 c2, .bool s3, .slice A3 n3 c3, .bool s4, .slice A4 n4 c4, .bool s5, .slice A5 n5 c5] 58) (h0 : RI w s0 (.slice A0 n0 c0) z0 L) (h1 : RI w s1 (.slice A1 n1 c1) z1 L) (h2 : RI w s2 (.slice A2 n2 c2) z2 L) (h3 : RI w s3 (.slice A3 n3 c3) z3 L) (h4 : RI w s4 (.slice A4 n4 c4) z4 L) (h5 : RI w s5 (.slice A5 n5 c5) z5 L) (hk : cmp3 z3 z4 z5 z0 z1 z2 = -1) :
    Calls Tryz.prog 23 #[.slice (some ⟨g, 0, none⟩) 2 2, .func (.func 20) #[] #[]] w fun e w' => e = .returned (.tuple #[]) ∧ Box w' g #[.bool s3, .slice A3 n3 c3, .bool s4, .slice A4 n4 c4, .bool s5, .slice A5 n5 c5, .bool s0, .slice A0 n0 c0, .bool s1, .slice A1 n1 c1, .bool s2, .slice A2 n2 c2] 58 ∧ w.grownBy w' (some g) := by
  have HK := Lib.hid hk
  clear hk
  go_enter Tryz.func23, Tryz.ntmps23
  go_wp2_with fail
  refine (Tryz.bits_Len 2 w (by omega) (by omega)).mono ?_
  rintro e w' ⟨rfl, rfl⟩
  go_wp2_with fail
  refine (lpdq_lt _ b0 h0 h1 h2 h3 h4 h5 HK.out).mono ?_
  rintro e w' ⟨rfl, hB, hg⟩
  go_wp2_with fail
  go_end0
  exact ⟨rfl, hB, hg⟩
set_option maxRecDepth 100000 in
set_option maxHeartbeats 4000000 in
theorem lins_ge {g : Nat} (b0 : Box w g #[.bool s0, .slice A0 n0 c0, .bool s1, .slice A1 n1 c1, .bool s2, .slice A2 n2 c2, .bool s3, .slice A3 n3 c3, .bool s4, .slice A4 n4 c4, .bool s5, .slice A5 n5 c5] 58) (h0 : RI w s0 (.slice A0 n0 c0) z0 L) (h1 : RI w s1 (.slice A1 n1 c1) z1 L) (h2 : RI w s2 (.slice A2 n2 c2) z2 L) (h3 : RI w s3 (.slice A3 n3 c3) z3 L) (h4 : RI w s4 (.slice A4 n4 c4) z4 L) (h5 : RI w s5 (.slice A5 n5 c5) z5 L) (hk : cmp3 z3 z4 z5 z0 z1 z2 = 1) :
    Calls Tryz.prog 80 #[.slice (some ⟨g, 0, none⟩) 2 2, .int .i64 0, .int .i64 2, .func (.func 20) #[] #[]] w fun e w' => e = .returned (.tuple #[]) ∧ Box w' g #[.bool s0, .slice A0 n0 c0, .bool s1, .slice A1 n1 c1, .bool s2, .slice A2 n2 c2, .bool s3, .slice A3 n3 c3, .bool s4, .slice A4 n4 c4, .bool s5, .slice A5 n5 c5] 58 ∧ w.grownBy w' (some g) := by
  have HK := Lib.hid hk
  clear hk
  go_enter Tryz.func80, Tryz.ntmps80
  go_wp2_with fail
  have H0 := Below.refl w.heap.size w
  refine wp_loop_rounds 3 ?_
  rw [rounds_succ]
  go_wp2_with fail
  refine wp_loop_rounds 3 ?_
  rw [rounds_succ]
  go_wp2_with fail
  have hw0 : IntKind.i64.wrap 0 = 0 := by decide +kernel
  have hD := drawn_below w
  replace h0 := h0.below hD
  replace h1 := h1.below hD
  replace h2 := h2.below hD
  replace h3 := h3.below hD
  replace h4 := h4.below hD
  replace h5 := h5.below hD
  replace b0 := b0.below hD
  replace H0 := H0.trans (hD.mono H0.size)
  clear hD
  refine wp_region_noPanic ?_
  refine wp_region_held_drew (S := (fun V => V.cell? ⟨g, 0, none⟩ = some (.bool s0) ∧ V.cell? ⟨g, 1, none⟩ = some (.slice A0 n0 c0) ∧ V.cell? ⟨g, 2, none⟩ = some (.bool s1) ∧ V.cell? ⟨g, 3, none⟩ = some (.slice A1 n1 c1) ∧ V.cell? ⟨g, 4, none⟩ = some (.bool s2) ∧ V.cell? ⟨g, 5, none⟩ = some (.slice A2 n2 c2) ∧ V.cell? ⟨g, 6, none⟩ = some (.bool s3) ∧ V.cell? ⟨g, 7, none⟩ = some (.slice A3 n3 c3) ∧ V.cell? ⟨g, 8, none⟩ = some (.bool s4) ∧ V.cell? ⟨g, 9, none⟩ = some (.slice A4 n4 c4) ∧ V.cell? ⟨g, 10, none⟩ = some (.bool s5) ∧ V.cell? ⟨g, 11, none⟩ = some (.slice A5 n5 c5))) (by kernel_rfl) ⟨b0.cell 0 _ rfl, b0.cell 1 _ rfl, b0.cell 2 _ rfl, b0.cell 3 _ rfl, b0.cell 4 _ rfl, b0.cell 5 _ rfl, b0.cell 6 _ rfl, b0.cell 7 _ rfl, b0.cell 8 _ rfl, b0.cell 9 _ rfl, b0.cell 10 _ rfl, b0.cell 11 _ rfl⟩ (fun hHeld => ?_)
  generalize w.drew = v0 at H0 hHeld h0 h1 h2 h3 h4 h5 b0 ⊢
  refine wpAnyH_take (i := 0) (v := ?_) rfl (by kernel_rfl) (by kernel_rfl) (by kernel_rfl) (fun _ _ _ h => h) (Or.inl ⟨by rfl, ?_⟩) (by assumption) ?_
  rotate_left
  · (intro w hSw; (try dsimp only at hSw); go_simp; (try with_reducible rfl))
  (try simp only [List.getElem_toArray, List.getElem_cons_zero, Act.put, List.setIfInBounds_toArray, List.set_cons_zero, List.set_cons_succ])
  refine wpAnyH_take (i := 1) (v := ?_) rfl (by kernel_rfl) (by kernel_rfl) (by kernel_rfl) (fun _ _ _ h => h) (Or.inl ⟨by rfl, ?_⟩) (by assumption) ?_
  rotate_left
  · (intro w hSw; (try dsimp only at hSw); go_simp; (try with_reducible rfl))
  (try simp only [List.getElem_toArray, List.getElem_cons_succ, List.getElem_cons_zero, Act.put, List.setIfInBounds_toArray, List.set_cons_zero, List.set_cons_succ])
  refine wpAnyH_take (i := 2) (v := ?_) rfl (by kernel_rfl) (by kernel_rfl) (by kernel_rfl) (fun _ _ _ h => h) (Or.inl ⟨by rfl, ?_⟩) (by assumption) ?_
  rotate_left
  · (intro w hSw; (try dsimp only at hSw); go_simp; (try with_reducible rfl))
  (try simp only [List.getElem_toArray, List.getElem_cons_succ, List.getElem_cons_zero, Act.put, List.setIfInBounds_toArray, List.set_cons_zero, List.set_cons_succ])
  refine wpAnyH_take (i := 3) (v := ?_) rfl (by kernel_rfl) (by kernel_rfl) (by kernel_rfl) (fun _ _ _ h => h) (Or.inl ⟨by rfl, ?_⟩) (by assumption) ?_
  rotate_left
  · (intro w hSw; (try dsimp only at hSw); go_simp; (try with_reducible rfl))
  (try simp only [List.getElem_toArray, List.getElem_cons_succ, List.getElem_cons_zero, Act.put, List.setIfInBounds_toArray, List.set_cons_zero, List.set_cons_succ])
  refine wpAnyH_take (i := 4) (v := ?_) rfl (by kernel_rfl) (by kernel_rfl) (by kernel_rfl) (fun _ _ _ h => h) (Or.inl ⟨by rfl, ?_⟩) (by assumption) ?_
  rotate_left
  · (intro w hSw; (try dsimp only at hSw); go_simp; (try with_reducible rfl))
  (try simp only [List.getElem_toArray, List.getElem_cons_succ, List.getElem_cons_zero, Act.put, List.setIfInBounds_toArray, List.set_cons_zero, List.set_cons_succ])
  refine wpAnyH_take (i := 5) (v := ?_) rfl (by kernel_rfl) (by kernel_rfl) (by kernel_rfl) (fun _ _ _ h => h) (Or.inl ⟨by rfl, ?_⟩) (by assumption) ?_
  rotate_left
  · (intro w hSw; (try dsimp only at hSw); go_simp; (try with_reducible rfl))
  (try simp only [List.getElem_toArray, List.getElem_cons_succ, List.getElem_cons_zero, Act.put, List.setIfInBounds_toArray, List.set_cons_zero, List.set_cons_succ])
  refine wpAnyH_take (i := 6) (v := ?_) rfl (by kernel_rfl) (by kernel_rfl) (by kernel_rfl) (fun _ _ _ h => h) (Or.inl ⟨by rfl, ?_⟩) (by assumption) ?_
  rotate_left
  · (intro w hSw; (try dsimp only at hSw); go_simp; (try with_reducible rfl))
  (try simp only [List.getElem_toArray, List.getElem_cons_succ, List.getElem_cons_zero, Act.put, List.setIfInBounds_toArray, List.set_cons_zero, List.set_cons_succ])
  refine wpAnyH_take (i := 9) (v := ?_) rfl (by kernel_rfl) (by kernel_rfl) (by kernel_rfl) (fun _ _ _ h => h) (Or.inl ⟨by rfl, ?_⟩) (by assumption) ?_
  rotate_left
  · (intro w hSw; (try dsimp only at hSw); go_simp; (try with_reducible rfl))
  (try simp only [List.getElem_toArray, List.getElem_cons_succ, List.getElem_cons_zero, Act.put, List.setIfInBounds_toArray, List.set_cons_zero, List.set_cons_succ])
  refine wpAnyH_take (i := 10) (v := ?_) rfl (by kernel_rfl) (by kernel_rfl) (by kernel_rfl) (fun _ _ _ h => h) (Or.inl ⟨by rfl, ?_⟩) (by assumption) ?_
  rotate_left
  · (intro w hSw; (try dsimp only at hSw); go_simp; (try with_reducible rfl))
  (try simp only [List.getElem_toArray, List.getElem_cons_succ, List.getElem_cons_zero, Act.put, List.setIfInBounds_toArray, List.set_cons_zero, List.set_cons_succ])
  refine wpAnyH_take (i := 7) (v := ?_) rfl (by kernel_rfl) (by kernel_rfl) (by kernel_rfl) (fun _ _ _ h => h) (Or.inl ⟨by rfl, ?_⟩) (by assumption) ?_
  rotate_left
  · (intro w hSw; (try dsimp only at hSw); go_simp; (try with_reducible rfl))
  (try simp only [List.getElem_toArray, List.getElem_cons_succ, List.getElem_cons_zero, Act.put, List.setIfInBounds_toArray, List.set_cons_zero, List.set_cons_succ])
  refine wpAnyH_take (i := 11) (v := ?_) rfl (by kernel_rfl) (by kernel_rfl) (by kernel_rfl) (fun _ _ _ h => h) (Or.inl ⟨by rfl, ?_⟩) (by assumption) ?_
  rotate_left
  · (intro w hSw; (try dsimp only at hSw); go_simp; (try with_reducible rfl))
  (try simp only [List.getElem_toArray, List.getElem_cons_succ, List.getElem_cons_zero, Act.put, List.setIfInBounds_toArray, List.set_cons_zero, List.set_cons_succ])
  refine wpAnyH_take (i := 8) (v := ?_) rfl (by kernel_rfl) (by kernel_rfl) (by kernel_rfl) (fun _ _ _ h => h) (Or.inl ⟨by rfl, ?_⟩) (by assumption) ?_
  rotate_left
  · (intro w hSw; (try dsimp only at hSw); go_simp; (try with_reducible rfl))
  (try simp only [List.getElem_toArray, List.getElem_cons_succ, List.getElem_cons_zero, Act.put, List.setIfInBounds_toArray, List.set_cons_zero, List.set_cons_succ])
  refine wpAnyH_take (i := 12) (v := ?_) rfl (by kernel_rfl) (by kernel_rfl) (by kernel_rfl) (fun _ _ _ h => h) (Or.inl ⟨by rfl, ?_⟩) (by assumption) ?_
  rotate_left
  · (intro w hSw; (try dsimp only at hSw); go_simp; (try with_reducible rfl))
  (try simp only [List.getElem_toArray, List.getElem_cons_succ, List.getElem_cons_zero, Act.put, List.setIfInBounds_toArray, List.set_cons_zero, List.set_cons_succ])
  refine wpAnyH_take (i := 13) (v := ?_) rfl (by kernel_rfl) (by kernel_rfl) (by kernel_rfl) (fun _ _ _ h => h) (Or.inl ⟨by rfl, ?_⟩) (by assumption) ?_
  rotate_left
  · (intro w hSw; (try dsimp only at hSw); go_simp; (try with_reducible rfl))
  (try simp only [List.getElem_toArray, List.getElem_cons_succ, List.getElem_cons_zero, Act.put, List.setIfInBounds_toArray, List.set_cons_zero, List.set_cons_succ])
  refine wpAnyH_ready (rs := [14]) (by kernel_rfl) (by simp) (AllReadyH.cons (o := _) rfl (fun K hK => ?_) AllReadyH.nil)
  go_simp
  go_at_call 20
  refine (lcmp_v h3 h4 h5 h0 h1 h2 HK.out).mono ?_
  rintro e w1 ⟨rfl, hb⟩
  replace h0 := h0.below hb
  replace h1 := h1.below hb
  replace h2 := h2.below hb
  replace h3 := h3.below hb
  replace h4 := h4.below hb
  replace h5 := h5.below hb
  replace b0 := b0.below hb
  replace H0 := H0.trans (hb.mono H0.size)
  clear hb
  go_wp2_with fail
  refine hK.out _ _ ⟨b0.cell 0 _ rfl, b0.cell 1 _ rfl, b0.cell 2 _ rfl, b0.cell 3 _ rfl, b0.cell 4 _ rfl, b0.cell 5 _ rfl, b0.cell 6 _ rfl, b0.cell 7 _ rfl, b0.cell 8 _ rfl, b0.cell 9 _ rfl, b0.cell 10 _ rfl, b0.cell 11 _ rfl⟩ (fun hHeld => ?_)
  clear hK K
  (try simp only [List.getElem_toArray, List.getElem_cons_succ, List.getElem_cons_zero, Act.put, List.setIfInBounds_toArray, List.set_cons_zero, List.set_cons_succ])
  refine wpAnyH_take (i := 15) (v := ?_) rfl (by kernel_rfl) (by kernel_rfl) (by kernel_rfl) (fun _ _ _ h => h) (Or.inl ⟨by rfl, ?_⟩) (by assumption) ?_
  rotate_left
  · (intro w hSw; (try dsimp only at hSw); go_simp; (try with_reducible rfl))
  (try simp only [List.getElem_toArray, List.getElem_cons_succ, List.getElem_cons_zero, Act.put, List.setIfInBounds_toArray, List.set_cons_zero, List.set_cons_succ])
  refine wpAnyH_take (i := 16) (v := ?_) rfl (by kernel_rfl) (by kernel_rfl) (by kernel_rfl) (fun _ _ _ h => h) (Or.inl ⟨by rfl, ?_⟩) (by assumption) ?_
  rotate_left
  · (intro w hSw; (try dsimp only at hSw); go_simp; (try with_reducible rfl))
  (try simp only [List.getElem_toArray, List.getElem_cons_succ, List.getElem_cons_zero, Act.put, List.setIfInBounds_toArray, List.set_cons_zero, List.set_cons_succ])
  refine wpAnyH_done (by kernel_rfl) ?_ _
  refine NoPanic.normal ?_
  go_wp2_with fail
  rw [rounds_succ]
  go_wp2_with fail
  go_end0
  exact ⟨rfl, b0, grown_below H0⟩
set_option maxRecDepth 100000 in
set_option maxHeartbeats 4000000 in
theorem lpdq_ge {g : Nat} (y : Int) (b0 : Box w g #[.bool s0, .slice A0 n0 c0, .bool s1, .slice A1 n1 c1, .bool s2, .slice A2 n2 c2, .bool s3, .slice A3 n3 c3, .bool s4, .slice A4 n4 c4, .bool s5, .slice A5 n5 c5] 58) (h0 : RI w s0 (.slice A0 n0 c0) z0 L) (h1 : RI w s1 (.slice A1 n1 c1) z1 L) (h2 : RI w s2 (.slice A2 n2 c2) z2 L) (h3 : RI w s3 (.slice A3 n3 c3) z3 L) (h4 : RI w s4 (.slice A4 n4 c4) z4 L) (h5 : RI w s5 (.slice A5 n5 c5) z5 L) (hk : cmp3 z3 z4 z5 z0 z1 z2 = 1) :
    Calls Tryz.prog 51 #[.slice (some ⟨g, 0, none⟩) 2 2, .int .i64 0, .int .i64 2, .int .i64 y, .func (.func 20) #[] #[]] w fun e w' => e = .returned (.tuple #[]) ∧ Box w' g #[.bool s0, .slice A0 n0 c0, .bool s1, .slice A1 n1 c1, .bool s2, .slice A2 n2 c2, .bool s3, .slice A3 n3 c3, .bool s4, .slice A4 n4 c4, .bool s5, .slice A5 n5 c5] 58 ∧ w.grownBy w' (some g) := by
  have HK := Lib.hid hk
  clear hk
  go_enter Tryz.func51, Tryz.ntmps51
  go_wp2_with fail
  refine wp_loop_rounds 1 ?_
  rw [rounds_succ]
  go_wp2_with fail
  refine (lins_ge b0 h0 h1 h2 h3 h4 h5 HK.out).mono ?_
  rintro e w' ⟨rfl, hB, hg⟩
  go_wp2_with fail
  exact bodyPost_ret (results_none rfl _ _ _) rfl ⟨rfl, hB, hg⟩
set_option maxRecDepth 100000 in
set_option maxHeartbeats 4000000 in
theorem lsf_ge {g : Nat} (b0 : Box w g #[.bool s0, .slice A0 n0 c0, .bool s1, .slice A1 n1 c1, .bool s2, .slice A2 n2 c2, .bool s3, .slice A3 n3 c3, .bool s4, .slice A4 n4 c4, .bool s5, .slice A5 n5 c5] 58) (h0 : RI w s0 (.slice A0 n0 c0) z0 L) (h1 : RI w s1 (.slice A1 n1 c1) z1 L) (h2 : RI w s2 (.slice A2 n2 c2) z2 L) (h3 : RI w s3 (.slice A3 n3 c3) z3 L) (h4 : RI w s4 (.slice A4 n4 c4) z4 L) (h5 : RI w s5 (.slice A5 n5 c5) z5 L) (hk : cmp3 z3 z4 z5 z0 z1 z2 = 1) :
    Calls Tryz.prog 23 #[.slice (some ⟨g, 0, none⟩) 2 2, .func (.func 20) #[] #[]] w fun e w' => e = .returned (.tuple #[]) ∧ Box w' g #[.bool s0, .slice A0 n0 c0, .bool s1, .slice A1 n1 c1, .bool s2, .slice A2 n2 c2, .bool s3, .slice A3 n3 c3, .bool s4, .slice A4 n4 c4, .bool s5, .slice A5 n5 c5] 58 ∧ w.grownBy w' (some g) := by
  have HK := Lib.hid hk
  clear hk
  go_enter Tryz.func23, Tryz.ntmps23
  go_wp2_with fail
  refine (Tryz.bits_Len 2 w (by omega) (by omega)).mono ?_
  rintro e w' ⟨rfl, rfl⟩
  go_wp2_with fail
  refine (lpdq_ge _ b0 h0 h1 h2 h3 h4 h5 HK.out).mono ?_
  rintro e w' ⟨rfl, hB, hg⟩
  go_wp2_with fail
  go_end0
  exact ⟨rfl, hB, hg⟩
theorem cmp3_self (a b c : Int) : cmp3 a b c a b c = 0 := by unfold cmp3; rw [if_pos rfl, if_pos rfl, Int.sub_self]; rfl
set_option maxRecDepth 100000 in
set_option maxHeartbeats 4000000 in
theorem lcanon_lt (h0 : NI w s0 (.slice A0 n0 c0) z0 L) (h1 : NI w s1 (.slice A1 n1 c1) z1 L) (h2 : NI w s2 (.slice A2 n2 c2) z2 L) (v0 : VL z0 z1 z2) (hk : cmp3 (-z0) (-z1) (-z2) z0 z1 z2 = -1) (hL : L ≤ 10000) :
    Calls Tryz.prog 8 #[.agg #[.bool s0, .slice A0 n0 c0, .bool s1, .slice A1 n1 c1, .bool s2, .slice A2 n2 c2]] w fun e w' => ∃ s6 A6 n6 c6 s7 A7 n7 c7 s8 A8 n8 c8, e = .returned (.tuple #[.agg #[.bool s6, .slice A6 n6 c6, .bool s7, .slice A7 n7 c7, .bool s8, .slice A8 n8 c8], .bool false]) ∧ NI w' s6 (.slice A6 n6 c6) (z0) L ∧ NI w' s7 (.slice A7 n7 c7) (z1) L ∧ NI w' s8 (.slice A8 n8 c8) (z2) L ∧ Below w.heap.size w w' := by
  have HK := Lib.hid hk
  clear hk
  have V0 := Lib.hid v0
  clear v0
  go_enter Tryz.func8, Tryz.ntmps8
  go_wp2_with fail
  obtain ⟨W0, hW, b1, b2, hbW, hszW0⟩ := boxes2 w #[.bool s0, .slice A0 n0 c0, .bool s1, .slice A1 n1 c1, .bool s2, .slice A2 n2 c2] #[.bool false, .slice none 0 0, .bool false, .slice none 0 0, .bool false, .slice none 0 0] 30 30
  rw [hW]
  clear hW
  replace h0 := h0.below hbW
  replace h1 := h1.below hbW
  replace h2 := h2.below hbW
  have H0 := hbW
  clear hbW
  have cb10 := b1.cell 0 _ rfl
  have cb11 := b1.cell 1 _ rfl
  have cb12 := b1.cell 2 _ rfl
  have cb13 := b1.cell 3 _ rfl
  have cb14 := b1.cell 4 _ rfl
  have cb15 := b1.cell 5 _ rfl
  go_wp2_with fail
  clear cb10 cb11 cb12 cb13 cb14 cb15
  refine (lvalid_v h0 h1 h2 V0.out (by omega)).mono ?_
  rintro e w1 ⟨rfl, hb⟩
  replace h0 := h0.below hb
  replace h1 := h1.below hb
  replace h2 := h2.below hb
  replace b1 := b1.below hb
  replace b2 := b2.below hb
  replace H0 := H0.trans (hb.mono H0.size)
  clear hb
  have cb10 := b1.cell 0 _ rfl
  have cb11 := b1.cell 1 _ rfl
  have cb12 := b1.cell 2 _ rfl
  have cb13 := b1.cell 3 _ rfl
  have cb14 := b1.cell 4 _ rfl
  have cb15 := b1.cell 5 _ rfl
  go_wp2_with fail
  clear cb10 cb11 cb12 cb13 cb14 cb15
  refine (lcoef_v).mono ?_
  rintro e w2 ⟨rfl, hb⟩
  replace h0 := h0.below hb
  replace h1 := h1.below hb
  replace h2 := h2.below hb
  replace b1 := b1.below hb
  replace b2 := b2.below hb
  replace H0 := H0.trans (hb.mono H0.size)
  clear hb
  have lb1_3 := b1.lt
  have lb2_3 := b2.lt
  obtain ⟨W3, hW, b4, hbW, hszW3⟩ := boxes1 w2 #[.bool s0, .slice A0 n0 c0, .bool s1, .slice A1 n1 c1, .bool s2, .slice A2 n2 c2] 58
  skip
  skip
  replace h0 := h0.below hbW
  replace h1 := h1.below hbW
  replace h2 := h2.below hbW
  replace b1 := b1.below hbW
  replace b2 := b2.below hbW
  replace H0 := H0.trans (hbW.mono H0.size)
  clear hbW
  go_wp2_with fail
  clear hW
  have hD := drawn_below W3
  replace h0 := h0.below hD
  replace h1 := h1.below hD
  replace h2 := h2.below hD
  replace b1 := b1.below hD
  replace b2 := b2.below hD
  replace b4 := b4.below hD
  replace H0 := H0.trans (hD.mono H0.size)
  clear hD
  refine wp_region_noPanic ?_
  refine wp_region_held_drew (S := (fun V => V.cell? ⟨w2.heap.size, 0, none⟩ = some (.bool s0) ∧ V.cell? ⟨w2.heap.size, 1, none⟩ = some (.slice A0 n0 c0) ∧ V.cell? ⟨w2.heap.size, 2, none⟩ = some (.bool s1) ∧ V.cell? ⟨w2.heap.size, 3, none⟩ = some (.slice A1 n1 c1) ∧ V.cell? ⟨w2.heap.size, 4, none⟩ = some (.bool s2) ∧ V.cell? ⟨w2.heap.size, 5, none⟩ = some (.slice A2 n2 c2))) (by kernel_rfl) ⟨b4.cell 0 _ rfl, b4.cell 1 _ rfl, b4.cell 2 _ rfl, b4.cell 3 _ rfl, b4.cell 4 _ rfl, b4.cell 5 _ rfl⟩ (fun hHeld => ?_)
  generalize W3.drew = v4 at H0 hHeld h0 h1 h2 b1 b2 b4 ⊢
  refine wpAnyH_take (i := 0) (v := ?_) rfl (by kernel_rfl) (by kernel_rfl) (by kernel_rfl) (fun _ _ _ h => h) (Or.inl ⟨by rfl, ?_⟩) (by assumption) ?_
  rotate_left
  · (intro w hSw; (try dsimp only at hSw); go_simp; (try with_reducible rfl))
  (try simp only [List.getElem_toArray, List.getElem_cons_zero, Act.put, List.setIfInBounds_toArray, List.set_cons_zero, List.set_cons_succ])
  refine wpAnyH_take (i := 1) (v := ?_) rfl (by kernel_rfl) (by kernel_rfl) (by kernel_rfl) (fun _ _ _ h => h) (Or.inl ⟨by rfl, ?_⟩) (by assumption) ?_
  rotate_left
  · (intro w hSw; (try dsimp only at hSw); go_simp; (try with_reducible rfl))
  (try simp only [List.getElem_toArray, List.getElem_cons_succ, List.getElem_cons_zero, Act.put, List.setIfInBounds_toArray, List.set_cons_zero, List.set_cons_succ])
  refine wpAnyH_ready (rs := [2]) (by kernel_rfl) (by simp) (AllReadyH.cons (o := _) rfl (fun K hK => ?_) AllReadyH.nil)
  go_simp
  go_at_call 22
  refine (lrev_v h0.ri h1.ri h2.ri (by omega)).mono ?_
  rintro e w5 ⟨s3, A3, n3, c3, s4, A4, n4, c4, s5, A5, n5, c5, rfl, g3, g4, g5, hb⟩
  replace h0 := h0.below hb
  replace h1 := h1.below hb
  replace h2 := h2.below hb
  replace b1 := b1.below hb
  replace b2 := b2.below hb
  replace b4 := b4.below hb
  replace H0 := H0.trans (hb.mono H0.size)
  clear hb
  go_wp2_with fail
  refine hK.out _ _ ⟨b4.cell 0 _ rfl, b4.cell 1 _ rfl, b4.cell 2 _ rfl, b4.cell 3 _ rfl, b4.cell 4 _ rfl, b4.cell 5 _ rfl⟩ (fun hHeld => ?_)
  clear hK K
  (try simp only [List.getElem_toArray, List.getElem_cons_succ, List.getElem_cons_zero, Act.put, List.setIfInBounds_toArray, List.set_cons_zero, List.set_cons_succ])
  refine wpAnyH_ready (rs := [3]) (by kernel_rfl) (by simp) (AllReadyH.cons (o := _) rfl (fun K hK => ?_) AllReadyH.nil)
  go_simp
  obtain ⟨X5, hV, b5, hb9, sz9⟩ := boxes1 w5 #[.bool s0, .slice A0 n0 c0, .bool s1, .slice A1 n1 c1, .bool s2, .slice A2 n2 c2, .bool s3, .slice A3 n3 c3, .bool s4, .slice A4 n4 c4, .bool s5, .slice A5 n5 c5] 58
  rw [hV]
  clear hV
  have lzb1 := b1.lt
  have lzb2 := b2.lt
  have lzb4 := b4.lt
  replace h0 := h0.below hb9
  replace h1 := h1.below hb9
  replace h2 := h2.below hb9
  replace g3 := g3.below hb9
  replace g4 := g4.below hb9
  replace g5 := g5.below hb9
  replace b1 := b1.below hb9
  replace b2 := b2.below hb9
  replace b4 := b4.below hb9
  replace H0 := H0.trans (hb9.mono H0.size)
  clear hb9
  refine hK.out _ _ ⟨b4.cell 0 _ rfl, b4.cell 1 _ rfl, b4.cell 2 _ rfl, b4.cell 3 _ rfl, b4.cell 4 _ rfl, b4.cell 5 _ rfl⟩ (fun hHeld => ?_)
  clear hK K
  (try simp only [List.getElem_toArray, List.getElem_cons_succ, List.getElem_cons_zero, Act.put, List.setIfInBounds_toArray, List.set_cons_zero, List.set_cons_succ])
  refine wpAnyH_take (i := 4) (v := ?_) rfl (by kernel_rfl) (by kernel_rfl) (by kernel_rfl) (fun _ _ _ h => h) (Or.inl ⟨by rfl, ?_⟩) (by assumption) ?_
  rotate_left
  · (intro w hSw; (try dsimp only at hSw); go_simp; (try with_reducible rfl))
  (try simp only [List.getElem_toArray, List.getElem_cons_succ, List.getElem_cons_zero, Act.put, List.setIfInBounds_toArray, List.set_cons_zero, List.set_cons_succ])
  refine wpAnyH_done (by kernel_rfl) ?_ _
  refine NoPanic.normal ?_
  go_wp2_with fail
  refine (lsf_lt b5 h0.ri h1.ri h2.ri g3.ri g4.ri g5.ri HK.out).mono ?_
  rintro e X6 ⟨rfl, hB, hg⟩
  have hsX := hg.size
  replace h0 := h0.kept b5 (by simp [notInt]) hg
  replace h1 := h1.kept b5 (by simp [notInt]) hg
  replace h2 := h2.kept b5 (by simp [notInt]) hg
  replace g3 := g3.kept b5 (by simp [notInt]) hg
  replace g4 := g4.kept b5 (by simp [notInt]) hg
  replace g5 := g5.kept b5 (by simp [notInt]) hg
  replace b1 := b1.other hg (by omega)
  replace b2 := b2.other hg (by omega)
  replace b4 := b4.other hg (by omega)
  replace b5 := hB
  replace H0 := below_only H0 hg (by omega) H0.size
  clear hg hB
  have e5_6 := b5.cell 6 _ rfl
  have e5_7 := b5.cell 7 _ rfl
  have e5_8 := b5.cell 8 _ rfl
  have e5_9 := b5.cell 9 _ rfl
  have e5_10 := b5.cell 10 _ rfl
  have e5_11 := b5.cell 11 _ rfl
  have lb1_7 := b1.lt
  have lb2_7 := b2.lt
  have lb4_7 := b4.lt
  have lb5_7 := b5.lt
  obtain ⟨W7, hW, b6, hbW, hszW7⟩ := boxes1 X6 #[.bool s0, .slice A0 n0 c0, .bool s1, .slice A1 n1 c1, .bool s2, .slice A2 n2 c2] 58
  skip
  skip
  replace h0 := h0.below hbW
  replace h1 := h1.below hbW
  replace h2 := h2.below hbW
  replace g3 := g3.below hbW
  replace g4 := g4.below hbW
  replace g5 := g5.below hbW
  replace b1 := b1.below hbW
  replace b2 := b2.below hbW
  replace b4 := b4.below hbW
  replace b5 := b5.below hbW
  replace H0 := H0.trans (hbW.mono H0.size)
  clear hbW
  go_wp2_with fail
  clear hW e5_6 e5_7 e5_8 e5_9 e5_10 e5_11
  have hD := drawn_below W7
  replace h0 := h0.below hD
  replace h1 := h1.below hD
  replace h2 := h2.below hD
  replace g3 := g3.below hD
  replace g4 := g4.below hD
  replace g5 := g5.below hD
  replace b1 := b1.below hD
  replace b2 := b2.below hD
  replace b4 := b4.below hD
  replace b5 := b5.below hD
  replace b6 := b6.below hD
  replace H0 := H0.trans (hD.mono H0.size)
  clear hD
  refine wp_region_noPanic ?_
  refine wp_region_held_drew (S := (fun V => V.cell? ⟨X6.heap.size, 0, none⟩ = some (.bool s0) ∧ V.cell? ⟨X6.heap.size, 1, none⟩ = some (.slice A0 n0 c0) ∧ V.cell? ⟨X6.heap.size, 2, none⟩ = some (.bool s1) ∧ V.cell? ⟨X6.heap.size, 3, none⟩ = some (.slice A1 n1 c1) ∧ V.cell? ⟨X6.heap.size, 4, none⟩ = some (.bool s2) ∧ V.cell? ⟨X6.heap.size, 5, none⟩ = some (.slice A2 n2 c2) ∧ V.cell? ⟨w2.heap.size, 0, none⟩ = some (.bool s0) ∧ V.cell? ⟨w2.heap.size, 1, none⟩ = some (.slice A0 n0 c0) ∧ V.cell? ⟨w2.heap.size, 2, none⟩ = some (.bool s1) ∧ V.cell? ⟨w2.heap.size, 3, none⟩ = some (.slice A1 n1 c1) ∧ V.cell? ⟨w2.heap.size, 4, none⟩ = some (.bool s2) ∧ V.cell? ⟨w2.heap.size, 5, none⟩ = some (.slice A2 n2 c2))) (by kernel_rfl) ⟨b6.cell 0 _ rfl, b6.cell 1 _ rfl, b6.cell 2 _ rfl, b6.cell 3 _ rfl, b6.cell 4 _ rfl, b6.cell 5 _ rfl, b4.cell 0 _ rfl, b4.cell 1 _ rfl, b4.cell 2 _ rfl, b4.cell 3 _ rfl, b4.cell 4 _ rfl, b4.cell 5 _ rfl⟩ (fun hHeld => ?_)
  generalize W7.drew = v8 at H0 hHeld h0 h1 h2 g3 g4 g5 b1 b2 b4 b5 b6 ⊢
  refine wpAnyH_take (i := 0) (v := ?_) rfl (by kernel_rfl) (by kernel_rfl) (by kernel_rfl) (fun _ _ _ h => h) (Or.inl ⟨by rfl, ?_⟩) (by assumption) ?_
  rotate_left
  · (intro w hSw; (try dsimp only at hSw); go_simp; (try with_reducible rfl))
  (try simp only [List.getElem_toArray, List.getElem_cons_zero, Act.put, List.setIfInBounds_toArray, List.set_cons_zero, List.set_cons_succ])
  refine wpAnyH_take (i := 2) (v := ?_) rfl (by kernel_rfl) (by kernel_rfl) (by kernel_rfl) (fun _ _ _ h => h) (Or.inl ⟨by rfl, ?_⟩) (by assumption) ?_
  rotate_left
  · (intro w hSw; (try dsimp only at hSw); go_simp; (try with_reducible rfl))
  (try simp only [List.getElem_toArray, List.getElem_cons_succ, List.getElem_cons_zero, Act.put, List.setIfInBounds_toArray, List.set_cons_zero, List.set_cons_succ])
  refine wpAnyH_take (i := 3) (v := ?_) rfl (by kernel_rfl) (by kernel_rfl) (by kernel_rfl) (fun _ _ _ h => h) (Or.inl ⟨by rfl, ?_⟩) (by assumption) ?_
  rotate_left
  · (intro w hSw; (try dsimp only at hSw); go_simp; (try with_reducible rfl))
  (try simp only [List.getElem_toArray, List.getElem_cons_succ, List.getElem_cons_zero, Act.put, List.setIfInBounds_toArray, List.set_cons_zero, List.set_cons_succ])
  refine wpAnyH_ready (rs := [1]) (by kernel_rfl) (by simp) (AllReadyH.cons (o := _) rfl (fun K hK => ?_) AllReadyH.nil)
  go_simp
  go_at_call 24
  refine (lline_v h0.ri h1.ri h2.ri (by omega)).mono ?_
  rintro e w9 ⟨s6, A6, n6, c6, s7, A7, n7, c7, s8, A8, n8, c8, rfl, g6, g7, g8, hb⟩
  replace h0 := h0.below hb
  replace h1 := h1.below hb
  replace h2 := h2.below hb
  replace g3 := g3.below hb
  replace g4 := g4.below hb
  replace g5 := g5.below hb
  replace b1 := b1.below hb
  replace b2 := b2.below hb
  replace b4 := b4.below hb
  replace b5 := b5.below hb
  replace b6 := b6.below hb
  replace H0 := H0.trans (hb.mono H0.size)
  clear hb
  go_wp2_with fail
  refine hK.out _ _ ⟨b6.cell 0 _ rfl, b6.cell 1 _ rfl, b6.cell 2 _ rfl, b6.cell 3 _ rfl, b6.cell 4 _ rfl, b6.cell 5 _ rfl, b4.cell 0 _ rfl, b4.cell 1 _ rfl, b4.cell 2 _ rfl, b4.cell 3 _ rfl, b4.cell 4 _ rfl, b4.cell 5 _ rfl⟩ (fun hHeld => ?_)
  clear hK K
  (try simp only [List.getElem_toArray, List.getElem_cons_succ, List.getElem_cons_zero, Act.put, List.setIfInBounds_toArray, List.set_cons_zero, List.set_cons_succ])
  refine wpAnyH_ready (rs := [4]) (by kernel_rfl) (by simp) (AllReadyH.cons (o := _) rfl (fun K hK => ?_) AllReadyH.nil)
  go_simp
  go_at_call 20
  refine (lcmp_v h0.ri h1.ri h2.ri h0.ri h1.ri h2.ri (cmp3_self z0 z1 z2)).mono ?_
  rintro e w10 ⟨rfl, hb⟩
  replace h0 := h0.below hb
  replace h1 := h1.below hb
  replace h2 := h2.below hb
  replace g3 := g3.below hb
  replace g4 := g4.below hb
  replace g5 := g5.below hb
  replace g6 := g6.below hb
  replace g7 := g7.below hb
  replace g8 := g8.below hb
  replace b1 := b1.below hb
  replace b2 := b2.below hb
  replace b4 := b4.below hb
  replace b5 := b5.below hb
  replace b6 := b6.below hb
  replace H0 := H0.trans (hb.mono H0.size)
  clear hb
  go_wp2_with fail
  refine hK.out _ _ ⟨b6.cell 0 _ rfl, b6.cell 1 _ rfl, b6.cell 2 _ rfl, b6.cell 3 _ rfl, b6.cell 4 _ rfl, b6.cell 5 _ rfl, b4.cell 0 _ rfl, b4.cell 1 _ rfl, b4.cell 2 _ rfl, b4.cell 3 _ rfl, b4.cell 4 _ rfl, b4.cell 5 _ rfl⟩ (fun hHeld => ?_)
  clear hK K
  (try simp only [List.getElem_toArray, List.getElem_cons_succ, List.getElem_cons_zero, Act.put, List.setIfInBounds_toArray, List.set_cons_zero, List.set_cons_succ])
  refine wpAnyH_take (i := 5) (v := ?_) rfl (by kernel_rfl) (by kernel_rfl) (by kernel_rfl) (fun _ _ _ h => h) (Or.inl ⟨by rfl, ?_⟩) (by assumption) ?_
  rotate_left
  · (intro w hSw; (try dsimp only at hSw); go_simp; (try with_reducible rfl))
  (try simp only [List.getElem_toArray, List.getElem_cons_succ, List.getElem_cons_zero, Act.put, List.setIfInBounds_toArray, List.set_cons_zero, List.set_cons_succ])
  have cb20 := b2.cell 0 _ rfl
  have yb20 := b2.frozen 0
  have cb21 := b2.cell 1 _ rfl
  have yb21 := b2.frozen 1
  have cb22 := b2.cell 2 _ rfl
  have yb22 := b2.frozen 2
  have cb23 := b2.cell 3 _ rfl
  have yb23 := b2.frozen 3
  have cb24 := b2.cell 4 _ rfl
  have yb24 := b2.frozen 4
  have cb25 := b2.cell 5 _ rfl
  have yb25 := b2.frozen 5
  refine wpAnyH_ready (rs := [6]) (by kernel_rfl) (by simp) (AllReadyH.cons (o := _) rfl (fun K hK => ?_) AllReadyH.nil)
  go_simp
  clear cb20 yb20 cb21 yb21 cb22 yb22 cb23 yb23 cb24 yb24 cb25 yb25
  have hg := only_store6 w10 (w.heap.size + 1) (.bool s6) (.slice A6 n6 c6) (.bool s7) (.slice A7 n7 c7) (.bool s8) (.slice A8 n8 c8)
  have hB := b2.stored6 (.bool s6) (.slice A6 n6 c6) (.bool s7) (.slice A7 n7 c7) (.bool s8) (.slice A8 n8 c8)
  generalize hX : ((((((w10.setCell ⟨w.heap.size + 1, 0, none⟩ (.bool s6)).setCell ⟨w.heap.size + 1, 1, none⟩ (.slice A6 n6 c6)).setCell ⟨w.heap.size + 1, 2, none⟩ (.bool s7)).setCell ⟨w.heap.size + 1, 3, none⟩ (.slice A7 n7 c7)).setCell ⟨w.heap.size + 1, 4, none⟩ (.bool s8)).setCell ⟨w.heap.size + 1, 5, none⟩ (.slice A8 n8 c8)) = X11 at hg hB ⊢
  clear hX
  replace h0 := h0.kept b2 (by simp [notInt]) hg
  replace h1 := h1.kept b2 (by simp [notInt]) hg
  replace h2 := h2.kept b2 (by simp [notInt]) hg
  replace g3 := g3.kept b2 (by simp [notInt]) hg
  replace g4 := g4.kept b2 (by simp [notInt]) hg
  replace g5 := g5.kept b2 (by simp [notInt]) hg
  replace g6 := g6.kept b2 (by simp [notInt]) hg
  replace g7 := g7.kept b2 (by simp [notInt]) hg
  replace g8 := g8.kept b2 (by simp [notInt]) hg
  replace b1 := b1.other hg (by omega)
  replace b4 := b4.other hg (by omega)
  replace b5 := b5.other hg (by omega)
  replace b6 := b6.other hg (by omega)
  replace b2 := hB
  replace H0 := below_only H0 hg (by omega) H0.size
  clear hg hB
  refine hK.out _ _ ⟨b6.cell 0 _ rfl, b6.cell 1 _ rfl, b6.cell 2 _ rfl, b6.cell 3 _ rfl, b6.cell 4 _ rfl, b6.cell 5 _ rfl, b4.cell 0 _ rfl, b4.cell 1 _ rfl, b4.cell 2 _ rfl, b4.cell 3 _ rfl, b4.cell 4 _ rfl, b4.cell 5 _ rfl⟩ (fun hHeld => ?_)
  clear hK K
  (try simp only [List.getElem_toArray, List.getElem_cons_succ, List.getElem_cons_zero, Act.put, List.setIfInBounds_toArray, List.set_cons_zero, List.set_cons_succ])
  refine wpAnyH_take (i := 7) (v := ?_) rfl (by kernel_rfl) (by kernel_rfl) (by kernel_rfl) (fun _ _ _ h => h) (Or.inl ⟨by rfl, ?_⟩) (by assumption) ?_
  rotate_left
  · (intro w hSw; (try dsimp only at hSw); go_simp; (try with_reducible rfl))
  (try simp only [List.getElem_toArray, List.getElem_cons_succ, List.getElem_cons_zero, Act.put, List.setIfInBounds_toArray, List.set_cons_zero, List.set_cons_succ])
  refine wpAnyH_done (by kernel_rfl) ?_ _
  refine NoPanic.normal ?_
  go_wp2_with fail
  refine bodyPost_ret (ret_linep_b rfl rfl b2) rfl ?_
  exact ⟨s6, A6, n6, c6, s7, A7, n7, c7, s8, A8, n8, c8, rfl, g6, g7, g8, H0⟩
set_option maxRecDepth 100000 in
set_option maxHeartbeats 4000000 in
theorem lcanon_ge (h0 : NI w s0 (.slice A0 n0 c0) z0 L) (h1 : NI w s1 (.slice A1 n1 c1) z1 L) (h2 : NI w s2 (.slice A2 n2 c2) z2 L) (v0 : VL z0 z1 z2) (hk : cmp3 (-z0) (-z1) (-z2) z0 z1 z2 = 1) (hL : L ≤ 10000) :
    Calls Tryz.prog 8 #[.agg #[.bool s0, .slice A0 n0 c0, .bool s1, .slice A1 n1 c1, .bool s2, .slice A2 n2 c2]] w fun e w' => ∃ s6 A6 n6 c6 s7 A7 n7 c7 s8 A8 n8 c8, e = .returned (.tuple #[.agg #[.bool s6, .slice A6 n6 c6, .bool s7, .slice A7 n7 c7, .bool s8, .slice A8 n8 c8], .bool true]) ∧ NI w' s6 (.slice A6 n6 c6) (-z0) L ∧ NI w' s7 (.slice A7 n7 c7) (-z1) L ∧ NI w' s8 (.slice A8 n8 c8) (-z2) L ∧ Below w.heap.size w w' := by
  have HK := Lib.hid hk
  clear hk
  have V0 := Lib.hid v0
  clear v0
  go_enter Tryz.func8, Tryz.ntmps8
  go_wp2_with fail
  obtain ⟨W0, hW, b1, b2, hbW, hszW0⟩ := boxes2 w #[.bool s0, .slice A0 n0 c0, .bool s1, .slice A1 n1 c1, .bool s2, .slice A2 n2 c2] #[.bool false, .slice none 0 0, .bool false, .slice none 0 0, .bool false, .slice none 0 0] 30 30
  rw [hW]
  clear hW
  replace h0 := h0.below hbW
  replace h1 := h1.below hbW
  replace h2 := h2.below hbW
  have H0 := hbW
  clear hbW
  have cb10 := b1.cell 0 _ rfl
  have cb11 := b1.cell 1 _ rfl
  have cb12 := b1.cell 2 _ rfl
  have cb13 := b1.cell 3 _ rfl
  have cb14 := b1.cell 4 _ rfl
  have cb15 := b1.cell 5 _ rfl
  go_wp2_with fail
  clear cb10 cb11 cb12 cb13 cb14 cb15
  refine (lvalid_v h0 h1 h2 V0.out (by omega)).mono ?_
  rintro e w1 ⟨rfl, hb⟩
  replace h0 := h0.below hb
  replace h1 := h1.below hb
  replace h2 := h2.below hb
  replace b1 := b1.below hb
  replace b2 := b2.below hb
  replace H0 := H0.trans (hb.mono H0.size)
  clear hb
  have cb10 := b1.cell 0 _ rfl
  have cb11 := b1.cell 1 _ rfl
  have cb12 := b1.cell 2 _ rfl
  have cb13 := b1.cell 3 _ rfl
  have cb14 := b1.cell 4 _ rfl
  have cb15 := b1.cell 5 _ rfl
  go_wp2_with fail
  clear cb10 cb11 cb12 cb13 cb14 cb15
  refine (lcoef_v).mono ?_
  rintro e w2 ⟨rfl, hb⟩
  replace h0 := h0.below hb
  replace h1 := h1.below hb
  replace h2 := h2.below hb
  replace b1 := b1.below hb
  replace b2 := b2.below hb
  replace H0 := H0.trans (hb.mono H0.size)
  clear hb
  have lb1_3 := b1.lt
  have lb2_3 := b2.lt
  obtain ⟨W3, hW, b4, hbW, hszW3⟩ := boxes1 w2 #[.bool s0, .slice A0 n0 c0, .bool s1, .slice A1 n1 c1, .bool s2, .slice A2 n2 c2] 58
  skip
  skip
  replace h0 := h0.below hbW
  replace h1 := h1.below hbW
  replace h2 := h2.below hbW
  replace b1 := b1.below hbW
  replace b2 := b2.below hbW
  replace H0 := H0.trans (hbW.mono H0.size)
  clear hbW
  go_wp2_with fail
  clear hW
  have hD := drawn_below W3
  replace h0 := h0.below hD
  replace h1 := h1.below hD
  replace h2 := h2.below hD
  replace b1 := b1.below hD
  replace b2 := b2.below hD
  replace b4 := b4.below hD
  replace H0 := H0.trans (hD.mono H0.size)
  clear hD
  refine wp_region_noPanic ?_
  refine wp_region_held_drew (S := (fun V => V.cell? ⟨w2.heap.size, 0, none⟩ = some (.bool s0) ∧ V.cell? ⟨w2.heap.size, 1, none⟩ = some (.slice A0 n0 c0) ∧ V.cell? ⟨w2.heap.size, 2, none⟩ = some (.bool s1) ∧ V.cell? ⟨w2.heap.size, 3, none⟩ = some (.slice A1 n1 c1) ∧ V.cell? ⟨w2.heap.size, 4, none⟩ = some (.bool s2) ∧ V.cell? ⟨w2.heap.size, 5, none⟩ = some (.slice A2 n2 c2))) (by kernel_rfl) ⟨b4.cell 0 _ rfl, b4.cell 1 _ rfl, b4.cell 2 _ rfl, b4.cell 3 _ rfl, b4.cell 4 _ rfl, b4.cell 5 _ rfl⟩ (fun hHeld => ?_)
  generalize W3.drew = v4 at H0 hHeld h0 h1 h2 b1 b2 b4 ⊢
  refine wpAnyH_take (i := 0) (v := ?_) rfl (by kernel_rfl) (by kernel_rfl) (by kernel_rfl) (fun _ _ _ h => h) (Or.inl ⟨by rfl, ?_⟩) (by assumption) ?_
  rotate_left
  · (intro w hSw; (try dsimp only at hSw); go_simp; (try with_reducible rfl))
  (try simp only [List.getElem_toArray, List.getElem_cons_zero, Act.put, List.setIfInBounds_toArray, List.set_cons_zero, List.set_cons_succ])
  refine wpAnyH_take (i := 1) (v := ?_) rfl (by kernel_rfl) (by kernel_rfl) (by kernel_rfl) (fun _ _ _ h => h) (Or.inl ⟨by rfl, ?_⟩) (by assumption) ?_
  rotate_left
  · (intro w hSw; (try dsimp only at hSw); go_simp; (try with_reducible rfl))
  (try simp only [List.getElem_toArray, List.getElem_cons_succ, List.getElem_cons_zero, Act.put, List.setIfInBounds_toArray, List.set_cons_zero, List.set_cons_succ])
  refine wpAnyH_ready (rs := [2]) (by kernel_rfl) (by simp) (AllReadyH.cons (o := _) rfl (fun K hK => ?_) AllReadyH.nil)
  go_simp
  go_at_call 22
  refine (lrev_v h0.ri h1.ri h2.ri (by omega)).mono ?_
  rintro e w5 ⟨s3, A3, n3, c3, s4, A4, n4, c4, s5, A5, n5, c5, rfl, g3, g4, g5, hb⟩
  replace h0 := h0.below hb
  replace h1 := h1.below hb
  replace h2 := h2.below hb
  replace b1 := b1.below hb
  replace b2 := b2.below hb
  replace b4 := b4.below hb
  replace H0 := H0.trans (hb.mono H0.size)
  clear hb
  go_wp2_with fail
  refine hK.out _ _ ⟨b4.cell 0 _ rfl, b4.cell 1 _ rfl, b4.cell 2 _ rfl, b4.cell 3 _ rfl, b4.cell 4 _ rfl, b4.cell 5 _ rfl⟩ (fun hHeld => ?_)
  clear hK K
  (try simp only [List.getElem_toArray, List.getElem_cons_succ, List.getElem_cons_zero, Act.put, List.setIfInBounds_toArray, List.set_cons_zero, List.set_cons_succ])
  refine wpAnyH_ready (rs := [3]) (by kernel_rfl) (by simp) (AllReadyH.cons (o := _) rfl (fun K hK => ?_) AllReadyH.nil)
  go_simp
  obtain ⟨X5, hV, b5, hb9, sz9⟩ := boxes1 w5 #[.bool s0, .slice A0 n0 c0, .bool s1, .slice A1 n1 c1, .bool s2, .slice A2 n2 c2, .bool s3, .slice A3 n3 c3, .bool s4, .slice A4 n4 c4, .bool s5, .slice A5 n5 c5] 58
  rw [hV]
  clear hV
  have lzb1 := b1.lt
  have lzb2 := b2.lt
  have lzb4 := b4.lt
  replace h0 := h0.below hb9
  replace h1 := h1.below hb9
  replace h2 := h2.below hb9
  replace g3 := g3.below hb9
  replace g4 := g4.below hb9
  replace g5 := g5.below hb9
  replace b1 := b1.below hb9
  replace b2 := b2.below hb9
  replace b4 := b4.below hb9
  replace H0 := H0.trans (hb9.mono H0.size)
  clear hb9
  refine hK.out _ _ ⟨b4.cell 0 _ rfl, b4.cell 1 _ rfl, b4.cell 2 _ rfl, b4.cell 3 _ rfl, b4.cell 4 _ rfl, b4.cell 5 _ rfl⟩ (fun hHeld => ?_)
  clear hK K
  (try simp only [List.getElem_toArray, List.getElem_cons_succ, List.getElem_cons_zero, Act.put, List.setIfInBounds_toArray, List.set_cons_zero, List.set_cons_succ])
  refine wpAnyH_take (i := 4) (v := ?_) rfl (by kernel_rfl) (by kernel_rfl) (by kernel_rfl) (fun _ _ _ h => h) (Or.inl ⟨by rfl, ?_⟩) (by assumption) ?_
  rotate_left
  · (intro w hSw; (try dsimp only at hSw); go_simp; (try with_reducible rfl))
  (try simp only [List.getElem_toArray, List.getElem_cons_succ, List.getElem_cons_zero, Act.put, List.setIfInBounds_toArray, List.set_cons_zero, List.set_cons_succ])
  refine wpAnyH_done (by kernel_rfl) ?_ _
  refine NoPanic.normal ?_
  go_wp2_with fail
  refine (lsf_ge b5 h0.ri h1.ri h2.ri g3.ri g4.ri g5.ri HK.out).mono ?_
  rintro e X6 ⟨rfl, hB, hg⟩
  have hsX := hg.size
  replace h0 := h0.kept b5 (by simp [notInt]) hg
  replace h1 := h1.kept b5 (by simp [notInt]) hg
  replace h2 := h2.kept b5 (by simp [notInt]) hg
  replace g3 := g3.kept b5 (by simp [notInt]) hg
  replace g4 := g4.kept b5 (by simp [notInt]) hg
  replace g5 := g5.kept b5 (by simp [notInt]) hg
  replace b1 := b1.other hg (by omega)
  replace b2 := b2.other hg (by omega)
  replace b4 := b4.other hg (by omega)
  replace b5 := hB
  replace H0 := below_only H0 hg (by omega) H0.size
  clear hg hB
  have e5_6 := b5.cell 6 _ rfl
  have e5_7 := b5.cell 7 _ rfl
  have e5_8 := b5.cell 8 _ rfl
  have e5_9 := b5.cell 9 _ rfl
  have e5_10 := b5.cell 10 _ rfl
  have e5_11 := b5.cell 11 _ rfl
  have lb1_7 := b1.lt
  have lb2_7 := b2.lt
  have lb4_7 := b4.lt
  have lb5_7 := b5.lt
  obtain ⟨W7, hW, b6, hbW, hszW7⟩ := boxes1 X6 #[.bool s3, .slice A3 n3 c3, .bool s4, .slice A4 n4 c4, .bool s5, .slice A5 n5 c5] 58
  skip
  skip
  replace h0 := h0.below hbW
  replace h1 := h1.below hbW
  replace h2 := h2.below hbW
  replace g3 := g3.below hbW
  replace g4 := g4.below hbW
  replace g5 := g5.below hbW
  replace b1 := b1.below hbW
  replace b2 := b2.below hbW
  replace b4 := b4.below hbW
  replace b5 := b5.below hbW
  replace H0 := H0.trans (hbW.mono H0.size)
  clear hbW
  go_wp2_with fail
  clear hW e5_6 e5_7 e5_8 e5_9 e5_10 e5_11
  have hD := drawn_below W7
  replace h0 := h0.below hD
  replace h1 := h1.below hD
  replace h2 := h2.below hD
  replace g3 := g3.below hD
  replace g4 := g4.below hD
  replace g5 := g5.below hD
  replace b1 := b1.below hD
  replace b2 := b2.below hD
  replace b4 := b4.below hD
  replace b5 := b5.below hD
  replace b6 := b6.below hD
  replace H0 := H0.trans (hD.mono H0.size)
  clear hD
  refine wp_region_noPanic ?_
  refine wp_region_held_drew (S := (fun V => V.cell? ⟨X6.heap.size, 0, none⟩ = some (.bool s3) ∧ V.cell? ⟨X6.heap.size, 1, none⟩ = some (.slice A3 n3 c3) ∧ V.cell? ⟨X6.heap.size, 2, none⟩ = some (.bool s4) ∧ V.cell? ⟨X6.heap.size, 3, none⟩ = some (.slice A4 n4 c4) ∧ V.cell? ⟨X6.heap.size, 4, none⟩ = some (.bool s5) ∧ V.cell? ⟨X6.heap.size, 5, none⟩ = some (.slice A5 n5 c5) ∧ V.cell? ⟨w2.heap.size, 0, none⟩ = some (.bool s0) ∧ V.cell? ⟨w2.heap.size, 1, none⟩ = some (.slice A0 n0 c0) ∧ V.cell? ⟨w2.heap.size, 2, none⟩ = some (.bool s1) ∧ V.cell? ⟨w2.heap.size, 3, none⟩ = some (.slice A1 n1 c1) ∧ V.cell? ⟨w2.heap.size, 4, none⟩ = some (.bool s2) ∧ V.cell? ⟨w2.heap.size, 5, none⟩ = some (.slice A2 n2 c2))) (by kernel_rfl) ⟨b6.cell 0 _ rfl, b6.cell 1 _ rfl, b6.cell 2 _ rfl, b6.cell 3 _ rfl, b6.cell 4 _ rfl, b6.cell 5 _ rfl, b4.cell 0 _ rfl, b4.cell 1 _ rfl, b4.cell 2 _ rfl, b4.cell 3 _ rfl, b4.cell 4 _ rfl, b4.cell 5 _ rfl⟩ (fun hHeld => ?_)
  generalize W7.drew = v8 at H0 hHeld h0 h1 h2 g3 g4 g5 b1 b2 b4 b5 b6 ⊢
  refine wpAnyH_take (i := 0) (v := ?_) rfl (by kernel_rfl) (by kernel_rfl) (by kernel_rfl) (fun _ _ _ h => h) (Or.inl ⟨by rfl, ?_⟩) (by assumption) ?_
  rotate_left
  · (intro w hSw; (try dsimp only at hSw); go_simp; (try with_reducible rfl))
  (try simp only [List.getElem_toArray, List.getElem_cons_zero, Act.put, List.setIfInBounds_toArray, List.set_cons_zero, List.set_cons_succ])
  refine wpAnyH_take (i := 2) (v := ?_) rfl (by kernel_rfl) (by kernel_rfl) (by kernel_rfl) (fun _ _ _ h => h) (Or.inl ⟨by rfl, ?_⟩) (by assumption) ?_
  rotate_left
  · (intro w hSw; (try dsimp only at hSw); go_simp; (try with_reducible rfl))
  (try simp only [List.getElem_toArray, List.getElem_cons_succ, List.getElem_cons_zero, Act.put, List.setIfInBounds_toArray, List.set_cons_zero, List.set_cons_succ])
  refine wpAnyH_take (i := 3) (v := ?_) rfl (by kernel_rfl) (by kernel_rfl) (by kernel_rfl) (fun _ _ _ h => h) (Or.inl ⟨by rfl, ?_⟩) (by assumption) ?_
  rotate_left
  · (intro w hSw; (try dsimp only at hSw); go_simp; (try with_reducible rfl))
  (try simp only [List.getElem_toArray, List.getElem_cons_succ, List.getElem_cons_zero, Act.put, List.setIfInBounds_toArray, List.set_cons_zero, List.set_cons_succ])
  refine wpAnyH_ready (rs := [1]) (by kernel_rfl) (by simp) (AllReadyH.cons (o := _) rfl (fun K hK => ?_) AllReadyH.nil)
  go_simp
  go_at_call 24
  refine (lline_v g3.ri g4.ri g5.ri (by omega)).mono ?_
  rintro e w9 ⟨s6, A6, n6, c6, s7, A7, n7, c7, s8, A8, n8, c8, rfl, g6, g7, g8, hb⟩
  replace h0 := h0.below hb
  replace h1 := h1.below hb
  replace h2 := h2.below hb
  replace g3 := g3.below hb
  replace g4 := g4.below hb
  replace g5 := g5.below hb
  replace b1 := b1.below hb
  replace b2 := b2.below hb
  replace b4 := b4.below hb
  replace b5 := b5.below hb
  replace b6 := b6.below hb
  replace H0 := H0.trans (hb.mono H0.size)
  clear hb
  go_wp2_with fail
  refine hK.out _ _ ⟨b6.cell 0 _ rfl, b6.cell 1 _ rfl, b6.cell 2 _ rfl, b6.cell 3 _ rfl, b6.cell 4 _ rfl, b6.cell 5 _ rfl, b4.cell 0 _ rfl, b4.cell 1 _ rfl, b4.cell 2 _ rfl, b4.cell 3 _ rfl, b4.cell 4 _ rfl, b4.cell 5 _ rfl⟩ (fun hHeld => ?_)
  clear hK K
  (try simp only [List.getElem_toArray, List.getElem_cons_succ, List.getElem_cons_zero, Act.put, List.setIfInBounds_toArray, List.set_cons_zero, List.set_cons_succ])
  refine wpAnyH_ready (rs := [4]) (by kernel_rfl) (by simp) (AllReadyH.cons (o := _) rfl (fun K hK => ?_) AllReadyH.nil)
  go_simp
  go_at_call 20
  refine (lcmp_v g3.ri g4.ri g5.ri h0.ri h1.ri h2.ri HK.out).mono ?_
  rintro e w10 ⟨rfl, hb⟩
  replace h0 := h0.below hb
  replace h1 := h1.below hb
  replace h2 := h2.below hb
  replace g3 := g3.below hb
  replace g4 := g4.below hb
  replace g5 := g5.below hb
  replace g6 := g6.below hb
  replace g7 := g7.below hb
  replace g8 := g8.below hb
  replace b1 := b1.below hb
  replace b2 := b2.below hb
  replace b4 := b4.below hb
  replace b5 := b5.below hb
  replace b6 := b6.below hb
  replace H0 := H0.trans (hb.mono H0.size)
  clear hb
  go_wp2_with fail
  refine hK.out _ _ ⟨b6.cell 0 _ rfl, b6.cell 1 _ rfl, b6.cell 2 _ rfl, b6.cell 3 _ rfl, b6.cell 4 _ rfl, b6.cell 5 _ rfl, b4.cell 0 _ rfl, b4.cell 1 _ rfl, b4.cell 2 _ rfl, b4.cell 3 _ rfl, b4.cell 4 _ rfl, b4.cell 5 _ rfl⟩ (fun hHeld => ?_)
  clear hK K
  (try simp only [List.getElem_toArray, List.getElem_cons_succ, List.getElem_cons_zero, Act.put, List.setIfInBounds_toArray, List.set_cons_zero, List.set_cons_succ])
  refine wpAnyH_take (i := 5) (v := ?_) rfl (by kernel_rfl) (by kernel_rfl) (by kernel_rfl) (fun _ _ _ h => h) (Or.inl ⟨by rfl, ?_⟩) (by assumption) ?_
  rotate_left
  · (intro w hSw; (try dsimp only at hSw); go_simp; (try with_reducible rfl))
  (try simp only [List.getElem_toArray, List.getElem_cons_succ, List.getElem_cons_zero, Act.put, List.setIfInBounds_toArray, List.set_cons_zero, List.set_cons_succ])
  have cb20 := b2.cell 0 _ rfl
  have yb20 := b2.frozen 0
  have cb21 := b2.cell 1 _ rfl
  have yb21 := b2.frozen 1
  have cb22 := b2.cell 2 _ rfl
  have yb22 := b2.frozen 2
  have cb23 := b2.cell 3 _ rfl
  have yb23 := b2.frozen 3
  have cb24 := b2.cell 4 _ rfl
  have yb24 := b2.frozen 4
  have cb25 := b2.cell 5 _ rfl
  have yb25 := b2.frozen 5
  refine wpAnyH_ready (rs := [6]) (by kernel_rfl) (by simp) (AllReadyH.cons (o := _) rfl (fun K hK => ?_) AllReadyH.nil)
  go_simp
  clear cb20 yb20 cb21 yb21 cb22 yb22 cb23 yb23 cb24 yb24 cb25 yb25
  have hg := only_store6 w10 (w.heap.size + 1) (.bool s6) (.slice A6 n6 c6) (.bool s7) (.slice A7 n7 c7) (.bool s8) (.slice A8 n8 c8)
  have hB := b2.stored6 (.bool s6) (.slice A6 n6 c6) (.bool s7) (.slice A7 n7 c7) (.bool s8) (.slice A8 n8 c8)
  generalize hX : ((((((w10.setCell ⟨w.heap.size + 1, 0, none⟩ (.bool s6)).setCell ⟨w.heap.size + 1, 1, none⟩ (.slice A6 n6 c6)).setCell ⟨w.heap.size + 1, 2, none⟩ (.bool s7)).setCell ⟨w.heap.size + 1, 3, none⟩ (.slice A7 n7 c7)).setCell ⟨w.heap.size + 1, 4, none⟩ (.bool s8)).setCell ⟨w.heap.size + 1, 5, none⟩ (.slice A8 n8 c8)) = X11 at hg hB ⊢
  clear hX
  replace h0 := h0.kept b2 (by simp [notInt]) hg
  replace h1 := h1.kept b2 (by simp [notInt]) hg
  replace h2 := h2.kept b2 (by simp [notInt]) hg
  replace g3 := g3.kept b2 (by simp [notInt]) hg
  replace g4 := g4.kept b2 (by simp [notInt]) hg
  replace g5 := g5.kept b2 (by simp [notInt]) hg
  replace g6 := g6.kept b2 (by simp [notInt]) hg
  replace g7 := g7.kept b2 (by simp [notInt]) hg
  replace g8 := g8.kept b2 (by simp [notInt]) hg
  replace b1 := b1.other hg (by omega)
  replace b4 := b4.other hg (by omega)
  replace b5 := b5.other hg (by omega)
  replace b6 := b6.other hg (by omega)
  replace b2 := hB
  replace H0 := below_only H0 hg (by omega) H0.size
  clear hg hB
  refine hK.out _ _ ⟨b6.cell 0 _ rfl, b6.cell 1 _ rfl, b6.cell 2 _ rfl, b6.cell 3 _ rfl, b6.cell 4 _ rfl, b6.cell 5 _ rfl, b4.cell 0 _ rfl, b4.cell 1 _ rfl, b4.cell 2 _ rfl, b4.cell 3 _ rfl, b4.cell 4 _ rfl, b4.cell 5 _ rfl⟩ (fun hHeld => ?_)
  clear hK K
  (try simp only [List.getElem_toArray, List.getElem_cons_succ, List.getElem_cons_zero, Act.put, List.setIfInBounds_toArray, List.set_cons_zero, List.set_cons_succ])
  refine wpAnyH_take (i := 7) (v := ?_) rfl (by kernel_rfl) (by kernel_rfl) (by kernel_rfl) (fun _ _ _ h => h) (Or.inl ⟨by rfl, ?_⟩) (by assumption) ?_
  rotate_left
  · (intro w hSw; (try dsimp only at hSw); go_simp; (try with_reducible rfl))
  (try simp only [List.getElem_toArray, List.getElem_cons_succ, List.getElem_cons_zero, Act.put, List.setIfInBounds_toArray, List.set_cons_zero, List.set_cons_succ])
  refine wpAnyH_done (by kernel_rfl) ?_ _
  refine NoPanic.normal ?_
  go_wp2_with fail
  refine bodyPost_ret (ret_linep_b rfl rfl b2) rfl ?_
  exact ⟨s6, A6, n6, c6, s7, A7, n7, c7, s8, A8, n8, c8, rfl, g6, g7, g8, H0⟩
end
end Go.Proofs.YtfonldogbfkpiaaGreat
