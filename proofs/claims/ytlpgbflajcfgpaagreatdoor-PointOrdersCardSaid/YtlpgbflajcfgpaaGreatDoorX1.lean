/-
  IGcd, PtD in one text.
-/
import Derived.Test.YtlpgbflajcfgpaaGreatDoorK9
import Derived.Test.YtlpgbflajcfgpaaGreatDoorK7
import Derived.Test.YtlpgbflajcfgpaaGreatDoorPtA
import Derived.Test.YtlpgbflajcfgpaaGreatDoorRatD
namespace Go.Proofs.YtlpgbflajcfgpaaGreatDoor
open Go.RowKit

section
variable {A A' : Option Addr} {n n' c c' L L' : Nat} {s s' : Bool} {z z' : Int} {w : World}
set_option maxRecDepth 100000 in
theorem igcd_v (h : RI w s (.slice A n c) z L) (h' : RI w s' (.slice A' n' c') z' L') (hL : L ≤ 1000000) (hL' : L' ≤ 1000000) :
    Calls Tryz.prog 85 #[.agg #[.bool s, .slice A n c], .agg #[.bool s', .slice A' n' c']] w fun e w' => ∃ B k d, e = .returned (.slice B k d) ∧ NV w' (.slice B k d) (Nat.gcd z.natAbs z'.natAbs) (max L L') ∧ Below w.heap.size w w' := by
  have hr := h.rv
  have hr' := h'.rv
  clear h h'
  go_enter Tryz.func85, Tryz.ntmps85
  go_wp2_with fail
  obtain ⟨W, hW, b0, b1, hbW, hsz⟩ := boxes2 w #[.bool s, .slice A n c] #[.bool s', .slice A' n' c'] 25 25
  rw [hW]
  refine (gcd_v (hr.below hbW) (hr'.below hbW) hL hL').mono ?_
  rintro e w' ⟨B, k, d, rfl, hN, hb⟩
  have hbf := hbW.trans (hb.mono hbW.size)
  go_wp2_with fail
  go_returns
  exact ⟨B, k, d, rfl, hN, hbf⟩
end
end Go.Proofs.YtlpgbflajcfgpaaGreatDoor
namespace Go.Proofs.YtlpgbflajcfgpaaGreatDoor
open Go.RowKit

section
variable {A0 A1 A2 A3 A4 A5 A6 A7 D0 D1 D2 D3 D4 D5 D6 D7 : Option Addr} {n0 n1 n2 n3 n4 n5 n6 n7 c0 c1 c2 c3 c4 c5 c6 c7 m0 m1 m2 m3 m4 m5 m6 m7 e0 e1 e2 e3 e4 e5 e6 e7 : Nat} {s0 s1 s2 s3 s4 s5 s6 s7 : Bool} {q0 q1 q2 q3 q4 q5 q6 q7 : Rat} {z z' z0 z1 : Int} {L L0 L1 x x0 x1 y : Nat} {k : Int} {b : Bool} {w : World}
set_option maxRecDepth 100000 in
set_option maxHeartbeats 4000000 in
theorem pquot_v (h : RI w s0 (.slice A0 n0 c0) z L) (h' : RI w s1 (.slice A1 n1 c1) (x : Int) L) (hL : L ≤ 1000000) :
    Calls Tryz.prog 86 #[.agg #[.bool s0, .slice A0 n0 c0], .agg #[.bool s1, .slice A1 n1 c1]] w fun e w' => ∃ s2 A2 n2 c2 D2 m2 e2, e = .returned (.agg #[.bool s2, .slice A2 n2 c2, .slice D2 m2 e2]) ∧ NQ w' s2 (.slice A2 n2 c2) (.slice D2 m2 e2) (mkRat z x) (max L 2) ∧ Below w.heap.size w w' := by
  rcases Decidable.em (x = 0) with h0 | h0
  · subst h0
    have hr : RV w (.slice A1 n1 c1) 0 L := h'.rv
    have HQ : Hid (mkRat z 0 = 0) := Lib.hid (Rat.mkRat_zero z)
    clear h'
    go_enter Tryz.func86, Tryz.ntmps86
    go_wp2_with fail
    obtain ⟨W0, hW, b0, b1, b9, hbW, hszW0⟩ := boxes3 w #[.bool s0, .slice A0 n0 c0] #[.bool s1, .slice A1 n1 c1] #[.bool false, .slice none 0 0, .slice none 0 0] 25 25 27
    rw [hW]
    clear hW
    replace h := h.below hbW
    replace hr := hr.below hbW
    have H0 := hbW
    clear hbW
    have cb00 := b0.cell 0 _ rfl
    have cb01 := b0.cell 1 _ rfl
    have cb10 := b1.cell 0 _ rfl
    have cb11 := b1.cell 1 _ rfl
    go_wp2_with fail
    clear cb00 cb01 cb10 cb11
    refine (rnew_zero h hr).mono ?_
    rintro e w1 ⟨s2, A2, n2, c2, D2, m2, e2, rfl, g2, hb⟩
    replace h := h.below hb
    replace hr := hr.below hb
    replace b0 := b0.below hb
    replace b1 := b1.below hb
    replace b9 := b9.below hb
    replace H0 := H0.trans (hb.mono H0.size)
    clear hb
    have lb0_2 := b0.lt
    have lb1_2 := b1.lt
    have lb9_2 := b9.lt
    obtain ⟨W2, hW, b3, hbW, hszW2⟩ := boxes1 w1 #[.bool s2, .slice A2 n2 c2, .slice D2 m2 e2] 27
    skip
    skip
    replace h := h.below hbW
    replace hr := hr.below hbW
    replace g2 := g2.below hbW
    replace b0 := b0.below hbW
    replace b1 := b1.below hbW
    replace b9 := b9.below hbW
    replace H0 := H0.trans (hbW.mono H0.size)
    clear hbW
    have cb30 := b3.cell 0 _ rfl
    have cb31 := b3.cell 1 _ rfl
    have cb32 := b3.cell 2 _ rfl
    have cb90 := b9.cell 0 _ rfl
    have yb90 := b9.frozen 0
    have cb91 := b9.cell 1 _ rfl
    have yb91 := b9.frozen 1
    have cb92 := b9.cell 2 _ rfl
    have yb92 := b9.frozen 2
    have nb1 := b9.lt
    go_wp2_with fail
    clear hW
    clear cb30 cb31 cb32 cb90 yb90 cb91 yb91 cb92 yb92
    have hg := only_store3 W2 (w.heap.size + 1 + 1) (.bool s2) (.slice A2 n2 c2) (.slice D2 m2 e2)
    have hB := b9.stored3 (.bool s2) (.slice A2 n2 c2) (.slice D2 m2 e2)
    generalize hX : (((W2.setCell ⟨w.heap.size + 1 + 1, 0, none⟩ (.bool s2)).setCell ⟨w.heap.size + 1 + 1, 1, none⟩ (.slice A2 n2 c2)).setCell ⟨w.heap.size + 1 + 1, 2, none⟩ (.slice D2 m2 e2)) = X3 at hg hB ⊢
    clear hX
    replace h := h.kept b9 (by simp [notInt]) hg
    replace hr := hr.kept b9 (by simp [notInt]) hg
    replace g2 := g2.kept b9 (by simp [notInt]) hg
    replace b0 := b0.other hg (by omega)
    replace b1 := b1.other hg (by omega)
    replace b3 := b3.other hg (by omega)
    replace b9 := hB
    replace H0 := below_only H0 hg (by omega) H0.size
    clear hg hB
    refine bodyPost_ret (ret_rat rfl rfl b9) rfl ?_
    exact ⟨s2, A2, n2, c2, D2, m2, e2, rfl, by rw [HQ.out]; exact g2.more (by omega), H0⟩
  · have HN : Hid ((x : Int) ≠ 0) := Lib.hid (by omega)
    have HQ : Hid (mkRat z x = Rat.divInt z (x : Int)) := Lib.hid (Rat.divInt_ofNat z x).symm
    clear h0
    go_enter Tryz.func86, Tryz.ntmps86
    go_wp2_with fail
    obtain ⟨W0, hW, b0, b1, b9, hbW, hszW0⟩ := boxes3 w #[.bool s0, .slice A0 n0 c0] #[.bool s1, .slice A1 n1 c1] #[.bool false, .slice none 0 0, .slice none 0 0] 25 25 27
    rw [hW]
    clear hW
    replace h := h.below hbW
    replace h' := h'.below hbW
    have H0 := hbW
    clear hbW
    have cb00 := b0.cell 0 _ rfl
    have cb01 := b0.cell 1 _ rfl
    have cb10 := b1.cell 0 _ rfl
    have cb11 := b1.cell 1 _ rfl
    go_wp2_with fail
    clear cb00 cb01 cb10 cb11
    refine (rnew_v h h' HN.out hL).mono ?_
    rintro e w1 ⟨s2, A2, n2, c2, D2, m2, e2, rfl, g2, hb⟩
    replace h := h.below hb
    replace h' := h'.below hb
    replace b0 := b0.below hb
    replace b1 := b1.below hb
    replace b9 := b9.below hb
    replace H0 := H0.trans (hb.mono H0.size)
    clear hb
    have lb0_2 := b0.lt
    have lb1_2 := b1.lt
    have lb9_2 := b9.lt
    obtain ⟨W2, hW, b3, hbW, hszW2⟩ := boxes1 w1 #[.bool s2, .slice A2 n2 c2, .slice D2 m2 e2] 27
    skip
    skip
    replace h := h.below hbW
    replace h' := h'.below hbW
    replace g2 := g2.below hbW
    replace b0 := b0.below hbW
    replace b1 := b1.below hbW
    replace b9 := b9.below hbW
    replace H0 := H0.trans (hbW.mono H0.size)
    clear hbW
    have cb30 := b3.cell 0 _ rfl
    have cb31 := b3.cell 1 _ rfl
    have cb32 := b3.cell 2 _ rfl
    have cb90 := b9.cell 0 _ rfl
    have yb90 := b9.frozen 0
    have cb91 := b9.cell 1 _ rfl
    have yb91 := b9.frozen 1
    have cb92 := b9.cell 2 _ rfl
    have yb92 := b9.frozen 2
    have nb1 := b9.lt
    go_wp2_with fail
    clear hW
    clear cb30 cb31 cb32 cb90 yb90 cb91 yb91 cb92 yb92
    have hg := only_store3 W2 (w.heap.size + 1 + 1) (.bool s2) (.slice A2 n2 c2) (.slice D2 m2 e2)
    have hB := b9.stored3 (.bool s2) (.slice A2 n2 c2) (.slice D2 m2 e2)
    generalize hX : (((W2.setCell ⟨w.heap.size + 1 + 1, 0, none⟩ (.bool s2)).setCell ⟨w.heap.size + 1 + 1, 1, none⟩ (.slice A2 n2 c2)).setCell ⟨w.heap.size + 1 + 1, 2, none⟩ (.slice D2 m2 e2)) = X3 at hg hB ⊢
    clear hX
    replace h := h.kept b9 (by simp [notInt]) hg
    replace h' := h'.kept b9 (by simp [notInt]) hg
    replace g2 := g2.kept b9 (by simp [notInt]) hg
    replace b0 := b0.other hg (by omega)
    replace b1 := b1.other hg (by omega)
    replace b3 := b3.other hg (by omega)
    replace b9 := hB
    replace H0 := below_only H0 hg (by omega) H0.size
    clear hg hB
    refine bodyPost_ret (ret_rat rfl rfl b9) rfl ?_
    exact ⟨s2, A2, n2, c2, D2, m2, e2, rfl, by rw [HQ.out]; exact g2.more (by omega), H0⟩
set_option maxRecDepth 100000 in
set_option maxHeartbeats 4000000 in
theorem pprim_v (h : RQ w s0 (.slice A0 n0 c0) (.slice D0 m0 e0) q0 L) (h' : RQ w s1 (.slice A1 n1 c1) (.slice D1 m1 e1) q1 L) (hL : L ≤ 100000) :
    Calls Tryz.prog 45 #[.agg #[.bool s0, .slice A0 n0 c0, .slice D0 m0 e0, .bool s1, .slice A1 n1 c1, .slice D1 m1 e1]] w fun e w' => ∃ s6 A6 n6 c6 D6 m6 e6 s7 A7 n7 c7 D7 m7 e7, e = .returned (.agg #[.bool s6, .slice A6 n6 c6, .slice D6 m6 e6, .bool s7, .slice A7 n7 c7, .slice D7 m7 e7]) ∧ NQ w' s6 (.slice A6 n6 c6) (.slice D6 m6 e6) (mkRat (q0.num * (q1.den : Int)) (Nat.gcd (q0.num * (q1.den : Int)).natAbs (q1.num * (q0.den : Int)).natAbs)) (2 * max L 2) ∧ NQ w' s7 (.slice A7 n7 c7) (.slice D7 m7 e7) (mkRat (q1.num * (q0.den : Int)) (Nat.gcd (q0.num * (q1.den : Int)).natAbs (q1.num * (q0.den : Int)).natAbs)) (2 * max L 2) ∧ Below w.heap.size w w' := by
  go_enter Tryz.func45, Tryz.ntmps45
  go_wp2_with fail
  obtain ⟨W0, hW, b0, b9, hbW, hszW0⟩ := boxes2 w #[.bool s0, .slice A0 n0 c0, .slice D0 m0 e0, .bool s1, .slice A1 n1 c1, .slice D1 m1 e1] #[.bool false, .slice none 0 0, .slice none 0 0, .bool false, .slice none 0 0, .slice none 0 0] 29 29
  rw [hW]
  clear hW
  replace h := h.below hbW
  replace h' := h'.below hbW
  have H0 := hbW
  clear hbW
  have cb00 := b0.cell 0 _ rfl
  have cb01 := b0.cell 1 _ rfl
  have cb02 := b0.cell 2 _ rfl
  have cb03 := b0.cell 3 _ rfl
  have cb04 := b0.cell 4 _ rfl
  have cb05 := b0.cell 5 _ rfl
  go_wp2_with fail
  clear cb00 cb01 cb02 cb03 cb04 cb05
  refine (pnorm_v h h' (by omega)).mono ?_
  rintro e w1 ⟨s2, A2, n2, c2, D2, m2, e2, s3, A3, n3, c3, D3, m3, e3, rfl, g2, g3, hb⟩
  replace h := h.below hb
  replace h' := h'.below hb
  replace b0 := b0.below hb
  replace b9 := b9.below hb
  replace H0 := H0.trans (hb.mono H0.size)
  clear hb
  clear h
  clear h'
  have cb00 := b0.cell 0 _ rfl
  have yb00 := b0.frozen 0
  have cb01 := b0.cell 1 _ rfl
  have yb01 := b0.frozen 1
  have cb02 := b0.cell 2 _ rfl
  have yb02 := b0.frozen 2
  have cb03 := b0.cell 3 _ rfl
  have yb03 := b0.frozen 3
  have cb04 := b0.cell 4 _ rfl
  have yb04 := b0.frozen 4
  have cb05 := b0.cell 5 _ rfl
  have yb05 := b0.frozen 5
  go_wp2_with fail
  clear cb00 yb00 cb01 yb01 cb02 yb02 cb03 yb03 cb04 yb04 cb05 yb05
  have hg := only_store6 w1 (w.heap.size) (.bool s2) (.slice A2 n2 c2) (.slice D2 m2 e2) (.bool s3) (.slice A3 n3 c3) (.slice D3 m3 e3)
  have hB := b0.stored6 (.bool s2) (.slice A2 n2 c2) (.slice D2 m2 e2) (.bool s3) (.slice A3 n3 c3) (.slice D3 m3 e3)
  generalize hX : ((((((w1.setCell ⟨w.heap.size, 0, none⟩ (.bool s2)).setCell ⟨w.heap.size, 1, none⟩ (.slice A2 n2 c2)).setCell ⟨w.heap.size, 2, none⟩ (.slice D2 m2 e2)).setCell ⟨w.heap.size, 3, none⟩ (.bool s3)).setCell ⟨w.heap.size, 4, none⟩ (.slice A3 n3 c3)).setCell ⟨w.heap.size, 5, none⟩ (.slice D3 m3 e3)) = X2 at hg hB ⊢
  clear hX
  replace g2 := g2.kept b0 (by simp [notInt]) hg
  replace g3 := g3.kept b0 (by simp [notInt]) hg
  replace b9 := b9.other hg (by omega)
  replace b0 := hB
  replace H0 := below_only H0 hg (by omega) H0.size
  clear hg hB
  have cb00 := b0.cell 0 _ rfl
  have cb01 := b0.cell 1 _ rfl
  have cb02 := b0.cell 2 _ rfl
  have cb03 := b0.cell 3 _ rfl
  have cb04 := b0.cell 4 _ rfl
  have cb05 := b0.cell 5 _ rfl
  go_wp2_with fail
  have i2 := g2.1.ri
  have i3 := g3.1.ri
  have d2 : RI X2 false (.slice D2 m2 e2) (q0.den : Int) (max L 2) := ⟨_, g2.2.rv, rfl⟩
  have d3 : RI X2 false (.slice D3 m3 e3) (q1.den : Int) (max L 2) := ⟨_, g3.2.rv, rfl⟩
  clear g2
  clear g3
  clear cb00 cb01 cb02 cb03 cb04 cb05
  refine (imul_v i2 d3 (by omega) (by omega)).mono ?_
  rintro e w3 ⟨s4, A4, n4, c4, rfl, g4, hb⟩
  replace i2 := i2.below hb
  replace i3 := i3.below hb
  replace d2 := d2.below hb
  replace d3 := d3.below hb
  replace b0 := b0.below hb
  replace b9 := b9.below hb
  replace H0 := H0.trans (hb.mono H0.size)
  clear hb
  clear i2
  clear d3
  have lb0_4 := b0.lt
  have lb9_4 := b9.lt
  obtain ⟨W4, hW, b4, hbW, hszW4⟩ := boxes1 w3 #[.bool s4, .slice A4 n4 c4] 25
  skip
  skip
  replace i3 := i3.below hbW
  replace d2 := d2.below hbW
  replace g4 := g4.below hbW
  replace b0 := b0.below hbW
  replace b9 := b9.below hbW
  replace H0 := H0.trans (hbW.mono H0.size)
  clear hbW
  have cb00 := b0.cell 0 _ rfl
  have cb01 := b0.cell 1 _ rfl
  have cb02 := b0.cell 2 _ rfl
  have cb03 := b0.cell 3 _ rfl
  have cb04 := b0.cell 4 _ rfl
  have cb05 := b0.cell 5 _ rfl
  go_wp2_with fail
  clear hW
  clear cb00 cb01 cb02 cb03 cb04 cb05
  refine (imul_v i3 d2 (by omega) (by omega)).mono ?_
  rintro e w5 ⟨s5, A5, n5, c5, rfl, g5, hb⟩
  replace i3 := i3.below hb
  replace d2 := d2.below hb
  replace g4 := g4.below hb
  replace b0 := b0.below hb
  replace b9 := b9.below hb
  replace b4 := b4.below hb
  replace H0 := H0.trans (hb.mono H0.size)
  clear hb
  clear i3
  clear d2
  have lb0_6 := b0.lt
  have lb9_6 := b9.lt
  have lb4_6 := b4.lt
  obtain ⟨W6, hW, b5, hbW, hszW6⟩ := boxes1 w5 #[.bool s5, .slice A5 n5 c5] 25
  skip
  skip
  replace g4 := g4.below hbW
  replace g5 := g5.below hbW
  replace b0 := b0.below hbW
  replace b9 := b9.below hbW
  replace b4 := b4.below hbW
  replace H0 := H0.trans (hbW.mono H0.size)
  clear hbW
  have cb40 := b4.cell 0 _ rfl
  have cb41 := b4.cell 1 _ rfl
  have cb50 := b5.cell 0 _ rfl
  have cb51 := b5.cell 1 _ rfl
  go_wp2_with fail
  clear hW
  clear cb40 cb41 cb50 cb51
  refine (igcd_v g4.ri g5.ri (by omega) (by omega)).mono ?_
  rintro e w7 ⟨A6, n6, c6, rfl, g6, hb⟩
  replace g4 := g4.below hb
  replace g5 := g5.below hb
  replace b0 := b0.below hb
  replace b9 := b9.below hb
  replace b4 := b4.below hb
  replace b5 := b5.below hb
  replace H0 := H0.trans (hb.mono H0.size)
  clear hb
  have lb0_8 := b0.lt
  have lb9_8 := b9.lt
  have lb4_8 := b4.lt
  have lb5_8 := b5.lt
  obtain ⟨W8, hW, b6, hbW, hszW8⟩ := boxes1 w7 #[.bool false, .slice A6 n6 c6] 25
  skip
  skip
  replace g4 := g4.below hbW
  replace g5 := g5.below hbW
  replace g6 := g6.below hbW
  replace b0 := b0.below hbW
  replace b9 := b9.below hbW
  replace b4 := b4.below hbW
  replace b5 := b5.below hbW
  replace H0 := H0.trans (hbW.mono H0.size)
  clear hbW
  go_wp2_with fail
  clear hW
  have i6 : RI W8 false (.slice A6 n6 c6) ((Nat.gcd (q0.num * (q1.den : Int)).natAbs (q1.num * (q0.den : Int)).natAbs : Nat) : Int) (2 * max L 2) := ⟨_, (g6.more (by omega)).rv, rfl⟩
  have i4 := g4.ri.more (show max L 2 + max L 2 ≤ 2 * max L 2 by omega)
  have i5 := g5.ri.more (show max L 2 + max L 2 ≤ 2 * max L 2 by omega)
  clear g4
  clear g5
  clear g6
  have hD := drawn_below W8
  replace i4 := i4.below hD
  replace i5 := i5.below hD
  replace i6 := i6.below hD
  replace b0 := b0.below hD
  replace b9 := b9.below hD
  replace b4 := b4.below hD
  replace b5 := b5.below hD
  replace b6 := b6.below hD
  replace H0 := H0.trans (hD.mono H0.size)
  clear hD
  refine wp_region_noPanic ?_
  refine wp_region_held_drew (S := (fun V => V.cell? ⟨w3.heap.size, 0, none⟩ = some (.bool s4) ∧ V.cell? ⟨w3.heap.size, 1, none⟩ = some (.slice A4 n4 c4) ∧ V.cell? ⟨w5.heap.size, 0, none⟩ = some (.bool s5) ∧ V.cell? ⟨w5.heap.size, 1, none⟩ = some (.slice A5 n5 c5) ∧ V.cell? ⟨w7.heap.size, 0, none⟩ = some (.bool false) ∧ V.cell? ⟨w7.heap.size, 1, none⟩ = some (.slice A6 n6 c6))) (by kernel_rfl) ⟨b4.cell 0 _ rfl, b4.cell 1 _ rfl, b5.cell 0 _ rfl, b5.cell 1 _ rfl, b6.cell 0 _ rfl, b6.cell 1 _ rfl⟩ (fun hHeld => ?_)
  generalize W8.drew = v9 at H0 hHeld i4 i5 i6 b0 b9 b4 b5 b6 ⊢
  refine wpAnyH_take (i := 0) (v := ?_) rfl (by kernel_rfl) (by kernel_rfl) (by kernel_rfl) (fun _ _ _ h => h) (Or.inl ⟨by rfl, ?_⟩) (by assumption) ?_
  rotate_left
  · (intro w hSw; (try dsimp only at hSw); go_simp; (try with_reducible rfl))
  (try simp only [List.getElem_toArray, List.getElem_cons_zero, Act.put, List.setIfInBounds_toArray, List.set_cons_zero, List.set_cons_succ])
  refine wpAnyH_take (i := 1) (v := ?_) rfl (by kernel_rfl) (by kernel_rfl) (by kernel_rfl) (fun _ _ _ h => h) (Or.inl ⟨by rfl, ?_⟩) (by assumption) ?_
  rotate_left
  · (intro w hSw; (try dsimp only at hSw); go_simp; (try with_reducible rfl))
  (try simp only [List.getElem_toArray, List.getElem_cons_succ, List.getElem_cons_zero, Act.put, List.setIfInBounds_toArray, List.set_cons_zero, List.set_cons_succ])
  refine wpAnyH_take (i := 3) (v := ?_) rfl (by kernel_rfl) (by kernel_rfl) (by kernel_rfl) (fun _ _ _ h => h) (Or.inl ⟨by rfl, ?_⟩) (by assumption) ?_
  rotate_left
  · (intro w hSw; (try dsimp only at hSw); go_simp; (try with_reducible rfl))
  (try simp only [List.getElem_toArray, List.getElem_cons_succ, List.getElem_cons_zero, Act.put, List.setIfInBounds_toArray, List.set_cons_zero, List.set_cons_succ])
  refine wpAnyH_take (i := 4) (v := ?_) rfl (by kernel_rfl) (by kernel_rfl) (by kernel_rfl) (fun _ _ _ h => h) (Or.inl ⟨by rfl, ?_⟩) (by assumption) ?_
  rotate_left
  · (intro w hSw; (try dsimp only at hSw); go_simp; (try with_reducible rfl))
  (try simp only [List.getElem_toArray, List.getElem_cons_succ, List.getElem_cons_zero, Act.put, List.setIfInBounds_toArray, List.set_cons_zero, List.set_cons_succ])
  refine wpAnyH_ready (rs := [2]) (by kernel_rfl) (by simp) (AllReadyH.cons (o := _) rfl (fun K hK => ?_) AllReadyH.nil)
  go_simp
  go_at_call 86
  refine (pquot_v i4 i6 (by omega)).mono ?_
  rintro e w10 ⟨s6, A6, n6, c6, D6, m6, e6, rfl, g6, hb⟩
  replace i4 := i4.below hb
  replace i5 := i5.below hb
  replace i6 := i6.below hb
  replace b0 := b0.below hb
  replace b9 := b9.below hb
  replace b4 := b4.below hb
  replace b5 := b5.below hb
  replace b6 := b6.below hb
  replace H0 := H0.trans (hb.mono H0.size)
  clear hb
  clear i4
  go_wp2_with fail
  refine hK.out _ _ ⟨b4.cell 0 _ rfl, b4.cell 1 _ rfl, b5.cell 0 _ rfl, b5.cell 1 _ rfl, b6.cell 0 _ rfl, b6.cell 1 _ rfl⟩ (fun hHeld => ?_)
  clear hK K
  (try simp only [List.getElem_toArray, List.getElem_cons_succ, List.getElem_cons_zero, Act.put, List.setIfInBounds_toArray, List.set_cons_zero, List.set_cons_succ])
  refine wpAnyH_ready (rs := [5]) (by kernel_rfl) (by simp) (AllReadyH.cons (o := _) rfl (fun K hK => ?_) AllReadyH.nil)
  go_simp
  go_at_call 86
  refine (pquot_v i5 i6 (by omega)).mono ?_
  rintro e w11 ⟨s7, A7, n7, c7, D7, m7, e7, rfl, g7, hb⟩
  replace i5 := i5.below hb
  replace i6 := i6.below hb
  replace g6 := g6.below hb
  replace b0 := b0.below hb
  replace b9 := b9.below hb
  replace b4 := b4.below hb
  replace b5 := b5.below hb
  replace b6 := b6.below hb
  replace H0 := H0.trans (hb.mono H0.size)
  clear hb
  clear i5
  go_wp2_with fail
  refine hK.out _ _ ⟨b4.cell 0 _ rfl, b4.cell 1 _ rfl, b5.cell 0 _ rfl, b5.cell 1 _ rfl, b6.cell 0 _ rfl, b6.cell 1 _ rfl⟩ (fun hHeld => ?_)
  clear hK K
  (try simp only [List.getElem_toArray, List.getElem_cons_succ, List.getElem_cons_zero, Act.put, List.setIfInBounds_toArray, List.set_cons_zero, List.set_cons_succ])
  refine wpAnyH_take (i := 6) (v := ?_) rfl (by kernel_rfl) (by kernel_rfl) (by kernel_rfl) (fun _ _ _ h => h) (Or.inl ⟨by rfl, ?_⟩) (by assumption) ?_
  rotate_left
  · (intro w hSw; (try dsimp only at hSw); go_simp; (try with_reducible rfl))
  (try simp only [List.getElem_toArray, List.getElem_cons_succ, List.getElem_cons_zero, Act.put, List.setIfInBounds_toArray, List.set_cons_zero, List.set_cons_succ])
  have cb90 := b9.cell 0 _ rfl
  have yb90 := b9.frozen 0
  have cb91 := b9.cell 1 _ rfl
  have yb91 := b9.frozen 1
  have cb92 := b9.cell 2 _ rfl
  have yb92 := b9.frozen 2
  have cb93 := b9.cell 3 _ rfl
  have yb93 := b9.frozen 3
  have cb94 := b9.cell 4 _ rfl
  have yb94 := b9.frozen 4
  have cb95 := b9.cell 5 _ rfl
  have yb95 := b9.frozen 5
  refine wpAnyH_ready (rs := [7]) (by kernel_rfl) (by simp) (AllReadyH.cons (o := _) rfl (fun K hK => ?_) AllReadyH.nil)
  go_simp
  clear cb90 yb90 cb91 yb91 cb92 yb92 cb93 yb93 cb94 yb94 cb95 yb95
  have hg := only_store6 w11 (w.heap.size + 1) (.bool s6) (.slice A6 n6 c6) (.slice D6 m6 e6) (.bool s7) (.slice A7 n7 c7) (.slice D7 m7 e7)
  have hB := b9.stored6 (.bool s6) (.slice A6 n6 c6) (.slice D6 m6 e6) (.bool s7) (.slice A7 n7 c7) (.slice D7 m7 e7)
  generalize hX : ((((((w11.setCell ⟨w.heap.size + 1, 0, none⟩ (.bool s6)).setCell ⟨w.heap.size + 1, 1, none⟩ (.slice A6 n6 c6)).setCell ⟨w.heap.size + 1, 2, none⟩ (.slice D6 m6 e6)).setCell ⟨w.heap.size + 1, 3, none⟩ (.bool s7)).setCell ⟨w.heap.size + 1, 4, none⟩ (.slice A7 n7 c7)).setCell ⟨w.heap.size + 1, 5, none⟩ (.slice D7 m7 e7)) = X12 at hg hB ⊢
  clear hX
  replace i6 := i6.kept b9 (by simp [notInt]) hg
  replace g6 := g6.kept b9 (by simp [notInt]) hg
  replace g7 := g7.kept b9 (by simp [notInt]) hg
  replace b0 := b0.other hg (by omega)
  replace b4 := b4.other hg (by omega)
  replace b5 := b5.other hg (by omega)
  replace b6 := b6.other hg (by omega)
  replace b9 := hB
  replace H0 := below_only H0 hg (by omega) H0.size
  clear hg hB
  refine hK.out _ _ ⟨b4.cell 0 _ rfl, b4.cell 1 _ rfl, b5.cell 0 _ rfl, b5.cell 1 _ rfl, b6.cell 0 _ rfl, b6.cell 1 _ rfl⟩ (fun hHeld => ?_)
  clear hK K
  (try simp only [List.getElem_toArray, List.getElem_cons_succ, List.getElem_cons_zero, Act.put, List.setIfInBounds_toArray, List.set_cons_zero, List.set_cons_succ])
  refine wpAnyH_done (by kernel_rfl) ?_ _
  refine NoPanic.normal ?_
  go_wp2_with fail
  refine bodyPost_ret (ret_point rfl rfl b9) rfl ?_
  exact ⟨s6, A6, n6, c6, D6, m6, e6, s7, A7, n7, c7, D7, m7, e7, rfl, g6.more (by omega), g7.more (by omega), H0⟩
end
end Go.Proofs.YtlpgbflajcfgpaaGreatDoor
