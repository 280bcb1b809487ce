/-
  The reference's line through two points.
-/
import Derived.Test.YtfonldogbfkpiaaGreatLnG
namespace Go.Proofs.YtfonldogbfkpiaaGreat
open Go.RowKit

section
variable {A0 A1 A2 A3 A4 A5 A6 A7 A8 A9 A10 A11 A12 A13 A14 A15 A16 A17 A18 A19 A20 A21 A22 A23 D0 D1 D2 D3 D4 D5 D6 D7 D8 D9 D10 D11 D12 D13 D14 D15 D16 D17 D18 D19 D20 D21 D22 D23 : Option Addr} {n0 n1 n2 n3 n4 n5 n6 n7 n8 n9 n10 n11 n12 n13 n14 n15 n16 n17 n18 n19 n20 n21 n22 n23 c0 c1 c2 c3 c4 c5 c6 c7 c8 c9 c10 c11 c12 c13 c14 c15 c16 c17 c18 c19 c20 c21 c22 c23 m0 m1 m2 m3 m4 m5 m6 m7 m8 m9 m10 m11 m12 m13 m14 m15 m16 m17 m18 m19 m20 m21 m22 m23 e0 e1 e2 e3 e4 e5 e6 e7 e8 e9 e10 e11 e12 e13 e14 e15 e16 e17 e18 e19 e20 e21 e22 e23 : Nat} {s0 s1 s2 s3 s4 s5 s6 s7 s8 s9 s10 s11 s12 s13 s14 s15 s16 s17 s18 s19 s20 s21 s22 s23 : Bool} {q0 q1 q2 q3 q4 q5 q6 q7 : Rat} {z0 z1 z2 z3 z4 z5 z6 z7 z8 z9 z10 z11 : Int} {L L0 L1 x y : Nat} {k : Int} {b : Bool} {w : World}
theorem den_num {q : Rat} {m : Nat} (h : q.den ∣ m) : ((q * ((m : Int) : Rat)).num : Rat) = q * ((m : Int) : Rat) := by
  obtain ⟨k, rfl⟩ := h
  have e : q * (((q.den * k : Nat) : Int) : Rat) = ((q.num * (k : Int) : Int) : Rat) := by
    rw [Rat.intCast_mul, num_cast q, Int.natCast_mul, Rat.intCast_mul, Rat.intCast_natCast]; grind
  rw [e]; rfl
theorem thr_ref {q0 q1 q2 q3 a b c : Rat} {m : Nat} (ea : a = -(q3 - q1)) (eb : b = q2 - q0) (ec : c = -(a * q0 + b * q1)) (hm : m = a.den * b.den * c.den) : Thr q0 q1 q2 q3 (a * ((m : Int) : Rat)).num (b * ((m : Int) : Rat)).num (c * ((m : Int) : Rat)).num := by
  have ha : a.den ∣ m := by rw [hm]; exact Nat.dvd_trans (Nat.dvd_mul_right _ _) (Nat.dvd_mul_right _ _)
  have hb : b.den ∣ m := by rw [hm]; exact Nat.dvd_trans (Nat.dvd_mul_left _ _) (Nat.dvd_mul_right _ _)
  have hc : c.den ∣ m := by rw [hm]; exact Nat.dvd_mul_left _ _
  have hp : 0 < m := by rw [hm]; exact Nat.mul_pos (Nat.mul_pos a.den_pos b.den_pos) c.den_pos
  refine ⟨(m : Int), by omega, ?_, ?_, ?_⟩
  · rw [den_num ha, ea]; congr 1; grind
  · rw [den_num hb, eb]
  · rw [den_num hc, ec, ea, eb]; congr 1; grind
theorem thr_z {q0 q1 q2 q3 : Rat} {a b c : Int} (h : Thr q0 q1 q2 q3 a b c) (hz : ¬ (q0 = q2 ∧ q1 = q3)) : ¬ (a = 0 ∧ b = 0) := fun h0 => hz ((thr_zero h).1 h0)
set_option maxRecDepth 100000 in
set_option maxHeartbeats 4000000 in
theorem gthrough_v (h : PQ w s0 (.slice A0 n0 c0) (.slice D0 m0 e0) q0 8) (h' : PQ w s1 (.slice A1 n1 c1) (.slice D1 m1 e1) q1 8) (k : PQ w s2 (.slice A2 n2 c2) (.slice D2 m2 e2) q2 8) (k' : PQ w s3 (.slice A3 n3 c3) (.slice D3 m3 e3) q3 8) (hz : ¬ (q0 = q2 ∧ q1 = q3)) :
    Calls Tryz.prog 14 #[.agg #[.bool s0, .slice A0 n0 c0, .slice D0 m0 e0, .bool s1, .slice A1 n1 c1, .slice D1 m1 e1], .agg #[.bool s2, .slice A2 n2 c2, .slice D2 m2 e2, .bool s3, .slice A3 n3 c3, .slice D3 m3 e3]] w fun e w' => ∃ z0 z1 z2 : Int, ∃ s21 A21 n21 c21 s22 A22 n22 c22 s23 A23 n23 c23, e = .returned (.tuple #[.agg #[.bool s21, .slice A21 n21 c21, .bool s22, .slice A22 n22 c22, .bool s23, .slice A23 n23 c23], .bool true]) ∧ Thr q0 q1 q2 q3 z0 z1 z2 ∧ NI w' s21 (.slice A21 n21 c21) (pr z0 z0 z1 z2) (1000) ∧ NI w' s22 (.slice A22 n22 c22) (pr z1 z0 z1 z2) (1000) ∧ NI w' s23 (.slice A23 n23 c23) (pr z2 z0 z1 z2) (1000) ∧ Below w.heap.size w w' := by
  have HZ := Lib.hid hz
  clear hz
  go_enter Tryz.func14, Tryz.ntmps14
  go_wp2_with fail
  obtain ⟨W0, hW, b0, b1, b9, hbW, hszW0⟩ := boxes3 w #[.bool s0, .slice A0 n0 c0, .slice D0 m0 e0, .bool s1, .slice A1 n1 c1, .slice D1 m1 e1] #[.bool s2, .slice A2 n2 c2, .slice D2 m2 e2, .bool s3, .slice A3 n3 c3, .slice D3 m3 e3] #[.bool false, .slice none 0 0, .bool false, .slice none 0 0, .bool false, .slice none 0 0] 51 51 36
  rw [hW]
  clear hW
  replace h := h.below hbW
  replace h' := h'.below hbW
  replace k := k.below hbW
  replace k' := k'.below hbW
  have H0 := hbW
  clear hbW
  have cb00 := b0.cell 0 _ rfl
  have cb01 := b0.cell 1 _ rfl
  have cb02 := b0.cell 2 _ rfl
  have cb03 := b0.cell 3 _ rfl
  have cb04 := b0.cell 4 _ rfl
  have cb05 := b0.cell 5 _ rfl
  have cb10 := b1.cell 0 _ rfl
  have cb11 := b1.cell 1 _ rfl
  have cb12 := b1.cell 2 _ rfl
  have cb13 := b1.cell 3 _ rfl
  have cb14 := b1.cell 4 _ rfl
  have cb15 := b1.cell 5 _ rfl
  go_wp2_with fail
  clear cb00 cb01 cb02 cb03 cb04 cb05 cb10 cb11 cb12 cb13 cb14 cb15
  refine (gsub_v k k' h h' (by omega) (by omega)).mono ?_
  rintro e w1 ⟨s4, A4, n4, c4, D4, m4, e4, s5, A5, n5, c5, D5, m5, e5, rfl, g4, g5, hb⟩
  replace h := h.below hb
  replace h' := h'.below hb
  replace k := k.below hb
  replace k' := k'.below hb
  replace b0 := b0.below hb
  replace b1 := b1.below hb
  replace b9 := b9.below hb
  replace H0 := H0.trans (hb.mono H0.size)
  clear hb
  have lb0_2 := b0.lt
  have lb1_2 := b1.lt
  have lb9_2 := b9.lt
  obtain ⟨W2, hW, b6, hbW, hszW2⟩ := boxes1 w1 #[.bool s4, .slice A4 n4 c4, .slice D4 m4 e4, .bool s5, .slice A5 n5 c5, .slice D5 m5 e5] 51
  skip
  skip
  replace h := h.below hbW
  replace h' := h'.below hbW
  replace k := k.below hbW
  replace k' := k'.below hbW
  replace g4 := g4.below hbW
  replace g5 := g5.below hbW
  replace b0 := b0.below hbW
  replace b1 := b1.below hbW
  replace b9 := b9.below hbW
  replace H0 := H0.trans (hbW.mono H0.size)
  clear hbW
  have cb60 := b6.cell 0 _ rfl
  have cb61 := b6.cell 1 _ rfl
  have cb62 := b6.cell 2 _ rfl
  have cb63 := b6.cell 3 _ rfl
  have cb64 := b6.cell 4 _ rfl
  have cb65 := b6.cell 5 _ rfl
  go_wp2_with fail
  clear hW
  clear hszW2
  clear cb60 cb61 cb62 cb63 cb64 cb65
  have lcb0_3 := b0.lt
  have lcb1_3 := b1.lt
  have lcb9_3 := b9.lt
  have lcb6_3 := b6.lt
  go_cut [7, 8] from 9 (fun u3_0 u3_1 wx => ∃ g3_0 g3_1 s6, u3_0 = .pointer (some ⟨g3_0, 0, none⟩) ∧ u3_1 = .pointer (some ⟨g3_1, 0, none⟩) ∧ PQ wx s6 (.slice A5 n5 c5) (.slice D5 m5 e5) (-(q3 - q1)) 20 ∧ Box wx g3_0 #[.bool s6, .slice A5 n5 c5, .slice D5 m5 e5] 49 ∧ Box wx g3_1 #[.bool s4, .slice A4 n4 c4, .slice D4 m4 e4] 49 ∧ W2.heap.size ≤ g3_0 ∧ W2.heap.size ≤ g3_1 ∧ g3_0 ≠ g3_1 ∧ Below W2.heap.size W2 wx)
  case first =>
    have hG := drawn_below W2
    refine wp_region_noPanic ?_
    refine wp_region_held_drew (S := (fun V => V.cell? ⟨w1.heap.size, 0, none⟩ = some (.bool s4) ∧ V.cell? ⟨w1.heap.size, 1, none⟩ = some (.slice A4 n4 c4) ∧ V.cell? ⟨w1.heap.size, 2, none⟩ = some (.slice D4 m4 e4) ∧ V.cell? ⟨w1.heap.size, 3, none⟩ = some (.bool s5) ∧ V.cell? ⟨w1.heap.size, 4, none⟩ = some (.slice A5 n5 c5) ∧ V.cell? ⟨w1.heap.size, 5, none⟩ = some (.slice D5 m5 e5))) (by kernel_rfl) ⟨(b6.below hG).cell 0 _ rfl, (b6.below hG).cell 1 _ rfl, (b6.below hG).cell 2 _ rfl, (b6.below hG).cell 3 _ rfl, (b6.below hG).cell 4 _ rfl, (b6.below hG).cell 5 _ rfl⟩ (fun hHeld => ?_)
    generalize W2.drew = v3 at hG hHeld ⊢
    have sG := hG.size
    refine wpAnyH_take (i := 0) (v := ?_) rfl (by kernel_rfl) (by kernel_rfl) (by kernel_rfl) (fun _ _ _ h => h) (Or.inl ⟨by rfl, ?_⟩) (by assumption) ?_
    rotate_left
    · (intro w hSw; (try dsimp only at hSw); go_simp; (try with_reducible rfl))
    (try simp only [List.getElem_toArray, List.getElem_cons_zero, Act.put, List.setIfInBounds_toArray, List.set_cons_zero, List.set_cons_succ])
    refine wpAnyH_take (i := 1) (v := ?_) rfl (by kernel_rfl) (by kernel_rfl) (by kernel_rfl) (fun _ _ _ h => h) (Or.inl ⟨by rfl, ?_⟩) (by assumption) ?_
    rotate_left
    · (intro w hSw; (try dsimp only at hSw); go_simp; (try with_reducible rfl))
    (try simp only [List.getElem_toArray, List.getElem_cons_succ, List.getElem_cons_zero, Act.put, List.setIfInBounds_toArray, List.set_cons_zero, List.set_cons_succ])
    refine wpAnyH_take (i := 3) (v := ?_) rfl (by kernel_rfl) (by kernel_rfl) (by kernel_rfl) (fun _ _ _ h => h) (Or.inl ⟨by rfl, ?_⟩) (by assumption) ?_
    rotate_left
    · (intro w hSw; (try dsimp only at hSw); go_simp; (try with_reducible rfl))
    (try simp only [List.getElem_toArray, List.getElem_cons_succ, List.getElem_cons_zero, Act.put, List.setIfInBounds_toArray, List.set_cons_zero, List.set_cons_succ])
    refine wpAnyH_take (i := 4) (v := ?_) rfl (by kernel_rfl) (by kernel_rfl) (by kernel_rfl) (fun _ _ _ h => h) (Or.inl ⟨by rfl, ?_⟩) (by assumption) ?_
    rotate_left
    · (intro w hSw; (try dsimp only at hSw); go_simp; (try with_reducible rfl))
    (try simp only [List.getElem_toArray, List.getElem_cons_succ, List.getElem_cons_zero, Act.put, List.setIfInBounds_toArray, List.set_cons_zero, List.set_cons_succ])
    refine wpAnyH_ready (rs := [2, 5, 6]) (by kernel_rfl) (by simp) (AllReadyH.cons (o := _) rfl (fun K hK => ?_) (AllReadyH.cons (o := _) rfl (fun K hK => ?_) (AllReadyH.cons (o := _) rfl (fun K hK => ?_) AllReadyH.nil)))
    · go_simp
      go_at_call 35
      refine (nopp_v (g5.below hG)).mono ?_
      rintro e y3_1 ⟨s6, rfl, g6, hb9⟩
      have szy3_1 := hb9.size
      replace hG := hG.trans (hb9.mono sG)
      replace sG := hG.size
      clear hb9
      go_wp2_with fail
      refine hK.out _ _ ⟨(b6.below hG).cell 0 _ rfl, (b6.below hG).cell 1 _ rfl, (b6.below hG).cell 2 _ rfl, (b6.below hG).cell 3 _ rfl, (b6.below hG).cell 4 _ rfl, (b6.below hG).cell 5 _ rfl⟩ (fun hHeld => ?_)
      clear hK K
      (try simp only [List.getElem_toArray, List.getElem_cons_succ, List.getElem_cons_zero, Act.put, List.setIfInBounds_toArray, List.set_cons_zero, List.set_cons_succ])
      refine wpAnyH_ready (rs := [5, 6]) (by kernel_rfl) (by simp) (AllReadyH.cons (o := _) rfl (fun K hK => ?_) (AllReadyH.cons (o := _) rfl (fun K hK => ?_) AllReadyH.nil))
      · go_simp
        obtain ⟨y3_2, hV, b7, hb9, szy3_2⟩ := boxes1 y3_1 #[.bool false, .slice none 0 0, .slice none 0 0] 49
        rw [hV]
        clear hV
        have gly3_2 : W2.heap.size ≤ y3_1.heap.size := sG
        replace szy3_2 : y3_1.heap.size < y3_2.heap.size := by omega
        replace g6 := g6.below hb9
        replace hG := hG.trans (hb9.mono sG)
        replace sG := hG.size
        clear hb9
        refine hK.out _ _ ⟨(b6.below hG).cell 0 _ rfl, (b6.below hG).cell 1 _ rfl, (b6.below hG).cell 2 _ rfl, (b6.below hG).cell 3 _ rfl, (b6.below hG).cell 4 _ rfl, (b6.below hG).cell 5 _ rfl⟩ (fun hHeld => ?_)
        clear hK K
        (try simp only [List.getElem_toArray, List.getElem_cons_succ, List.getElem_cons_zero, Act.put, List.setIfInBounds_toArray, List.set_cons_zero, List.set_cons_succ])
        refine wpAnyH_ready (rs := [6]) (by kernel_rfl) (by simp) (AllReadyH.cons (o := _) rfl (fun K hK => ?_) AllReadyH.nil)
        go_simp
        obtain ⟨y3_3, hV, b8, hb9, szy3_3⟩ := boxes1 y3_2 #[.bool false, .slice none 0 0, .slice none 0 0] 49
        rw [hV]
        clear hV
        have gly3_3 : W2.heap.size ≤ y3_2.heap.size := sG
        replace szy3_3 : y3_2.heap.size < y3_3.heap.size := by omega
        replace g6 := g6.below hb9
        replace b7 := b7.below hb9
        replace hG := hG.trans (hb9.mono sG)
        replace sG := hG.size
        clear hb9
        refine hK.out _ _ ⟨(b6.below hG).cell 0 _ rfl, (b6.below hG).cell 1 _ rfl, (b6.below hG).cell 2 _ rfl, (b6.below hG).cell 3 _ rfl, (b6.below hG).cell 4 _ rfl, (b6.below hG).cell 5 _ rfl⟩ (fun hHeld => ?_)
        clear hK K
        (try simp only [List.getElem_toArray, List.getElem_cons_succ, List.getElem_cons_zero, Act.put, List.setIfInBounds_toArray, List.set_cons_zero, List.set_cons_succ])
        have rb70 := b7.cell 0 _ rfl
        have qb70 := b7.frozen 0
        have rb71 := b7.cell 1 _ rfl
        have qb71 := b7.frozen 1
        have rb72 := b7.cell 2 _ rfl
        have qb72 := b7.frozen 2
        have rb80 := b8.cell 0 _ rfl
        have qb80 := b8.frozen 0
        have rb81 := b8.cell 1 _ rfl
        have qb81 := b8.frozen 1
        have rb82 := b8.cell 2 _ rfl
        have qb82 := b8.frozen 2
        refine wpAnyH_ready (rs := [7]) (by kernel_rfl) (by simp) (AllReadyH.cons (o := _) rfl (fun K hK => ?_) AllReadyH.nil)
        go_simp
        clear rb70 qb70
        clear rb71 qb71
        clear rb72 qb72
        clear rb80 qb80
        clear rb81 qb81
        clear rb82 qb82
        have hg := only_store3 y3_3 (y3_1.heap.size) (.bool s6) (.slice A5 n5 c5) (.slice D5 m5 e5)
        have hB := b7.stored3 (.bool s6) (.slice A5 n5 c5) (.slice D5 m5 e5)
        generalize hX : (((y3_3.setCell ⟨y3_1.heap.size, 0, none⟩ (.bool s6)).setCell ⟨y3_1.heap.size, 1, none⟩ (.slice A5 n5 c5)).setCell ⟨y3_1.heap.size, 2, none⟩ (.slice D5 m5 e5)) = Y3_4 at hg hB ⊢
        clear hX
        replace g6 := g6.kept b7 (by simp [notInt]) hg
        replace b8 := b8.other hg (by omega)
        replace b7 := hB
        replace hG := below_only hG hg (by omega) sG
        replace sG := hG.size
        clear hg hB
        refine hK.out _ _ ⟨(b6.below hG).cell 0 _ rfl, (b6.below hG).cell 1 _ rfl, (b6.below hG).cell 2 _ rfl, (b6.below hG).cell 3 _ rfl, (b6.below hG).cell 4 _ rfl, (b6.below hG).cell 5 _ rfl⟩ (fun hHeld => ?_)
        clear hK K
        (try simp only [List.getElem_toArray, List.getElem_cons_succ, List.getElem_cons_zero, Act.put, List.setIfInBounds_toArray, List.set_cons_zero, List.set_cons_succ])
        have rb70 := b7.cell 0 _ rfl
        have qb70 := b7.frozen 0
        have rb71 := b7.cell 1 _ rfl
        have qb71 := b7.frozen 1
        have rb72 := b7.cell 2 _ rfl
        have qb72 := b7.frozen 2
        have rb80 := b8.cell 0 _ rfl
        have qb80 := b8.frozen 0
        have rb81 := b8.cell 1 _ rfl
        have qb81 := b8.frozen 1
        have rb82 := b8.cell 2 _ rfl
        have qb82 := b8.frozen 2
        refine wpAnyH_ready (rs := [8]) (by kernel_rfl) (by simp) (AllReadyH.cons (o := _) rfl (fun K hK => ?_) AllReadyH.nil)
        go_simp
        clear rb70 qb70
        clear rb71 qb71
        clear rb72 qb72
        clear rb80 qb80
        clear rb81 qb81
        clear rb82 qb82
        have hg := only_store3 Y3_4 (y3_2.heap.size) (.bool s4) (.slice A4 n4 c4) (.slice D4 m4 e4)
        have hB := b8.stored3 (.bool s4) (.slice A4 n4 c4) (.slice D4 m4 e4)
        generalize hX : (((Y3_4.setCell ⟨y3_2.heap.size, 0, none⟩ (.bool s4)).setCell ⟨y3_2.heap.size, 1, none⟩ (.slice A4 n4 c4)).setCell ⟨y3_2.heap.size, 2, none⟩ (.slice D4 m4 e4)) = Y3_5 at hg hB ⊢
        clear hX
        replace g6 := g6.kept b8 (by simp [notInt]) hg
        replace b7 := b7.other hg (by omega)
        replace b8 := hB
        replace hG := below_only hG hg (by omega) sG
        replace sG := hG.size
        clear hg hB
        refine hK.out _ _ ⟨(b6.below hG).cell 0 _ rfl, (b6.below hG).cell 1 _ rfl, (b6.below hG).cell 2 _ rfl, (b6.below hG).cell 3 _ rfl, (b6.below hG).cell 4 _ rfl, (b6.below hG).cell 5 _ rfl⟩ (fun hHeld => ?_)
        clear hK K
        (try simp only [List.getElem_toArray, List.getElem_cons_succ, List.getElem_cons_zero, Act.put, List.setIfInBounds_toArray, List.set_cons_zero, List.set_cons_succ])
        refine wpAnyH_done (by kernel_rfl) ?_ _
        refine NoPanic.normal ?_
        go_wp2_with fail
        go_meet
        exact ⟨y3_1.heap.size, y3_2.heap.size, s6, rfl, rfl, g6.more (by omega), b7, b8, (by omega), (by omega), (by omega), hG⟩
      · go_simp
        obtain ⟨y3_6, hV, b8, hb9, szy3_6⟩ := boxes1 y3_1 #[.bool false, .slice none 0 0, .slice none 0 0] 49
        rw [hV]
        clear hV
        have gly3_6 : W2.heap.size ≤ y3_1.heap.size := sG
        replace szy3_6 : y3_1.heap.size < y3_6.heap.size := by omega
        replace g6 := g6.below hb9
        replace hG := hG.trans (hb9.mono sG)
        replace sG := hG.size
        clear hb9
        refine hK.out _ _ ⟨(b6.below hG).cell 0 _ rfl, (b6.below hG).cell 1 _ rfl, (b6.below hG).cell 2 _ rfl, (b6.below hG).cell 3 _ rfl, (b6.below hG).cell 4 _ rfl, (b6.below hG).cell 5 _ rfl⟩ (fun hHeld => ?_)
        clear hK K
        (try simp only [List.getElem_toArray, List.getElem_cons_succ, List.getElem_cons_zero, Act.put, List.setIfInBounds_toArray, List.set_cons_zero, List.set_cons_succ])
        refine wpAnyH_ready (rs := [5]) (by kernel_rfl) (by simp) (AllReadyH.cons (o := _) rfl (fun K hK => ?_) AllReadyH.nil)
        go_simp
        obtain ⟨y3_7, hV, b7, hb9, szy3_7⟩ := boxes1 y3_6 #[.bool false, .slice none 0 0, .slice none 0 0] 49
        rw [hV]
        clear hV
        have gly3_7 : W2.heap.size ≤ y3_6.heap.size := sG
        replace szy3_7 : y3_6.heap.size < y3_7.heap.size := by omega
        replace g6 := g6.below hb9
        replace b8 := b8.below hb9
        replace hG := hG.trans (hb9.mono sG)
        replace sG := hG.size
        clear hb9
        refine hK.out _ _ ⟨(b6.below hG).cell 0 _ rfl, (b6.below hG).cell 1 _ rfl, (b6.below hG).cell 2 _ rfl, (b6.below hG).cell 3 _ rfl, (b6.below hG).cell 4 _ rfl, (b6.below hG).cell 5 _ rfl⟩ (fun hHeld => ?_)
        clear hK K
        (try simp only [List.getElem_toArray, List.getElem_cons_succ, List.getElem_cons_zero, Act.put, List.setIfInBounds_toArray, List.set_cons_zero, List.set_cons_succ])
        have rb80 := b8.cell 0 _ rfl
        have qb80 := b8.frozen 0
        have rb81 := b8.cell 1 _ rfl
        have qb81 := b8.frozen 1
        have rb82 := b8.cell 2 _ rfl
        have qb82 := b8.frozen 2
        have rb70 := b7.cell 0 _ rfl
        have qb70 := b7.frozen 0
        have rb71 := b7.cell 1 _ rfl
        have qb71 := b7.frozen 1
        have rb72 := b7.cell 2 _ rfl
        have qb72 := b7.frozen 2
        refine wpAnyH_ready (rs := [7]) (by kernel_rfl) (by simp) (AllReadyH.cons (o := _) rfl (fun K hK => ?_) AllReadyH.nil)
        go_simp
        clear rb80 qb80
        clear rb81 qb81
        clear rb82 qb82
        clear rb70 qb70
        clear rb71 qb71
        clear rb72 qb72
        have hg := only_store3 y3_7 (y3_6.heap.size) (.bool s6) (.slice A5 n5 c5) (.slice D5 m5 e5)
        have hB := b7.stored3 (.bool s6) (.slice A5 n5 c5) (.slice D5 m5 e5)
        generalize hX : (((y3_7.setCell ⟨y3_6.heap.size, 0, none⟩ (.bool s6)).setCell ⟨y3_6.heap.size, 1, none⟩ (.slice A5 n5 c5)).setCell ⟨y3_6.heap.size, 2, none⟩ (.slice D5 m5 e5)) = Y3_8 at hg hB ⊢
        clear hX
        replace g6 := g6.kept b7 (by simp [notInt]) hg
        replace b8 := b8.other hg (by omega)
        replace b7 := hB
        replace hG := below_only hG hg (by omega) sG
        replace sG := hG.size
        clear hg hB
        refine hK.out _ _ ⟨(b6.below hG).cell 0 _ rfl, (b6.below hG).cell 1 _ rfl, (b6.below hG).cell 2 _ rfl, (b6.below hG).cell 3 _ rfl, (b6.below hG).cell 4 _ rfl, (b6.below hG).cell 5 _ rfl⟩ (fun hHeld => ?_)
        clear hK K
        (try simp only [List.getElem_toArray, List.getElem_cons_succ, List.getElem_cons_zero, Act.put, List.setIfInBounds_toArray, List.set_cons_zero, List.set_cons_succ])
        have rb80 := b8.cell 0 _ rfl
        have qb80 := b8.frozen 0
        have rb81 := b8.cell 1 _ rfl
        have qb81 := b8.frozen 1
        have rb82 := b8.cell 2 _ rfl
        have qb82 := b8.frozen 2
        have rb70 := b7.cell 0 _ rfl
        have qb70 := b7.frozen 0
        have rb71 := b7.cell 1 _ rfl
        have qb71 := b7.frozen 1
        have rb72 := b7.cell 2 _ rfl
        have qb72 := b7.frozen 2
        refine wpAnyH_ready (rs := [8]) (by kernel_rfl) (by simp) (AllReadyH.cons (o := _) rfl (fun K hK => ?_) AllReadyH.nil)
        go_simp
        clear rb80 qb80
        clear rb81 qb81
        clear rb82 qb82
        clear rb70 qb70
        clear rb71 qb71
        clear rb72 qb72
        have hg := only_store3 Y3_8 (y3_1.heap.size) (.bool s4) (.slice A4 n4 c4) (.slice D4 m4 e4)
        have hB := b8.stored3 (.bool s4) (.slice A4 n4 c4) (.slice D4 m4 e4)
        generalize hX : (((Y3_8.setCell ⟨y3_1.heap.size, 0, none⟩ (.bool s4)).setCell ⟨y3_1.heap.size, 1, none⟩ (.slice A4 n4 c4)).setCell ⟨y3_1.heap.size, 2, none⟩ (.slice D4 m4 e4)) = Y3_9 at hg hB ⊢
        clear hX
        replace g6 := g6.kept b8 (by simp [notInt]) hg
        replace b7 := b7.other hg (by omega)
        replace b8 := hB
        replace hG := below_only hG hg (by omega) sG
        replace sG := hG.size
        clear hg hB
        refine hK.out _ _ ⟨(b6.below hG).cell 0 _ rfl, (b6.below hG).cell 1 _ rfl, (b6.below hG).cell 2 _ rfl, (b6.below hG).cell 3 _ rfl, (b6.below hG).cell 4 _ rfl, (b6.below hG).cell 5 _ rfl⟩ (fun hHeld => ?_)
        clear hK K
        (try simp only [List.getElem_toArray, List.getElem_cons_succ, List.getElem_cons_zero, Act.put, List.setIfInBounds_toArray, List.set_cons_zero, List.set_cons_succ])
        refine wpAnyH_done (by kernel_rfl) ?_ _
        refine NoPanic.normal ?_
        go_wp2_with fail
        go_meet
        exact ⟨y3_6.heap.size, y3_1.heap.size, s6, rfl, rfl, g6.more (by omega), b7, b8, (by omega), (by omega), (by omega), hG⟩
    · go_simp
      obtain ⟨y3_10, hV, b7, hb9, szy3_10⟩ := boxes1 v3 #[.bool false, .slice none 0 0, .slice none 0 0] 49
      rw [hV]
      clear hV
      have gly3_10 : W2.heap.size ≤ v3.heap.size := sG
      replace szy3_10 : v3.heap.size < y3_10.heap.size := by omega
      replace hG := hG.trans (hb9.mono sG)
      replace sG := hG.size
      clear hb9
      refine hK.out _ _ ⟨(b6.below hG).cell 0 _ rfl, (b6.below hG).cell 1 _ rfl, (b6.below hG).cell 2 _ rfl, (b6.below hG).cell 3 _ rfl, (b6.below hG).cell 4 _ rfl, (b6.below hG).cell 5 _ rfl⟩ (fun hHeld => ?_)
      clear hK K
      (try simp only [List.getElem_toArray, List.getElem_cons_succ, List.getElem_cons_zero, Act.put, List.setIfInBounds_toArray, List.set_cons_zero, List.set_cons_succ])
      refine wpAnyH_ready (rs := [2, 6]) (by kernel_rfl) (by simp) (AllReadyH.cons (o := _) rfl (fun K hK => ?_) (AllReadyH.cons (o := _) rfl (fun K hK => ?_) AllReadyH.nil))
      · go_simp
        go_at_call 35
        refine (nopp_v (g5.below hG)).mono ?_
        rintro e y3_11 ⟨s6, rfl, g6, hb9⟩
        have szy3_11 := hb9.size
        replace b7 := b7.below hb9
        replace hG := hG.trans (hb9.mono sG)
        replace sG := hG.size
        clear hb9
        go_wp2_with fail
        refine hK.out _ _ ⟨(b6.below hG).cell 0 _ rfl, (b6.below hG).cell 1 _ rfl, (b6.below hG).cell 2 _ rfl, (b6.below hG).cell 3 _ rfl, (b6.below hG).cell 4 _ rfl, (b6.below hG).cell 5 _ rfl⟩ (fun hHeld => ?_)
        clear hK K
        (try simp only [List.getElem_toArray, List.getElem_cons_succ, List.getElem_cons_zero, Act.put, List.setIfInBounds_toArray, List.set_cons_zero, List.set_cons_succ])
        refine wpAnyH_ready (rs := [6]) (by kernel_rfl) (by simp) (AllReadyH.cons (o := _) rfl (fun K hK => ?_) AllReadyH.nil)
        go_simp
        obtain ⟨y3_12, hV, b8, hb9, szy3_12⟩ := boxes1 y3_11 #[.bool false, .slice none 0 0, .slice none 0 0] 49
        rw [hV]
        clear hV
        have gly3_12 : W2.heap.size ≤ y3_11.heap.size := sG
        replace szy3_12 : y3_11.heap.size < y3_12.heap.size := by omega
        replace g6 := g6.below hb9
        replace b7 := b7.below hb9
        replace hG := hG.trans (hb9.mono sG)
        replace sG := hG.size
        clear hb9
        refine hK.out _ _ ⟨(b6.below hG).cell 0 _ rfl, (b6.below hG).cell 1 _ rfl, (b6.below hG).cell 2 _ rfl, (b6.below hG).cell 3 _ rfl, (b6.below hG).cell 4 _ rfl, (b6.below hG).cell 5 _ rfl⟩ (fun hHeld => ?_)
        clear hK K
        (try simp only [List.getElem_toArray, List.getElem_cons_succ, List.getElem_cons_zero, Act.put, List.setIfInBounds_toArray, List.set_cons_zero, List.set_cons_succ])
        have rb70 := b7.cell 0 _ rfl
        have qb70 := b7.frozen 0
        have rb71 := b7.cell 1 _ rfl
        have qb71 := b7.frozen 1
        have rb72 := b7.cell 2 _ rfl
        have qb72 := b7.frozen 2
        have rb80 := b8.cell 0 _ rfl
        have qb80 := b8.frozen 0
        have rb81 := b8.cell 1 _ rfl
        have qb81 := b8.frozen 1
        have rb82 := b8.cell 2 _ rfl
        have qb82 := b8.frozen 2
        refine wpAnyH_ready (rs := [7]) (by kernel_rfl) (by simp) (AllReadyH.cons (o := _) rfl (fun K hK => ?_) AllReadyH.nil)
        go_simp
        clear rb70 qb70
        clear rb71 qb71
        clear rb72 qb72
        clear rb80 qb80
        clear rb81 qb81
        clear rb82 qb82
        have hg := only_store3 y3_12 (v3.heap.size) (.bool s6) (.slice A5 n5 c5) (.slice D5 m5 e5)
        have hB := b7.stored3 (.bool s6) (.slice A5 n5 c5) (.slice D5 m5 e5)
        generalize hX : (((y3_12.setCell ⟨v3.heap.size, 0, none⟩ (.bool s6)).setCell ⟨v3.heap.size, 1, none⟩ (.slice A5 n5 c5)).setCell ⟨v3.heap.size, 2, none⟩ (.slice D5 m5 e5)) = Y3_13 at hg hB ⊢
        clear hX
        replace g6 := g6.kept b7 (by simp [notInt]) hg
        replace b8 := b8.other hg (by omega)
        replace b7 := hB
        replace hG := below_only hG hg (by omega) sG
        replace sG := hG.size
        clear hg hB
        refine hK.out _ _ ⟨(b6.below hG).cell 0 _ rfl, (b6.below hG).cell 1 _ rfl, (b6.below hG).cell 2 _ rfl, (b6.below hG).cell 3 _ rfl, (b6.below hG).cell 4 _ rfl, (b6.below hG).cell 5 _ rfl⟩ (fun hHeld => ?_)
        clear hK K
        (try simp only [List.getElem_toArray, List.getElem_cons_succ, List.getElem_cons_zero, Act.put, List.setIfInBounds_toArray, List.set_cons_zero, List.set_cons_succ])
        have rb70 := b7.cell 0 _ rfl
        have qb70 := b7.frozen 0
        have rb71 := b7.cell 1 _ rfl
        have qb71 := b7.frozen 1
        have rb72 := b7.cell 2 _ rfl
        have qb72 := b7.frozen 2
        have rb80 := b8.cell 0 _ rfl
        have qb80 := b8.frozen 0
        have rb81 := b8.cell 1 _ rfl
        have qb81 := b8.frozen 1
        have rb82 := b8.cell 2 _ rfl
        have qb82 := b8.frozen 2
        refine wpAnyH_ready (rs := [8]) (by kernel_rfl) (by simp) (AllReadyH.cons (o := _) rfl (fun K hK => ?_) AllReadyH.nil)
        go_simp
        clear rb70 qb70
        clear rb71 qb71
        clear rb72 qb72
        clear rb80 qb80
        clear rb81 qb81
        clear rb82 qb82
        have hg := only_store3 Y3_13 (y3_11.heap.size) (.bool s4) (.slice A4 n4 c4) (.slice D4 m4 e4)
        have hB := b8.stored3 (.bool s4) (.slice A4 n4 c4) (.slice D4 m4 e4)
        generalize hX : (((Y3_13.setCell ⟨y3_11.heap.size, 0, none⟩ (.bool s4)).setCell ⟨y3_11.heap.size, 1, none⟩ (.slice A4 n4 c4)).setCell ⟨y3_11.heap.size, 2, none⟩ (.slice D4 m4 e4)) = Y3_14 at hg hB ⊢
        clear hX
        replace g6 := g6.kept b8 (by simp [notInt]) hg
        replace b7 := b7.other hg (by omega)
        replace b8 := hB
        replace hG := below_only hG hg (by omega) sG
        replace sG := hG.size
        clear hg hB
        refine hK.out _ _ ⟨(b6.below hG).cell 0 _ rfl, (b6.below hG).cell 1 _ rfl, (b6.below hG).cell 2 _ rfl, (b6.below hG).cell 3 _ rfl, (b6.below hG).cell 4 _ rfl, (b6.below hG).cell 5 _ rfl⟩ (fun hHeld => ?_)
        clear hK K
        (try simp only [List.getElem_toArray, List.getElem_cons_succ, List.getElem_cons_zero, Act.put, List.setIfInBounds_toArray, List.set_cons_zero, List.set_cons_succ])
        refine wpAnyH_done (by kernel_rfl) ?_ _
        refine NoPanic.normal ?_
        go_wp2_with fail
        go_meet
        exact ⟨v3.heap.size, y3_11.heap.size, s6, rfl, rfl, g6.more (by omega), b7, b8, (by omega), (by omega), (by omega), hG⟩
      · go_simp
        obtain ⟨y3_15, hV, b8, hb9, szy3_15⟩ := boxes1 y3_10 #[.bool false, .slice none 0 0, .slice none 0 0] 49
        rw [hV]
        clear hV
        have gly3_15 : W2.heap.size ≤ y3_10.heap.size := sG
        replace szy3_15 : y3_10.heap.size < y3_15.heap.size := by omega
        replace b7 := b7.below hb9
        replace hG := hG.trans (hb9.mono sG)
        replace sG := hG.size
        clear hb9
        refine hK.out _ _ ⟨(b6.below hG).cell 0 _ rfl, (b6.below hG).cell 1 _ rfl, (b6.below hG).cell 2 _ rfl, (b6.below hG).cell 3 _ rfl, (b6.below hG).cell 4 _ rfl, (b6.below hG).cell 5 _ rfl⟩ (fun hHeld => ?_)
        clear hK K
        (try simp only [List.getElem_toArray, List.getElem_cons_succ, List.getElem_cons_zero, Act.put, List.setIfInBounds_toArray, List.set_cons_zero, List.set_cons_succ])
        refine wpAnyH_ready (rs := [2]) (by kernel_rfl) (by simp) (AllReadyH.cons (o := _) rfl (fun K hK => ?_) AllReadyH.nil)
        go_simp
        go_at_call 35
        refine (nopp_v (g5.below hG)).mono ?_
        rintro e y3_16 ⟨s6, rfl, g6, hb9⟩
        have szy3_16 := hb9.size
        replace b7 := b7.below hb9
        replace b8 := b8.below hb9
        replace hG := hG.trans (hb9.mono sG)
        replace sG := hG.size
        clear hb9
        go_wp2_with fail
        refine hK.out _ _ ⟨(b6.below hG).cell 0 _ rfl, (b6.below hG).cell 1 _ rfl, (b6.below hG).cell 2 _ rfl, (b6.below hG).cell 3 _ rfl, (b6.below hG).cell 4 _ rfl, (b6.below hG).cell 5 _ rfl⟩ (fun hHeld => ?_)
        clear hK K
        (try simp only [List.getElem_toArray, List.getElem_cons_succ, List.getElem_cons_zero, Act.put, List.setIfInBounds_toArray, List.set_cons_zero, List.set_cons_succ])
        have rb70 := b7.cell 0 _ rfl
        have qb70 := b7.frozen 0
        have rb71 := b7.cell 1 _ rfl
        have qb71 := b7.frozen 1
        have rb72 := b7.cell 2 _ rfl
        have qb72 := b7.frozen 2
        have rb80 := b8.cell 0 _ rfl
        have qb80 := b8.frozen 0
        have rb81 := b8.cell 1 _ rfl
        have qb81 := b8.frozen 1
        have rb82 := b8.cell 2 _ rfl
        have qb82 := b8.frozen 2
        refine wpAnyH_ready (rs := [7]) (by kernel_rfl) (by simp) (AllReadyH.cons (o := _) rfl (fun K hK => ?_) AllReadyH.nil)
        go_simp
        clear rb70 qb70
        clear rb71 qb71
        clear rb72 qb72
        clear rb80 qb80
        clear rb81 qb81
        clear rb82 qb82
        have hg := only_store3 y3_16 (v3.heap.size) (.bool s6) (.slice A5 n5 c5) (.slice D5 m5 e5)
        have hB := b7.stored3 (.bool s6) (.slice A5 n5 c5) (.slice D5 m5 e5)
        generalize hX : (((y3_16.setCell ⟨v3.heap.size, 0, none⟩ (.bool s6)).setCell ⟨v3.heap.size, 1, none⟩ (.slice A5 n5 c5)).setCell ⟨v3.heap.size, 2, none⟩ (.slice D5 m5 e5)) = Y3_17 at hg hB ⊢
        clear hX
        replace g6 := g6.kept b7 (by simp [notInt]) hg
        replace b8 := b8.other hg (by omega)
        replace b7 := hB
        replace hG := below_only hG hg (by omega) sG
        replace sG := hG.size
        clear hg hB
        refine hK.out _ _ ⟨(b6.below hG).cell 0 _ rfl, (b6.below hG).cell 1 _ rfl, (b6.below hG).cell 2 _ rfl, (b6.below hG).cell 3 _ rfl, (b6.below hG).cell 4 _ rfl, (b6.below hG).cell 5 _ rfl⟩ (fun hHeld => ?_)
        clear hK K
        (try simp only [List.getElem_toArray, List.getElem_cons_succ, List.getElem_cons_zero, Act.put, List.setIfInBounds_toArray, List.set_cons_zero, List.set_cons_succ])
        have rb70 := b7.cell 0 _ rfl
        have qb70 := b7.frozen 0
        have rb71 := b7.cell 1 _ rfl
        have qb71 := b7.frozen 1
        have rb72 := b7.cell 2 _ rfl
        have qb72 := b7.frozen 2
        have rb80 := b8.cell 0 _ rfl
        have qb80 := b8.frozen 0
        have rb81 := b8.cell 1 _ rfl
        have qb81 := b8.frozen 1
        have rb82 := b8.cell 2 _ rfl
        have qb82 := b8.frozen 2
        refine wpAnyH_ready (rs := [8]) (by kernel_rfl) (by simp) (AllReadyH.cons (o := _) rfl (fun K hK => ?_) AllReadyH.nil)
        go_simp
        clear rb70 qb70
        clear rb71 qb71
        clear rb72 qb72
        clear rb80 qb80
        clear rb81 qb81
        clear rb82 qb82
        have hg := only_store3 Y3_17 (y3_10.heap.size) (.bool s4) (.slice A4 n4 c4) (.slice D4 m4 e4)
        have hB := b8.stored3 (.bool s4) (.slice A4 n4 c4) (.slice D4 m4 e4)
        generalize hX : (((Y3_17.setCell ⟨y3_10.heap.size, 0, none⟩ (.bool s4)).setCell ⟨y3_10.heap.size, 1, none⟩ (.slice A4 n4 c4)).setCell ⟨y3_10.heap.size, 2, none⟩ (.slice D4 m4 e4)) = Y3_18 at hg hB ⊢
        clear hX
        replace g6 := g6.kept b8 (by simp [notInt]) hg
        replace b7 := b7.other hg (by omega)
        replace b8 := hB
        replace hG := below_only hG hg (by omega) sG
        replace sG := hG.size
        clear hg hB
        refine hK.out _ _ ⟨(b6.below hG).cell 0 _ rfl, (b6.below hG).cell 1 _ rfl, (b6.below hG).cell 2 _ rfl, (b6.below hG).cell 3 _ rfl, (b6.below hG).cell 4 _ rfl, (b6.below hG).cell 5 _ rfl⟩ (fun hHeld => ?_)
        clear hK K
        (try simp only [List.getElem_toArray, List.getElem_cons_succ, List.getElem_cons_zero, Act.put, List.setIfInBounds_toArray, List.set_cons_zero, List.set_cons_succ])
        refine wpAnyH_done (by kernel_rfl) ?_ _
        refine NoPanic.normal ?_
        go_wp2_with fail
        go_meet
        exact ⟨v3.heap.size, y3_10.heap.size, s6, rfl, rfl, g6.more (by omega), b7, b8, (by omega), (by omega), (by omega), hG⟩
    · go_simp
      obtain ⟨y3_19, hV, b8, hb9, szy3_19⟩ := boxes1 v3 #[.bool false, .slice none 0 0, .slice none 0 0] 49
      rw [hV]
      clear hV
      have gly3_19 : W2.heap.size ≤ v3.heap.size := sG
      replace szy3_19 : v3.heap.size < y3_19.heap.size := by omega
      replace hG := hG.trans (hb9.mono sG)
      replace sG := hG.size
      clear hb9
      refine hK.out _ _ ⟨(b6.below hG).cell 0 _ rfl, (b6.below hG).cell 1 _ rfl, (b6.below hG).cell 2 _ rfl, (b6.below hG).cell 3 _ rfl, (b6.below hG).cell 4 _ rfl, (b6.below hG).cell 5 _ rfl⟩ (fun hHeld => ?_)
      clear hK K
      (try simp only [List.getElem_toArray, List.getElem_cons_succ, List.getElem_cons_zero, Act.put, List.setIfInBounds_toArray, List.set_cons_zero, List.set_cons_succ])
      refine wpAnyH_ready (rs := [2, 5]) (by kernel_rfl) (by simp) (AllReadyH.cons (o := _) rfl (fun K hK => ?_) (AllReadyH.cons (o := _) rfl (fun K hK => ?_) AllReadyH.nil))
      · go_simp
        go_at_call 35
        refine (nopp_v (g5.below hG)).mono ?_
        rintro e y3_20 ⟨s6, rfl, g6, hb9⟩
        have szy3_20 := hb9.size
        replace b8 := b8.below hb9
        replace hG := hG.trans (hb9.mono sG)
        replace sG := hG.size
        clear hb9
        go_wp2_with fail
        refine hK.out _ _ ⟨(b6.below hG).cell 0 _ rfl, (b6.below hG).cell 1 _ rfl, (b6.below hG).cell 2 _ rfl, (b6.below hG).cell 3 _ rfl, (b6.below hG).cell 4 _ rfl, (b6.below hG).cell 5 _ rfl⟩ (fun hHeld => ?_)
        clear hK K
        (try simp only [List.getElem_toArray, List.getElem_cons_succ, List.getElem_cons_zero, Act.put, List.setIfInBounds_toArray, List.set_cons_zero, List.set_cons_succ])
        refine wpAnyH_ready (rs := [5]) (by kernel_rfl) (by simp) (AllReadyH.cons (o := _) rfl (fun K hK => ?_) AllReadyH.nil)
        go_simp
        obtain ⟨y3_21, hV, b7, hb9, szy3_21⟩ := boxes1 y3_20 #[.bool false, .slice none 0 0, .slice none 0 0] 49
        rw [hV]
        clear hV
        have gly3_21 : W2.heap.size ≤ y3_20.heap.size := sG
        replace szy3_21 : y3_20.heap.size < y3_21.heap.size := by omega
        replace g6 := g6.below hb9
        replace b8 := b8.below hb9
        replace hG := hG.trans (hb9.mono sG)
        replace sG := hG.size
        clear hb9
        refine hK.out _ _ ⟨(b6.below hG).cell 0 _ rfl, (b6.below hG).cell 1 _ rfl, (b6.below hG).cell 2 _ rfl, (b6.below hG).cell 3 _ rfl, (b6.below hG).cell 4 _ rfl, (b6.below hG).cell 5 _ rfl⟩ (fun hHeld => ?_)
        clear hK K
        (try simp only [List.getElem_toArray, List.getElem_cons_succ, List.getElem_cons_zero, Act.put, List.setIfInBounds_toArray, List.set_cons_zero, List.set_cons_succ])
        have rb80 := b8.cell 0 _ rfl
        have qb80 := b8.frozen 0
        have rb81 := b8.cell 1 _ rfl
        have qb81 := b8.frozen 1
        have rb82 := b8.cell 2 _ rfl
        have qb82 := b8.frozen 2
        have rb70 := b7.cell 0 _ rfl
        have qb70 := b7.frozen 0
        have rb71 := b7.cell 1 _ rfl
        have qb71 := b7.frozen 1
        have rb72 := b7.cell 2 _ rfl
        have qb72 := b7.frozen 2
        refine wpAnyH_ready (rs := [7]) (by kernel_rfl) (by simp) (AllReadyH.cons (o := _) rfl (fun K hK => ?_) AllReadyH.nil)
        go_simp
        clear rb80 qb80
        clear rb81 qb81
        clear rb82 qb82
        clear rb70 qb70
        clear rb71 qb71
        clear rb72 qb72
        have hg := only_store3 y3_21 (y3_20.heap.size) (.bool s6) (.slice A5 n5 c5) (.slice D5 m5 e5)
        have hB := b7.stored3 (.bool s6) (.slice A5 n5 c5) (.slice D5 m5 e5)
        generalize hX : (((y3_21.setCell ⟨y3_20.heap.size, 0, none⟩ (.bool s6)).setCell ⟨y3_20.heap.size, 1, none⟩ (.slice A5 n5 c5)).setCell ⟨y3_20.heap.size, 2, none⟩ (.slice D5 m5 e5)) = Y3_22 at hg hB ⊢
        clear hX
        replace g6 := g6.kept b7 (by simp [notInt]) hg
        replace b8 := b8.other hg (by omega)
        replace b7 := hB
        replace hG := below_only hG hg (by omega) sG
        replace sG := hG.size
        clear hg hB
        refine hK.out _ _ ⟨(b6.below hG).cell 0 _ rfl, (b6.below hG).cell 1 _ rfl, (b6.below hG).cell 2 _ rfl, (b6.below hG).cell 3 _ rfl, (b6.below hG).cell 4 _ rfl, (b6.below hG).cell 5 _ rfl⟩ (fun hHeld => ?_)
        clear hK K
        (try simp only [List.getElem_toArray, List.getElem_cons_succ, List.getElem_cons_zero, Act.put, List.setIfInBounds_toArray, List.set_cons_zero, List.set_cons_succ])
        have rb80 := b8.cell 0 _ rfl
        have qb80 := b8.frozen 0
        have rb81 := b8.cell 1 _ rfl
        have qb81 := b8.frozen 1
        have rb82 := b8.cell 2 _ rfl
        have qb82 := b8.frozen 2
        have rb70 := b7.cell 0 _ rfl
        have qb70 := b7.frozen 0
        have rb71 := b7.cell 1 _ rfl
        have qb71 := b7.frozen 1
        have rb72 := b7.cell 2 _ rfl
        have qb72 := b7.frozen 2
        refine wpAnyH_ready (rs := [8]) (by kernel_rfl) (by simp) (AllReadyH.cons (o := _) rfl (fun K hK => ?_) AllReadyH.nil)
        go_simp
        clear rb80 qb80
        clear rb81 qb81
        clear rb82 qb82
        clear rb70 qb70
        clear rb71 qb71
        clear rb72 qb72
        have hg := only_store3 Y3_22 (v3.heap.size) (.bool s4) (.slice A4 n4 c4) (.slice D4 m4 e4)
        have hB := b8.stored3 (.bool s4) (.slice A4 n4 c4) (.slice D4 m4 e4)
        generalize hX : (((Y3_22.setCell ⟨v3.heap.size, 0, none⟩ (.bool s4)).setCell ⟨v3.heap.size, 1, none⟩ (.slice A4 n4 c4)).setCell ⟨v3.heap.size, 2, none⟩ (.slice D4 m4 e4)) = Y3_23 at hg hB ⊢
        clear hX
        replace g6 := g6.kept b8 (by simp [notInt]) hg
        replace b7 := b7.other hg (by omega)
        replace b8 := hB
        replace hG := below_only hG hg (by omega) sG
        replace sG := hG.size
        clear hg hB
        refine hK.out _ _ ⟨(b6.below hG).cell 0 _ rfl, (b6.below hG).cell 1 _ rfl, (b6.below hG).cell 2 _ rfl, (b6.below hG).cell 3 _ rfl, (b6.below hG).cell 4 _ rfl, (b6.below hG).cell 5 _ rfl⟩ (fun hHeld => ?_)
        clear hK K
        (try simp only [List.getElem_toArray, List.getElem_cons_succ, List.getElem_cons_zero, Act.put, List.setIfInBounds_toArray, List.set_cons_zero, List.set_cons_succ])
        refine wpAnyH_done (by kernel_rfl) ?_ _
        refine NoPanic.normal ?_
        go_wp2_with fail
        go_meet
        exact ⟨y3_20.heap.size, v3.heap.size, s6, rfl, rfl, g6.more (by omega), b7, b8, (by omega), (by omega), (by omega), hG⟩
      · go_simp
        obtain ⟨y3_24, hV, b7, hb9, szy3_24⟩ := boxes1 y3_19 #[.bool false, .slice none 0 0, .slice none 0 0] 49
        rw [hV]
        clear hV
        have gly3_24 : W2.heap.size ≤ y3_19.heap.size := sG
        replace szy3_24 : y3_19.heap.size < y3_24.heap.size := by omega
        replace b8 := b8.below hb9
        replace hG := hG.trans (hb9.mono sG)
        replace sG := hG.size
        clear hb9
        refine hK.out _ _ ⟨(b6.below hG).cell 0 _ rfl, (b6.below hG).cell 1 _ rfl, (b6.below hG).cell 2 _ rfl, (b6.below hG).cell 3 _ rfl, (b6.below hG).cell 4 _ rfl, (b6.below hG).cell 5 _ rfl⟩ (fun hHeld => ?_)
        clear hK K
        (try simp only [List.getElem_toArray, List.getElem_cons_succ, List.getElem_cons_zero, Act.put, List.setIfInBounds_toArray, List.set_cons_zero, List.set_cons_succ])
        refine wpAnyH_ready (rs := [2]) (by kernel_rfl) (by simp) (AllReadyH.cons (o := _) rfl (fun K hK => ?_) AllReadyH.nil)
        go_simp
        go_at_call 35
        refine (nopp_v (g5.below hG)).mono ?_
        rintro e y3_25 ⟨s6, rfl, g6, hb9⟩
        have szy3_25 := hb9.size
        replace b8 := b8.below hb9
        replace b7 := b7.below hb9
        replace hG := hG.trans (hb9.mono sG)
        replace sG := hG.size
        clear hb9
        go_wp2_with fail
        refine hK.out _ _ ⟨(b6.below hG).cell 0 _ rfl, (b6.below hG).cell 1 _ rfl, (b6.below hG).cell 2 _ rfl, (b6.below hG).cell 3 _ rfl, (b6.below hG).cell 4 _ rfl, (b6.below hG).cell 5 _ rfl⟩ (fun hHeld => ?_)
        clear hK K
        (try simp only [List.getElem_toArray, List.getElem_cons_succ, List.getElem_cons_zero, Act.put, List.setIfInBounds_toArray, List.set_cons_zero, List.set_cons_succ])
        have rb80 := b8.cell 0 _ rfl
        have qb80 := b8.frozen 0
        have rb81 := b8.cell 1 _ rfl
        have qb81 := b8.frozen 1
        have rb82 := b8.cell 2 _ rfl
        have qb82 := b8.frozen 2
        have rb70 := b7.cell 0 _ rfl
        have qb70 := b7.frozen 0
        have rb71 := b7.cell 1 _ rfl
        have qb71 := b7.frozen 1
        have rb72 := b7.cell 2 _ rfl
        have qb72 := b7.frozen 2
        refine wpAnyH_ready (rs := [7]) (by kernel_rfl) (by simp) (AllReadyH.cons (o := _) rfl (fun K hK => ?_) AllReadyH.nil)
        go_simp
        clear rb80 qb80
        clear rb81 qb81
        clear rb82 qb82
        clear rb70 qb70
        clear rb71 qb71
        clear rb72 qb72
        have hg := only_store3 y3_25 (y3_19.heap.size) (.bool s6) (.slice A5 n5 c5) (.slice D5 m5 e5)
        have hB := b7.stored3 (.bool s6) (.slice A5 n5 c5) (.slice D5 m5 e5)
        generalize hX : (((y3_25.setCell ⟨y3_19.heap.size, 0, none⟩ (.bool s6)).setCell ⟨y3_19.heap.size, 1, none⟩ (.slice A5 n5 c5)).setCell ⟨y3_19.heap.size, 2, none⟩ (.slice D5 m5 e5)) = Y3_26 at hg hB ⊢
        clear hX
        replace g6 := g6.kept b7 (by simp [notInt]) hg
        replace b8 := b8.other hg (by omega)
        replace b7 := hB
        replace hG := below_only hG hg (by omega) sG
        replace sG := hG.size
        clear hg hB
        refine hK.out _ _ ⟨(b6.below hG).cell 0 _ rfl, (b6.below hG).cell 1 _ rfl, (b6.below hG).cell 2 _ rfl, (b6.below hG).cell 3 _ rfl, (b6.below hG).cell 4 _ rfl, (b6.below hG).cell 5 _ rfl⟩ (fun hHeld => ?_)
        clear hK K
        (try simp only [List.getElem_toArray, List.getElem_cons_succ, List.getElem_cons_zero, Act.put, List.setIfInBounds_toArray, List.set_cons_zero, List.set_cons_succ])
        have rb80 := b8.cell 0 _ rfl
        have qb80 := b8.frozen 0
        have rb81 := b8.cell 1 _ rfl
        have qb81 := b8.frozen 1
        have rb82 := b8.cell 2 _ rfl
        have qb82 := b8.frozen 2
        have rb70 := b7.cell 0 _ rfl
        have qb70 := b7.frozen 0
        have rb71 := b7.cell 1 _ rfl
        have qb71 := b7.frozen 1
        have rb72 := b7.cell 2 _ rfl
        have qb72 := b7.frozen 2
        refine wpAnyH_ready (rs := [8]) (by kernel_rfl) (by simp) (AllReadyH.cons (o := _) rfl (fun K hK => ?_) AllReadyH.nil)
        go_simp
        clear rb80 qb80
        clear rb81 qb81
        clear rb82 qb82
        clear rb70 qb70
        clear rb71 qb71
        clear rb72 qb72
        have hg := only_store3 Y3_26 (v3.heap.size) (.bool s4) (.slice A4 n4 c4) (.slice D4 m4 e4)
        have hB := b8.stored3 (.bool s4) (.slice A4 n4 c4) (.slice D4 m4 e4)
        generalize hX : (((Y3_26.setCell ⟨v3.heap.size, 0, none⟩ (.bool s4)).setCell ⟨v3.heap.size, 1, none⟩ (.slice A4 n4 c4)).setCell ⟨v3.heap.size, 2, none⟩ (.slice D4 m4 e4)) = Y3_27 at hg hB ⊢
        clear hX
        replace g6 := g6.kept b8 (by simp [notInt]) hg
        replace b7 := b7.other hg (by omega)
        replace b8 := hB
        replace hG := below_only hG hg (by omega) sG
        replace sG := hG.size
        clear hg hB
        refine hK.out _ _ ⟨(b6.below hG).cell 0 _ rfl, (b6.below hG).cell 1 _ rfl, (b6.below hG).cell 2 _ rfl, (b6.below hG).cell 3 _ rfl, (b6.below hG).cell 4 _ rfl, (b6.below hG).cell 5 _ rfl⟩ (fun hHeld => ?_)
        clear hK K
        (try simp only [List.getElem_toArray, List.getElem_cons_succ, List.getElem_cons_zero, Act.put, List.setIfInBounds_toArray, List.set_cons_zero, List.set_cons_succ])
        refine wpAnyH_done (by kernel_rfl) ?_ _
        refine NoPanic.normal ?_
        go_wp2_with fail
        go_meet
        exact ⟨y3_19.heap.size, v3.heap.size, s6, rfl, rfl, g6.more (by omega), b7, b8, (by omega), (by omega), (by omega), hG⟩
  obtain ⟨g3_0, g3_1, s6, rfl, rfl, g6, b7, b8, glg3_0, glg3_1, gn3, hG⟩ := hcut
  replace h := h.below hG
  replace h' := h'.below hG
  replace k := k.below hG
  replace k' := k'.below hG
  replace g4 := g4.below hG
  replace g5 := g5.below hG
  replace b0 := b0.below hG
  replace b1 := b1.below hG
  replace b9 := b9.below hG
  replace b6 := b6.below hG
  replace H0 := H0.trans (hG.mono H0.size)
  clear hG
  obtain ⟨qa, hqa⟩ : ∃ q, -(q3 - q1) = q := ⟨_, rfl⟩
  obtain ⟨qb, hqb⟩ : ∃ q, q2 - q0 = q := ⟨_, rfl⟩
  rw [hqa] at g6
  rw [hqb] at g4
  have HQA := Lib.hid hqa
  have HQB := Lib.hid hqb
  clear hqa hqb
  clear b6
  clear g5
  go_wp2_with fail
  have lcb0_5 := b0.lt
  have lcb1_5 := b1.lt
  have lcb9_5 := b9.lt
  have lcb7_5 := b7.lt
  have lcb8_5 := b8.lt
  go_cut [9] from 10 (fun u5_0 wx => ∃ g5_0 s10 A9 n9 c9 D9 m9 e9, u5_0 = .pointer (some ⟨g5_0, 0, none⟩) ∧ PQ wx s10 (.slice A9 n9 c9) (.slice D9 m9 e9) (-(qa * q0 + qb * q1)) 59 ∧ Box wx g5_0 #[.bool s10, .slice A9 n9 c9, .slice D9 m9 e9] 49 ∧ wc.heap.size ≤ g5_0 ∧ Below wc.heap.size wc wx)
  case first =>
    have hG := drawn_below wc
    refine wp_region_noPanic ?_
    refine wp_region_held_drew (S := (fun V => V.cell? ⟨g3_0, 0, none⟩ = some (.bool s6) ∧ V.cell? ⟨g3_0, 1, none⟩ = some (.slice A5 n5 c5) ∧ V.cell? ⟨g3_0, 2, none⟩ = some (.slice D5 m5 e5) ∧ V.cell? ⟨w.heap.size, 0, none⟩ = some (.bool s0) ∧ V.cell? ⟨w.heap.size, 1, none⟩ = some (.slice A0 n0 c0) ∧ V.cell? ⟨w.heap.size, 2, none⟩ = some (.slice D0 m0 e0) ∧ V.cell? ⟨w.heap.size, 3, none⟩ = some (.bool s1) ∧ V.cell? ⟨w.heap.size, 4, none⟩ = some (.slice A1 n1 c1) ∧ V.cell? ⟨w.heap.size, 5, none⟩ = some (.slice D1 m1 e1) ∧ V.cell? ⟨g3_1, 0, none⟩ = some (.bool s4) ∧ V.cell? ⟨g3_1, 1, none⟩ = some (.slice A4 n4 c4) ∧ V.cell? ⟨g3_1, 2, none⟩ = some (.slice D4 m4 e4))) (by kernel_rfl) ⟨(b7.below hG).cell 0 _ rfl, (b7.below hG).cell 1 _ rfl, (b7.below hG).cell 2 _ rfl, (b0.below hG).cell 0 _ rfl, (b0.below hG).cell 1 _ rfl, (b0.below hG).cell 2 _ rfl, (b0.below hG).cell 3 _ rfl, (b0.below hG).cell 4 _ rfl, (b0.below hG).cell 5 _ rfl, (b8.below hG).cell 0 _ rfl, (b8.below hG).cell 1 _ rfl, (b8.below hG).cell 2 _ rfl⟩ (fun hHeld => ?_)
    generalize wc.drew = v5 at hG hHeld ⊢
    have sG := hG.size
    refine wpAnyH_take (i := 0) (v := ?_) rfl (by kernel_rfl) (by kernel_rfl) (by kernel_rfl) (fun _ _ _ h => h) (Or.inl ⟨by rfl, ?_⟩) (by assumption) ?_
    rotate_left
    · (intro w hSw; (try dsimp only at hSw); go_simp; (try with_reducible rfl))
    (try simp only [List.getElem_toArray, List.getElem_cons_zero, Act.put, List.setIfInBounds_toArray, List.set_cons_zero, List.set_cons_succ])
    refine wpAnyH_take (i := 1) (v := ?_) rfl (by kernel_rfl) (by kernel_rfl) (by kernel_rfl) (fun _ _ _ h => h) (Or.inl ⟨by rfl, ?_⟩) (by assumption) ?_
    rotate_left
    · (intro w hSw; (try dsimp only at hSw); go_simp; (try with_reducible rfl))
    (try simp only [List.getElem_toArray, List.getElem_cons_succ, List.getElem_cons_zero, Act.put, List.setIfInBounds_toArray, List.set_cons_zero, List.set_cons_succ])
    refine wpAnyH_take (i := 2) (v := ?_) rfl (by kernel_rfl) (by kernel_rfl) (by kernel_rfl) (fun _ _ _ h => h) (Or.inl ⟨by rfl, ?_⟩) (by assumption) ?_
    rotate_left
    · (intro w hSw; (try dsimp only at hSw); go_simp; (try with_reducible rfl))
    (try simp only [List.getElem_toArray, List.getElem_cons_succ, List.getElem_cons_zero, Act.put, List.setIfInBounds_toArray, List.set_cons_zero, List.set_cons_succ])
    refine wpAnyH_take (i := 4) (v := ?_) rfl (by kernel_rfl) (by kernel_rfl) (by kernel_rfl) (fun _ _ _ h => h) (Or.inl ⟨by rfl, ?_⟩) (by assumption) ?_
    rotate_left
    · (intro w hSw; (try dsimp only at hSw); go_simp; (try with_reducible rfl))
    (try simp only [List.getElem_toArray, List.getElem_cons_succ, List.getElem_cons_zero, Act.put, List.setIfInBounds_toArray, List.set_cons_zero, List.set_cons_succ])
    refine wpAnyH_take (i := 5) (v := ?_) rfl (by kernel_rfl) (by kernel_rfl) (by kernel_rfl) (fun _ _ _ h => h) (Or.inl ⟨by rfl, ?_⟩) (by assumption) ?_
    rotate_left
    · (intro w hSw; (try dsimp only at hSw); go_simp; (try with_reducible rfl))
    (try simp only [List.getElem_toArray, List.getElem_cons_succ, List.getElem_cons_zero, Act.put, List.setIfInBounds_toArray, List.set_cons_zero, List.set_cons_succ])
    refine wpAnyH_take (i := 6) (v := ?_) rfl (by kernel_rfl) (by kernel_rfl) (by kernel_rfl) (fun _ _ _ h => h) (Or.inl ⟨by rfl, ?_⟩) (by assumption) ?_
    rotate_left
    · (intro w hSw; (try dsimp only at hSw); go_simp; (try with_reducible rfl))
    (try simp only [List.getElem_toArray, List.getElem_cons_succ, List.getElem_cons_zero, Act.put, List.setIfInBounds_toArray, List.set_cons_zero, List.set_cons_succ])
    refine wpAnyH_ready (rs := [3, 10]) (by kernel_rfl) (by simp) (AllReadyH.cons (o := _) rfl (fun K hK => ?_) (AllReadyH.cons (o := _) rfl (fun K hK => ?_) AllReadyH.nil))
    · go_simp
      go_at_call 37
      refine (ntimes_v (g6.below hG) (h.below hG) (by omega) (by omega)).mono ?_
      rintro e y5_1 ⟨s7, A7, n7, c7, D7, m7, e7, rfl, g7, hb9⟩
      have szy5_1 := hb9.size
      replace hG := hG.trans (hb9.mono sG)
      replace sG := hG.size
      clear hb9
      go_wp2_with fail
      refine hK.out _ _ ⟨(b7.below hG).cell 0 _ rfl, (b7.below hG).cell 1 _ rfl, (b7.below hG).cell 2 _ rfl, (b0.below hG).cell 0 _ rfl, (b0.below hG).cell 1 _ rfl, (b0.below hG).cell 2 _ rfl, (b0.below hG).cell 3 _ rfl, (b0.below hG).cell 4 _ rfl, (b0.below hG).cell 5 _ rfl, (b8.below hG).cell 0 _ rfl, (b8.below hG).cell 1 _ rfl, (b8.below hG).cell 2 _ rfl⟩ (fun hHeld => ?_)
      clear hK K
      (try simp only [List.getElem_toArray, List.getElem_cons_succ, List.getElem_cons_zero, Act.put, List.setIfInBounds_toArray, List.set_cons_zero, List.set_cons_succ])
      refine wpAnyH_ready (rs := [7, 10]) (by kernel_rfl) (by simp) (AllReadyH.cons (o := _) rfl (fun K hK => ?_) (AllReadyH.cons (o := _) rfl (fun K hK => ?_) AllReadyH.nil))
      · go_simp
        go_at_call 37
        refine (ntimes_v (g4.below hG) (h'.below hG) (by omega) (by omega)).mono ?_
        rintro e y5_2 ⟨s8, A8, n8, c8, D8, m8, e8, rfl, g8, hb9⟩
        have szy5_2 := hb9.size
        replace g7 := g7.below hb9
        replace hG := hG.trans (hb9.mono sG)
        replace sG := hG.size
        clear hb9
        go_wp2_with fail
        refine hK.out _ _ ⟨(b7.below hG).cell 0 _ rfl, (b7.below hG).cell 1 _ rfl, (b7.below hG).cell 2 _ rfl, (b0.below hG).cell 0 _ rfl, (b0.below hG).cell 1 _ rfl, (b0.below hG).cell 2 _ rfl, (b0.below hG).cell 3 _ rfl, (b0.below hG).cell 4 _ rfl, (b0.below hG).cell 5 _ rfl, (b8.below hG).cell 0 _ rfl, (b8.below hG).cell 1 _ rfl, (b8.below hG).cell 2 _ rfl⟩ (fun hHeld => ?_)
        clear hK K
        (try simp only [List.getElem_toArray, List.getElem_cons_succ, List.getElem_cons_zero, Act.put, List.setIfInBounds_toArray, List.set_cons_zero, List.set_cons_succ])
        refine wpAnyH_ready (rs := [8, 10]) (by kernel_rfl) (by simp) (AllReadyH.cons (o := _) rfl (fun K hK => ?_) (AllReadyH.cons (o := _) rfl (fun K hK => ?_) AllReadyH.nil))
        · go_simp
          go_at_call 36
          refine (nplus_v g7 g8 (by omega) (by omega)).mono ?_
          rintro e y5_3 ⟨s9, A9, n9, c9, D9, m9, e9, rfl, g9, hb9⟩
          have szy5_3 := hb9.size
          replace g7 := g7.below hb9
          replace g8 := g8.below hb9
          replace hG := hG.trans (hb9.mono sG)
          replace sG := hG.size
          clear hb9
          clear g7
          clear g8
          go_wp2_with fail
          refine hK.out _ _ ⟨(b7.below hG).cell 0 _ rfl, (b7.below hG).cell 1 _ rfl, (b7.below hG).cell 2 _ rfl, (b0.below hG).cell 0 _ rfl, (b0.below hG).cell 1 _ rfl, (b0.below hG).cell 2 _ rfl, (b0.below hG).cell 3 _ rfl, (b0.below hG).cell 4 _ rfl, (b0.below hG).cell 5 _ rfl, (b8.below hG).cell 0 _ rfl, (b8.below hG).cell 1 _ rfl, (b8.below hG).cell 2 _ rfl⟩ (fun hHeld => ?_)
          clear hK K
          (try simp only [List.getElem_toArray, List.getElem_cons_succ, List.getElem_cons_zero, Act.put, List.setIfInBounds_toArray, List.set_cons_zero, List.set_cons_succ])
          refine wpAnyH_ready (rs := [9, 10]) (by kernel_rfl) (by simp) (AllReadyH.cons (o := _) rfl (fun K hK => ?_) (AllReadyH.cons (o := _) rfl (fun K hK => ?_) AllReadyH.nil))
          · go_simp
            go_at_call 35
            refine (nopp_v g9).mono ?_
            rintro e y5_4 ⟨s10, rfl, g10, hb9⟩
            have szy5_4 := hb9.size
            replace g9 := g9.below hb9
            replace hG := hG.trans (hb9.mono sG)
            replace sG := hG.size
            clear hb9
            clear g9
            go_wp2_with fail
            refine hK.out _ _ ⟨(b7.below hG).cell 0 _ rfl, (b7.below hG).cell 1 _ rfl, (b7.below hG).cell 2 _ rfl, (b0.below hG).cell 0 _ rfl, (b0.below hG).cell 1 _ rfl, (b0.below hG).cell 2 _ rfl, (b0.below hG).cell 3 _ rfl, (b0.below hG).cell 4 _ rfl, (b0.below hG).cell 5 _ rfl, (b8.below hG).cell 0 _ rfl, (b8.below hG).cell 1 _ rfl, (b8.below hG).cell 2 _ rfl⟩ (fun hHeld => ?_)
            clear hK K
            (try simp only [List.getElem_toArray, List.getElem_cons_succ, List.getElem_cons_zero, Act.put, List.setIfInBounds_toArray, List.set_cons_zero, List.set_cons_succ])
            refine wpAnyH_ready (rs := [10]) (by kernel_rfl) (by simp) (AllReadyH.cons (o := _) rfl (fun K hK => ?_) AllReadyH.nil)
            go_simp
            obtain ⟨y5_5, hV, b5, hb9, szy5_5⟩ := boxes1 y5_4 #[.bool false, .slice none 0 0, .slice none 0 0] 49
            rw [hV]
            clear hV
            have gly5_5 : wc.heap.size ≤ y5_4.heap.size := sG
            replace szy5_5 : y5_4.heap.size < y5_5.heap.size := by omega
            replace g10 := g10.below hb9
            replace hG := hG.trans (hb9.mono sG)
            replace sG := hG.size
            clear hb9
            refine hK.out _ _ ⟨(b7.below hG).cell 0 _ rfl, (b7.below hG).cell 1 _ rfl, (b7.below hG).cell 2 _ rfl, (b0.below hG).cell 0 _ rfl, (b0.below hG).cell 1 _ rfl, (b0.below hG).cell 2 _ rfl, (b0.below hG).cell 3 _ rfl, (b0.below hG).cell 4 _ rfl, (b0.below hG).cell 5 _ rfl, (b8.below hG).cell 0 _ rfl, (b8.below hG).cell 1 _ rfl, (b8.below hG).cell 2 _ rfl⟩ (fun hHeld => ?_)
            clear hK K
            (try simp only [List.getElem_toArray, List.getElem_cons_succ, List.getElem_cons_zero, Act.put, List.setIfInBounds_toArray, List.set_cons_zero, List.set_cons_succ])
            have rb50 := b5.cell 0 _ rfl
            have qb50 := b5.frozen 0
            have rb51 := b5.cell 1 _ rfl
            have qb51 := b5.frozen 1
            have rb52 := b5.cell 2 _ rfl
            have qb52 := b5.frozen 2
            refine wpAnyH_ready (rs := [11]) (by kernel_rfl) (by simp) (AllReadyH.cons (o := _) rfl (fun K hK => ?_) AllReadyH.nil)
            go_simp
            clear rb50 qb50
            clear rb51 qb51
            clear rb52 qb52
            have hg := only_store3 y5_5 (y5_4.heap.size) (.bool s10) (.slice A9 n9 c9) (.slice D9 m9 e9)
            have hB := b5.stored3 (.bool s10) (.slice A9 n9 c9) (.slice D9 m9 e9)
            generalize hX : (((y5_5.setCell ⟨y5_4.heap.size, 0, none⟩ (.bool s10)).setCell ⟨y5_4.heap.size, 1, none⟩ (.slice A9 n9 c9)).setCell ⟨y5_4.heap.size, 2, none⟩ (.slice D9 m9 e9)) = Y5_6 at hg hB ⊢
            clear hX
            replace g10 := g10.kept b5 (by simp [notInt]) hg
            replace b5 := hB
            replace hG := below_only hG hg (by omega) sG
            replace sG := hG.size
            clear hg hB
            refine hK.out _ _ ⟨(b7.below hG).cell 0 _ rfl, (b7.below hG).cell 1 _ rfl, (b7.below hG).cell 2 _ rfl, (b0.below hG).cell 0 _ rfl, (b0.below hG).cell 1 _ rfl, (b0.below hG).cell 2 _ rfl, (b0.below hG).cell 3 _ rfl, (b0.below hG).cell 4 _ rfl, (b0.below hG).cell 5 _ rfl, (b8.below hG).cell 0 _ rfl, (b8.below hG).cell 1 _ rfl, (b8.below hG).cell 2 _ rfl⟩ (fun hHeld => ?_)
            clear hK K
            (try simp only [List.getElem_toArray, List.getElem_cons_succ, List.getElem_cons_zero, Act.put, List.setIfInBounds_toArray, List.set_cons_zero, List.set_cons_succ])
            refine wpAnyH_done (by kernel_rfl) ?_ _
            refine NoPanic.normal ?_
            go_wp2_with fail
            go_meet
            exact ⟨y5_4.heap.size, s10, A9, n9, c9, D9, m9, e9, rfl, g10.more (by omega), b5, (by omega), hG⟩
          · go_simp
            obtain ⟨y5_7, hV, b5, hb9, szy5_7⟩ := boxes1 y5_3 #[.bool false, .slice none 0 0, .slice none 0 0] 49
            rw [hV]
            clear hV
            have gly5_7 : wc.heap.size ≤ y5_3.heap.size := sG
            replace szy5_7 : y5_3.heap.size < y5_7.heap.size := by omega
            replace g9 := g9.below hb9
            replace hG := hG.trans (hb9.mono sG)
            replace sG := hG.size
            clear hb9
            refine hK.out _ _ ⟨(b7.below hG).cell 0 _ rfl, (b7.below hG).cell 1 _ rfl, (b7.below hG).cell 2 _ rfl, (b0.below hG).cell 0 _ rfl, (b0.below hG).cell 1 _ rfl, (b0.below hG).cell 2 _ rfl, (b0.below hG).cell 3 _ rfl, (b0.below hG).cell 4 _ rfl, (b0.below hG).cell 5 _ rfl, (b8.below hG).cell 0 _ rfl, (b8.below hG).cell 1 _ rfl, (b8.below hG).cell 2 _ rfl⟩ (fun hHeld => ?_)
            clear hK K
            (try simp only [List.getElem_toArray, List.getElem_cons_succ, List.getElem_cons_zero, Act.put, List.setIfInBounds_toArray, List.set_cons_zero, List.set_cons_succ])
            refine wpAnyH_ready (rs := [9]) (by kernel_rfl) (by simp) (AllReadyH.cons (o := _) rfl (fun K hK => ?_) AllReadyH.nil)
            go_simp
            go_at_call 35
            refine (nopp_v g9).mono ?_
            rintro e y5_8 ⟨s10, rfl, g10, hb9⟩
            have szy5_8 := hb9.size
            replace g9 := g9.below hb9
            replace b5 := b5.below hb9
            replace hG := hG.trans (hb9.mono sG)
            replace sG := hG.size
            clear hb9
            clear g9
            go_wp2_with fail
            refine hK.out _ _ ⟨(b7.below hG).cell 0 _ rfl, (b7.below hG).cell 1 _ rfl, (b7.below hG).cell 2 _ rfl, (b0.below hG).cell 0 _ rfl, (b0.below hG).cell 1 _ rfl, (b0.below hG).cell 2 _ rfl, (b0.below hG).cell 3 _ rfl, (b0.below hG).cell 4 _ rfl, (b0.below hG).cell 5 _ rfl, (b8.below hG).cell 0 _ rfl, (b8.below hG).cell 1 _ rfl, (b8.below hG).cell 2 _ rfl⟩ (fun hHeld => ?_)
            clear hK K
            (try simp only [List.getElem_toArray, List.getElem_cons_succ, List.getElem_cons_zero, Act.put, List.setIfInBounds_toArray, List.set_cons_zero, List.set_cons_succ])
            have rb50 := b5.cell 0 _ rfl
            have qb50 := b5.frozen 0
            have rb51 := b5.cell 1 _ rfl
            have qb51 := b5.frozen 1
            have rb52 := b5.cell 2 _ rfl
            have qb52 := b5.frozen 2
            refine wpAnyH_ready (rs := [11]) (by kernel_rfl) (by simp) (AllReadyH.cons (o := _) rfl (fun K hK => ?_) AllReadyH.nil)
            go_simp
            clear rb50 qb50
            clear rb51 qb51
            clear rb52 qb52
            have hg := only_store3 y5_8 (y5_3.heap.size) (.bool s10) (.slice A9 n9 c9) (.slice D9 m9 e9)
            have hB := b5.stored3 (.bool s10) (.slice A9 n9 c9) (.slice D9 m9 e9)
            generalize hX : (((y5_8.setCell ⟨y5_3.heap.size, 0, none⟩ (.bool s10)).setCell ⟨y5_3.heap.size, 1, none⟩ (.slice A9 n9 c9)).setCell ⟨y5_3.heap.size, 2, none⟩ (.slice D9 m9 e9)) = Y5_9 at hg hB ⊢
            clear hX
            replace g10 := g10.kept b5 (by simp [notInt]) hg
            replace b5 := hB
            replace hG := below_only hG hg (by omega) sG
            replace sG := hG.size
            clear hg hB
            refine hK.out _ _ ⟨(b7.below hG).cell 0 _ rfl, (b7.below hG).cell 1 _ rfl, (b7.below hG).cell 2 _ rfl, (b0.below hG).cell 0 _ rfl, (b0.below hG).cell 1 _ rfl, (b0.below hG).cell 2 _ rfl, (b0.below hG).cell 3 _ rfl, (b0.below hG).cell 4 _ rfl, (b0.below hG).cell 5 _ rfl, (b8.below hG).cell 0 _ rfl, (b8.below hG).cell 1 _ rfl, (b8.below hG).cell 2 _ rfl⟩ (fun hHeld => ?_)
            clear hK K
            (try simp only [List.getElem_toArray, List.getElem_cons_succ, List.getElem_cons_zero, Act.put, List.setIfInBounds_toArray, List.set_cons_zero, List.set_cons_succ])
            refine wpAnyH_done (by kernel_rfl) ?_ _
            refine NoPanic.normal ?_
            go_wp2_with fail
            go_meet
            exact ⟨y5_3.heap.size, s10, A9, n9, c9, D9, m9, e9, rfl, g10.more (by omega), b5, (by omega), hG⟩
        · go_simp
          obtain ⟨y5_10, hV, b5, hb9, szy5_10⟩ := boxes1 y5_2 #[.bool false, .slice none 0 0, .slice none 0 0] 49
          rw [hV]
          clear hV
          have gly5_10 : wc.heap.size ≤ y5_2.heap.size := sG
          replace szy5_10 : y5_2.heap.size < y5_10.heap.size := by omega
          replace g7 := g7.below hb9
          replace g8 := g8.below hb9
          replace hG := hG.trans (hb9.mono sG)
          replace sG := hG.size
          clear hb9
          refine hK.out _ _ ⟨(b7.below hG).cell 0 _ rfl, (b7.below hG).cell 1 _ rfl, (b7.below hG).cell 2 _ rfl, (b0.below hG).cell 0 _ rfl, (b0.below hG).cell 1 _ rfl, (b0.below hG).cell 2 _ rfl, (b0.below hG).cell 3 _ rfl, (b0.below hG).cell 4 _ rfl, (b0.below hG).cell 5 _ rfl, (b8.below hG).cell 0 _ rfl, (b8.below hG).cell 1 _ rfl, (b8.below hG).cell 2 _ rfl⟩ (fun hHeld => ?_)
          clear hK K
          (try simp only [List.getElem_toArray, List.getElem_cons_succ, List.getElem_cons_zero, Act.put, List.setIfInBounds_toArray, List.set_cons_zero, List.set_cons_succ])
          refine wpAnyH_ready (rs := [8]) (by kernel_rfl) (by simp) (AllReadyH.cons (o := _) rfl (fun K hK => ?_) AllReadyH.nil)
          go_simp
          go_at_call 36
          refine (nplus_v g7 g8 (by omega) (by omega)).mono ?_
          rintro e y5_11 ⟨s9, A9, n9, c9, D9, m9, e9, rfl, g9, hb9⟩
          have szy5_11 := hb9.size
          replace g7 := g7.below hb9
          replace g8 := g8.below hb9
          replace b5 := b5.below hb9
          replace hG := hG.trans (hb9.mono sG)
          replace sG := hG.size
          clear hb9
          clear g7
          clear g8
          go_wp2_with fail
          refine hK.out _ _ ⟨(b7.below hG).cell 0 _ rfl, (b7.below hG).cell 1 _ rfl, (b7.below hG).cell 2 _ rfl, (b0.below hG).cell 0 _ rfl, (b0.below hG).cell 1 _ rfl, (b0.below hG).cell 2 _ rfl, (b0.below hG).cell 3 _ rfl, (b0.below hG).cell 4 _ rfl, (b0.below hG).cell 5 _ rfl, (b8.below hG).cell 0 _ rfl, (b8.below hG).cell 1 _ rfl, (b8.below hG).cell 2 _ rfl⟩ (fun hHeld => ?_)
          clear hK K
          (try simp only [List.getElem_toArray, List.getElem_cons_succ, List.getElem_cons_zero, Act.put, List.setIfInBounds_toArray, List.set_cons_zero, List.set_cons_succ])
          refine wpAnyH_ready (rs := [9]) (by kernel_rfl) (by simp) (AllReadyH.cons (o := _) rfl (fun K hK => ?_) AllReadyH.nil)
          go_simp
          go_at_call 35
          refine (nopp_v g9).mono ?_
          rintro e y5_12 ⟨s10, rfl, g10, hb9⟩
          have szy5_12 := hb9.size
          replace g9 := g9.below hb9
          replace b5 := b5.below hb9
          replace hG := hG.trans (hb9.mono sG)
          replace sG := hG.size
          clear hb9
          clear g9
          go_wp2_with fail
          refine hK.out _ _ ⟨(b7.below hG).cell 0 _ rfl, (b7.below hG).cell 1 _ rfl, (b7.below hG).cell 2 _ rfl, (b0.below hG).cell 0 _ rfl, (b0.below hG).cell 1 _ rfl, (b0.below hG).cell 2 _ rfl, (b0.below hG).cell 3 _ rfl, (b0.below hG).cell 4 _ rfl, (b0.below hG).cell 5 _ rfl, (b8.below hG).cell 0 _ rfl, (b8.below hG).cell 1 _ rfl, (b8.below hG).cell 2 _ rfl⟩ (fun hHeld => ?_)
          clear hK K
          (try simp only [List.getElem_toArray, List.getElem_cons_succ, List.getElem_cons_zero, Act.put, List.setIfInBounds_toArray, List.set_cons_zero, List.set_cons_succ])
          have rb50 := b5.cell 0 _ rfl
          have qb50 := b5.frozen 0
          have rb51 := b5.cell 1 _ rfl
          have qb51 := b5.frozen 1
          have rb52 := b5.cell 2 _ rfl
          have qb52 := b5.frozen 2
          refine wpAnyH_ready (rs := [11]) (by kernel_rfl) (by simp) (AllReadyH.cons (o := _) rfl (fun K hK => ?_) AllReadyH.nil)
          go_simp
          clear rb50 qb50
          clear rb51 qb51
          clear rb52 qb52
          have hg := only_store3 y5_12 (y5_2.heap.size) (.bool s10) (.slice A9 n9 c9) (.slice D9 m9 e9)
          have hB := b5.stored3 (.bool s10) (.slice A9 n9 c9) (.slice D9 m9 e9)
          generalize hX : (((y5_12.setCell ⟨y5_2.heap.size, 0, none⟩ (.bool s10)).setCell ⟨y5_2.heap.size, 1, none⟩ (.slice A9 n9 c9)).setCell ⟨y5_2.heap.size, 2, none⟩ (.slice D9 m9 e9)) = Y5_13 at hg hB ⊢
          clear hX
          replace g10 := g10.kept b5 (by simp [notInt]) hg
          replace b5 := hB
          replace hG := below_only hG hg (by omega) sG
          replace sG := hG.size
          clear hg hB
          refine hK.out _ _ ⟨(b7.below hG).cell 0 _ rfl, (b7.below hG).cell 1 _ rfl, (b7.below hG).cell 2 _ rfl, (b0.below hG).cell 0 _ rfl, (b0.below hG).cell 1 _ rfl, (b0.below hG).cell 2 _ rfl, (b0.below hG).cell 3 _ rfl, (b0.below hG).cell 4 _ rfl, (b0.below hG).cell 5 _ rfl, (b8.below hG).cell 0 _ rfl, (b8.below hG).cell 1 _ rfl, (b8.below hG).cell 2 _ rfl⟩ (fun hHeld => ?_)
          clear hK K
          (try simp only [List.getElem_toArray, List.getElem_cons_succ, List.getElem_cons_zero, Act.put, List.setIfInBounds_toArray, List.set_cons_zero, List.set_cons_succ])
          refine wpAnyH_done (by kernel_rfl) ?_ _
          refine NoPanic.normal ?_
          go_wp2_with fail
          go_meet
          exact ⟨y5_2.heap.size, s10, A9, n9, c9, D9, m9, e9, rfl, g10.more (by omega), b5, (by omega), hG⟩
      · go_simp
        obtain ⟨y5_14, hV, b5, hb9, szy5_14⟩ := boxes1 y5_1 #[.bool false, .slice none 0 0, .slice none 0 0] 49
        rw [hV]
        clear hV
        have gly5_14 : wc.heap.size ≤ y5_1.heap.size := sG
        replace szy5_14 : y5_1.heap.size < y5_14.heap.size := by omega
        replace g7 := g7.below hb9
        replace hG := hG.trans (hb9.mono sG)
        replace sG := hG.size
        clear hb9
        refine hK.out _ _ ⟨(b7.below hG).cell 0 _ rfl, (b7.below hG).cell 1 _ rfl, (b7.below hG).cell 2 _ rfl, (b0.below hG).cell 0 _ rfl, (b0.below hG).cell 1 _ rfl, (b0.below hG).cell 2 _ rfl, (b0.below hG).cell 3 _ rfl, (b0.below hG).cell 4 _ rfl, (b0.below hG).cell 5 _ rfl, (b8.below hG).cell 0 _ rfl, (b8.below hG).cell 1 _ rfl, (b8.below hG).cell 2 _ rfl⟩ (fun hHeld => ?_)
        clear hK K
        (try simp only [List.getElem_toArray, List.getElem_cons_succ, List.getElem_cons_zero, Act.put, List.setIfInBounds_toArray, List.set_cons_zero, List.set_cons_succ])
        refine wpAnyH_ready (rs := [7]) (by kernel_rfl) (by simp) (AllReadyH.cons (o := _) rfl (fun K hK => ?_) AllReadyH.nil)
        go_simp
        go_at_call 37
        refine (ntimes_v (g4.below hG) (h'.below hG) (by omega) (by omega)).mono ?_
        rintro e y5_15 ⟨s8, A8, n8, c8, D8, m8, e8, rfl, g8, hb9⟩
        have szy5_15 := hb9.size
        replace g7 := g7.below hb9
        replace b5 := b5.below hb9
        replace hG := hG.trans (hb9.mono sG)
        replace sG := hG.size
        clear hb9
        go_wp2_with fail
        refine hK.out _ _ ⟨(b7.below hG).cell 0 _ rfl, (b7.below hG).cell 1 _ rfl, (b7.below hG).cell 2 _ rfl, (b0.below hG).cell 0 _ rfl, (b0.below hG).cell 1 _ rfl, (b0.below hG).cell 2 _ rfl, (b0.below hG).cell 3 _ rfl, (b0.below hG).cell 4 _ rfl, (b0.below hG).cell 5 _ rfl, (b8.below hG).cell 0 _ rfl, (b8.below hG).cell 1 _ rfl, (b8.below hG).cell 2 _ rfl⟩ (fun hHeld => ?_)
        clear hK K
        (try simp only [List.getElem_toArray, List.getElem_cons_succ, List.getElem_cons_zero, Act.put, List.setIfInBounds_toArray, List.set_cons_zero, List.set_cons_succ])
        refine wpAnyH_ready (rs := [8]) (by kernel_rfl) (by simp) (AllReadyH.cons (o := _) rfl (fun K hK => ?_) AllReadyH.nil)
        go_simp
        go_at_call 36
        refine (nplus_v g7 g8 (by omega) (by omega)).mono ?_
        rintro e y5_16 ⟨s9, A9, n9, c9, D9, m9, e9, rfl, g9, hb9⟩
        have szy5_16 := hb9.size
        replace g7 := g7.below hb9
        replace g8 := g8.below hb9
        replace b5 := b5.below hb9
        replace hG := hG.trans (hb9.mono sG)
        replace sG := hG.size
        clear hb9
        clear g7
        clear g8
        go_wp2_with fail
        refine hK.out _ _ ⟨(b7.below hG).cell 0 _ rfl, (b7.below hG).cell 1 _ rfl, (b7.below hG).cell 2 _ rfl, (b0.below hG).cell 0 _ rfl, (b0.below hG).cell 1 _ rfl, (b0.below hG).cell 2 _ rfl, (b0.below hG).cell 3 _ rfl, (b0.below hG).cell 4 _ rfl, (b0.below hG).cell 5 _ rfl, (b8.below hG).cell 0 _ rfl, (b8.below hG).cell 1 _ rfl, (b8.below hG).cell 2 _ rfl⟩ (fun hHeld => ?_)
        clear hK K
        (try simp only [List.getElem_toArray, List.getElem_cons_succ, List.getElem_cons_zero, Act.put, List.setIfInBounds_toArray, List.set_cons_zero, List.set_cons_succ])
        refine wpAnyH_ready (rs := [9]) (by kernel_rfl) (by simp) (AllReadyH.cons (o := _) rfl (fun K hK => ?_) AllReadyH.nil)
        go_simp
        go_at_call 35
        refine (nopp_v g9).mono ?_
        rintro e y5_17 ⟨s10, rfl, g10, hb9⟩
        have szy5_17 := hb9.size
        replace g9 := g9.below hb9
        replace b5 := b5.below hb9
        replace hG := hG.trans (hb9.mono sG)
        replace sG := hG.size
        clear hb9
        clear g9
        go_wp2_with fail
        refine hK.out _ _ ⟨(b7.below hG).cell 0 _ rfl, (b7.below hG).cell 1 _ rfl, (b7.below hG).cell 2 _ rfl, (b0.below hG).cell 0 _ rfl, (b0.below hG).cell 1 _ rfl, (b0.below hG).cell 2 _ rfl, (b0.below hG).cell 3 _ rfl, (b0.below hG).cell 4 _ rfl, (b0.below hG).cell 5 _ rfl, (b8.below hG).cell 0 _ rfl, (b8.below hG).cell 1 _ rfl, (b8.below hG).cell 2 _ rfl⟩ (fun hHeld => ?_)
        clear hK K
        (try simp only [List.getElem_toArray, List.getElem_cons_succ, List.getElem_cons_zero, Act.put, List.setIfInBounds_toArray, List.set_cons_zero, List.set_cons_succ])
        have rb50 := b5.cell 0 _ rfl
        have qb50 := b5.frozen 0
        have rb51 := b5.cell 1 _ rfl
        have qb51 := b5.frozen 1
        have rb52 := b5.cell 2 _ rfl
        have qb52 := b5.frozen 2
        refine wpAnyH_ready (rs := [11]) (by kernel_rfl) (by simp) (AllReadyH.cons (o := _) rfl (fun K hK => ?_) AllReadyH.nil)
        go_simp
        clear rb50 qb50
        clear rb51 qb51
        clear rb52 qb52
        have hg := only_store3 y5_17 (y5_1.heap.size) (.bool s10) (.slice A9 n9 c9) (.slice D9 m9 e9)
        have hB := b5.stored3 (.bool s10) (.slice A9 n9 c9) (.slice D9 m9 e9)
        generalize hX : (((y5_17.setCell ⟨y5_1.heap.size, 0, none⟩ (.bool s10)).setCell ⟨y5_1.heap.size, 1, none⟩ (.slice A9 n9 c9)).setCell ⟨y5_1.heap.size, 2, none⟩ (.slice D9 m9 e9)) = Y5_18 at hg hB ⊢
        clear hX
        replace g10 := g10.kept b5 (by simp [notInt]) hg
        replace b5 := hB
        replace hG := below_only hG hg (by omega) sG
        replace sG := hG.size
        clear hg hB
        refine hK.out _ _ ⟨(b7.below hG).cell 0 _ rfl, (b7.below hG).cell 1 _ rfl, (b7.below hG).cell 2 _ rfl, (b0.below hG).cell 0 _ rfl, (b0.below hG).cell 1 _ rfl, (b0.below hG).cell 2 _ rfl, (b0.below hG).cell 3 _ rfl, (b0.below hG).cell 4 _ rfl, (b0.below hG).cell 5 _ rfl, (b8.below hG).cell 0 _ rfl, (b8.below hG).cell 1 _ rfl, (b8.below hG).cell 2 _ rfl⟩ (fun hHeld => ?_)
        clear hK K
        (try simp only [List.getElem_toArray, List.getElem_cons_succ, List.getElem_cons_zero, Act.put, List.setIfInBounds_toArray, List.set_cons_zero, List.set_cons_succ])
        refine wpAnyH_done (by kernel_rfl) ?_ _
        refine NoPanic.normal ?_
        go_wp2_with fail
        go_meet
        exact ⟨y5_1.heap.size, s10, A9, n9, c9, D9, m9, e9, rfl, g10.more (by omega), b5, (by omega), hG⟩
    · go_simp
      obtain ⟨y5_19, hV, b5, hb9, szy5_19⟩ := boxes1 v5 #[.bool false, .slice none 0 0, .slice none 0 0] 49
      rw [hV]
      clear hV
      have gly5_19 : wc.heap.size ≤ v5.heap.size := sG
      replace szy5_19 : v5.heap.size < y5_19.heap.size := by omega
      replace hG := hG.trans (hb9.mono sG)
      replace sG := hG.size
      clear hb9
      refine hK.out _ _ ⟨(b7.below hG).cell 0 _ rfl, (b7.below hG).cell 1 _ rfl, (b7.below hG).cell 2 _ rfl, (b0.below hG).cell 0 _ rfl, (b0.below hG).cell 1 _ rfl, (b0.below hG).cell 2 _ rfl, (b0.below hG).cell 3 _ rfl, (b0.below hG).cell 4 _ rfl, (b0.below hG).cell 5 _ rfl, (b8.below hG).cell 0 _ rfl, (b8.below hG).cell 1 _ rfl, (b8.below hG).cell 2 _ rfl⟩ (fun hHeld => ?_)
      clear hK K
      (try simp only [List.getElem_toArray, List.getElem_cons_succ, List.getElem_cons_zero, Act.put, List.setIfInBounds_toArray, List.set_cons_zero, List.set_cons_succ])
      refine wpAnyH_ready (rs := [3]) (by kernel_rfl) (by simp) (AllReadyH.cons (o := _) rfl (fun K hK => ?_) AllReadyH.nil)
      go_simp
      go_at_call 37
      refine (ntimes_v (g6.below hG) (h.below hG) (by omega) (by omega)).mono ?_
      rintro e y5_20 ⟨s7, A7, n7, c7, D7, m7, e7, rfl, g7, hb9⟩
      have szy5_20 := hb9.size
      replace b5 := b5.below hb9
      replace hG := hG.trans (hb9.mono sG)
      replace sG := hG.size
      clear hb9
      go_wp2_with fail
      refine hK.out _ _ ⟨(b7.below hG).cell 0 _ rfl, (b7.below hG).cell 1 _ rfl, (b7.below hG).cell 2 _ rfl, (b0.below hG).cell 0 _ rfl, (b0.below hG).cell 1 _ rfl, (b0.below hG).cell 2 _ rfl, (b0.below hG).cell 3 _ rfl, (b0.below hG).cell 4 _ rfl, (b0.below hG).cell 5 _ rfl, (b8.below hG).cell 0 _ rfl, (b8.below hG).cell 1 _ rfl, (b8.below hG).cell 2 _ rfl⟩ (fun hHeld => ?_)
      clear hK K
      (try simp only [List.getElem_toArray, List.getElem_cons_succ, List.getElem_cons_zero, Act.put, List.setIfInBounds_toArray, List.set_cons_zero, List.set_cons_succ])
      refine wpAnyH_ready (rs := [7]) (by kernel_rfl) (by simp) (AllReadyH.cons (o := _) rfl (fun K hK => ?_) AllReadyH.nil)
      go_simp
      go_at_call 37
      refine (ntimes_v (g4.below hG) (h'.below hG) (by omega) (by omega)).mono ?_
      rintro e y5_21 ⟨s8, A8, n8, c8, D8, m8, e8, rfl, g8, hb9⟩
      have szy5_21 := hb9.size
      replace g7 := g7.below hb9
      replace b5 := b5.below hb9
      replace hG := hG.trans (hb9.mono sG)
      replace sG := hG.size
      clear hb9
      go_wp2_with fail
      refine hK.out _ _ ⟨(b7.below hG).cell 0 _ rfl, (b7.below hG).cell 1 _ rfl, (b7.below hG).cell 2 _ rfl, (b0.below hG).cell 0 _ rfl, (b0.below hG).cell 1 _ rfl, (b0.below hG).cell 2 _ rfl, (b0.below hG).cell 3 _ rfl, (b0.below hG).cell 4 _ rfl, (b0.below hG).cell 5 _ rfl, (b8.below hG).cell 0 _ rfl, (b8.below hG).cell 1 _ rfl, (b8.below hG).cell 2 _ rfl⟩ (fun hHeld => ?_)
      clear hK K
      (try simp only [List.getElem_toArray, List.getElem_cons_succ, List.getElem_cons_zero, Act.put, List.setIfInBounds_toArray, List.set_cons_zero, List.set_cons_succ])
      refine wpAnyH_ready (rs := [8]) (by kernel_rfl) (by simp) (AllReadyH.cons (o := _) rfl (fun K hK => ?_) AllReadyH.nil)
      go_simp
      go_at_call 36
      refine (nplus_v g7 g8 (by omega) (by omega)).mono ?_
      rintro e y5_22 ⟨s9, A9, n9, c9, D9, m9, e9, rfl, g9, hb9⟩
      have szy5_22 := hb9.size
      replace g7 := g7.below hb9
      replace g8 := g8.below hb9
      replace b5 := b5.below hb9
      replace hG := hG.trans (hb9.mono sG)
      replace sG := hG.size
      clear hb9
      clear g7
      clear g8
      go_wp2_with fail
      refine hK.out _ _ ⟨(b7.below hG).cell 0 _ rfl, (b7.below hG).cell 1 _ rfl, (b7.below hG).cell 2 _ rfl, (b0.below hG).cell 0 _ rfl, (b0.below hG).cell 1 _ rfl, (b0.below hG).cell 2 _ rfl, (b0.below hG).cell 3 _ rfl, (b0.below hG).cell 4 _ rfl, (b0.below hG).cell 5 _ rfl, (b8.below hG).cell 0 _ rfl, (b8.below hG).cell 1 _ rfl, (b8.below hG).cell 2 _ rfl⟩ (fun hHeld => ?_)
      clear hK K
      (try simp only [List.getElem_toArray, List.getElem_cons_succ, List.getElem_cons_zero, Act.put, List.setIfInBounds_toArray, List.set_cons_zero, List.set_cons_succ])
      refine wpAnyH_ready (rs := [9]) (by kernel_rfl) (by simp) (AllReadyH.cons (o := _) rfl (fun K hK => ?_) AllReadyH.nil)
      go_simp
      go_at_call 35
      refine (nopp_v g9).mono ?_
      rintro e y5_23 ⟨s10, rfl, g10, hb9⟩
      have szy5_23 := hb9.size
      replace g9 := g9.below hb9
      replace b5 := b5.below hb9
      replace hG := hG.trans (hb9.mono sG)
      replace sG := hG.size
      clear hb9
      clear g9
      go_wp2_with fail
      refine hK.out _ _ ⟨(b7.below hG).cell 0 _ rfl, (b7.below hG).cell 1 _ rfl, (b7.below hG).cell 2 _ rfl, (b0.below hG).cell 0 _ rfl, (b0.below hG).cell 1 _ rfl, (b0.below hG).cell 2 _ rfl, (b0.below hG).cell 3 _ rfl, (b0.below hG).cell 4 _ rfl, (b0.below hG).cell 5 _ rfl, (b8.below hG).cell 0 _ rfl, (b8.below hG).cell 1 _ rfl, (b8.below hG).cell 2 _ rfl⟩ (fun hHeld => ?_)
      clear hK K
      (try simp only [List.getElem_toArray, List.getElem_cons_succ, List.getElem_cons_zero, Act.put, List.setIfInBounds_toArray, List.set_cons_zero, List.set_cons_succ])
      have rb50 := b5.cell 0 _ rfl
      have qb50 := b5.frozen 0
      have rb51 := b5.cell 1 _ rfl
      have qb51 := b5.frozen 1
      have rb52 := b5.cell 2 _ rfl
      have qb52 := b5.frozen 2
      refine wpAnyH_ready (rs := [11]) (by kernel_rfl) (by simp) (AllReadyH.cons (o := _) rfl (fun K hK => ?_) AllReadyH.nil)
      go_simp
      clear rb50 qb50
      clear rb51 qb51
      clear rb52 qb52
      have hg := only_store3 y5_23 (v5.heap.size) (.bool s10) (.slice A9 n9 c9) (.slice D9 m9 e9)
      have hB := b5.stored3 (.bool s10) (.slice A9 n9 c9) (.slice D9 m9 e9)
      generalize hX : (((y5_23.setCell ⟨v5.heap.size, 0, none⟩ (.bool s10)).setCell ⟨v5.heap.size, 1, none⟩ (.slice A9 n9 c9)).setCell ⟨v5.heap.size, 2, none⟩ (.slice D9 m9 e9)) = Y5_24 at hg hB ⊢
      clear hX
      replace g10 := g10.kept b5 (by simp [notInt]) hg
      replace b5 := hB
      replace hG := below_only hG hg (by omega) sG
      replace sG := hG.size
      clear hg hB
      refine hK.out _ _ ⟨(b7.below hG).cell 0 _ rfl, (b7.below hG).cell 1 _ rfl, (b7.below hG).cell 2 _ rfl, (b0.below hG).cell 0 _ rfl, (b0.below hG).cell 1 _ rfl, (b0.below hG).cell 2 _ rfl, (b0.below hG).cell 3 _ rfl, (b0.below hG).cell 4 _ rfl, (b0.below hG).cell 5 _ rfl, (b8.below hG).cell 0 _ rfl, (b8.below hG).cell 1 _ rfl, (b8.below hG).cell 2 _ rfl⟩ (fun hHeld => ?_)
      clear hK K
      (try simp only [List.getElem_toArray, List.getElem_cons_succ, List.getElem_cons_zero, Act.put, List.setIfInBounds_toArray, List.set_cons_zero, List.set_cons_succ])
      refine wpAnyH_done (by kernel_rfl) ?_ _
      refine NoPanic.normal ?_
      go_wp2_with fail
      go_meet
      exact ⟨v5.heap.size, s10, A9, n9, c9, D9, m9, e9, rfl, g10.more (by omega), b5, (by omega), hG⟩
  obtain ⟨g5_0, s10, A9, n9, c9, D9, m9, e9, rfl, g10, b5, glg5_0, hG⟩ := hcut
  replace h := h.below hG
  replace h' := h'.below hG
  replace k := k.below hG
  replace k' := k'.below hG
  replace g4 := g4.below hG
  replace g6 := g6.below hG
  replace b0 := b0.below hG
  replace b1 := b1.below hG
  replace b9 := b9.below hG
  replace b7 := b7.below hG
  replace b8 := b8.below hG
  replace H0 := H0.trans (hG.mono H0.size)
  clear hG
  obtain ⟨qc, hqc⟩ : ∃ q, -(qa * q0 + qb * q1) = q := ⟨_, rfl⟩
  rw [hqc] at g10
  have HQC := Lib.hid hqc
  clear hqc
  clear h
  clear h'
  clear k
  clear k'
  go_wp2_with fail
  have hD := drawn_below wc
  replace g4 := g4.below hD
  replace g6 := g6.below hD
  replace g10 := g10.below hD
  replace b0 := b0.below hD
  replace b1 := b1.below hD
  replace b9 := b9.below hD
  replace b7 := b7.below hD
  replace b8 := b8.below hD
  replace b5 := b5.below hD
  replace H0 := H0.trans (hD.mono H0.size)
  clear hD
  refine wp_region_noPanic ?_
  refine wp_region_held_drew (S := (fun V => V.cell? ⟨g3_0, 0, none⟩ = some (.bool s6) ∧ V.cell? ⟨g3_0, 1, none⟩ = some (.slice A5 n5 c5) ∧ V.cell? ⟨g3_0, 2, none⟩ = some (.slice D5 m5 e5) ∧ V.cell? ⟨g3_1, 0, none⟩ = some (.bool s4) ∧ V.cell? ⟨g3_1, 1, none⟩ = some (.slice A4 n4 c4) ∧ V.cell? ⟨g3_1, 2, none⟩ = some (.slice D4 m4 e4) ∧ V.cell? ⟨g5_0, 0, none⟩ = some (.bool s10) ∧ V.cell? ⟨g5_0, 1, none⟩ = some (.slice A9 n9 c9) ∧ V.cell? ⟨g5_0, 2, none⟩ = some (.slice D9 m9 e9))) (by kernel_rfl) ⟨b7.cell 0 _ rfl, b7.cell 1 _ rfl, b7.cell 2 _ rfl, b8.cell 0 _ rfl, b8.cell 1 _ rfl, b8.cell 2 _ rfl, b5.cell 0 _ rfl, b5.cell 1 _ rfl, b5.cell 2 _ rfl⟩ (fun hHeld => ?_)
  generalize wc.drew = v7 at H0 hHeld g4 g6 g10 b0 b1 b9 b7 b8 b5 ⊢
  refine wpAnyH_take (i := 0) (v := ?_) rfl (by kernel_rfl) (by kernel_rfl) (by kernel_rfl) (fun _ _ _ h => h) (Or.inl ⟨by rfl, ?_⟩) (by assumption) ?_
  rotate_left
  · (intro w hSw; (try dsimp only at hSw); go_simp; (try with_reducible rfl))
  (try simp only [List.getElem_toArray, List.getElem_cons_zero, Act.put, List.setIfInBounds_toArray, List.set_cons_zero, List.set_cons_succ])
  refine wpAnyH_take (i := 2) (v := ?_) rfl (by kernel_rfl) (by kernel_rfl) (by kernel_rfl) (fun _ _ _ h => h) (Or.inl ⟨by rfl, ?_⟩) (by assumption) ?_
  rotate_left
  · (intro w hSw; (try dsimp only at hSw); go_simp; (try with_reducible rfl))
  (try simp only [List.getElem_toArray, List.getElem_cons_succ, List.getElem_cons_zero, Act.put, List.setIfInBounds_toArray, List.set_cons_zero, List.set_cons_succ])
  refine wpAnyH_take (i := 5) (v := ?_) rfl (by kernel_rfl) (by kernel_rfl) (by kernel_rfl) (fun _ _ _ h => h) (Or.inl ⟨by rfl, ?_⟩) (by assumption) ?_
  rotate_left
  · (intro w hSw; (try dsimp only at hSw); go_simp; (try with_reducible rfl))
  (try simp only [List.getElem_toArray, List.getElem_cons_succ, List.getElem_cons_zero, Act.put, List.setIfInBounds_toArray, List.set_cons_zero, List.set_cons_succ])
  refine wpAnyH_ready (rs := [1]) (by kernel_rfl) (by simp) (AllReadyH.cons (o := _) rfl (fun K hK => ?_) AllReadyH.nil)
  go_simp
  go_at_call 39
  refine (nden_v g6).mono ?_
  rintro e w8 ⟨A11, n11, c11, rfl, g11, hb⟩
  replace g4 := g4.below hb
  replace g6 := g6.below hb
  replace g10 := g10.below hb
  replace b0 := b0.below hb
  replace b1 := b1.below hb
  replace b9 := b9.below hb
  replace b7 := b7.below hb
  replace b8 := b8.below hb
  replace b5 := b5.below hb
  replace H0 := H0.trans (hb.mono H0.size)
  clear hb
  go_wp2_with fail
  refine hK.out _ _ ⟨b7.cell 0 _ rfl, b7.cell 1 _ rfl, b7.cell 2 _ rfl, b8.cell 0 _ rfl, b8.cell 1 _ rfl, b8.cell 2 _ rfl, b5.cell 0 _ rfl, b5.cell 1 _ rfl, b5.cell 2 _ rfl⟩ (fun hHeld => ?_)
  clear hK K
  (try simp only [List.getElem_toArray, List.getElem_cons_succ, List.getElem_cons_zero, Act.put, List.setIfInBounds_toArray, List.set_cons_zero, List.set_cons_succ])
  refine wpAnyH_ready (rs := [3]) (by kernel_rfl) (by simp) (AllReadyH.cons (o := _) rfl (fun K hK => ?_) AllReadyH.nil)
  go_simp
  go_at_call 39
  refine (nden_v g4).mono ?_
  rintro e w9 ⟨A12, n12, c12, rfl, g12, hb⟩
  replace g4 := g4.below hb
  replace g6 := g6.below hb
  replace g10 := g10.below hb
  replace g11 := g11.below hb
  replace b0 := b0.below hb
  replace b1 := b1.below hb
  replace b9 := b9.below hb
  replace b7 := b7.below hb
  replace b8 := b8.below hb
  replace b5 := b5.below hb
  replace H0 := H0.trans (hb.mono H0.size)
  clear hb
  go_wp2_with fail
  refine hK.out _ _ ⟨b7.cell 0 _ rfl, b7.cell 1 _ rfl, b7.cell 2 _ rfl, b8.cell 0 _ rfl, b8.cell 1 _ rfl, b8.cell 2 _ rfl, b5.cell 0 _ rfl, b5.cell 1 _ rfl, b5.cell 2 _ rfl⟩ (fun hHeld => ?_)
  clear hK K
  (try simp only [List.getElem_toArray, List.getElem_cons_succ, List.getElem_cons_zero, Act.put, List.setIfInBounds_toArray, List.set_cons_zero, List.set_cons_succ])
  refine wpAnyH_ready (rs := [4]) (by kernel_rfl) (by simp) (AllReadyH.cons (o := _) rfl (fun K hK => ?_) AllReadyH.nil)
  go_simp
  go_at_call 38
  refine (nprod_v g11 g12 (by omega) (by omega)).mono ?_
  rintro e w10 ⟨A13, n13, c13, rfl, g13, hb⟩
  replace g4 := g4.below hb
  replace g6 := g6.below hb
  replace g10 := g10.below hb
  replace g11 := g11.below hb
  replace g12 := g12.below hb
  replace b0 := b0.below hb
  replace b1 := b1.below hb
  replace b9 := b9.below hb
  replace b7 := b7.below hb
  replace b8 := b8.below hb
  replace b5 := b5.below hb
  replace H0 := H0.trans (hb.mono H0.size)
  clear hb
  clear g11
  clear g12
  go_wp2_with fail
  refine hK.out _ _ ⟨b7.cell 0 _ rfl, b7.cell 1 _ rfl, b7.cell 2 _ rfl, b8.cell 0 _ rfl, b8.cell 1 _ rfl, b8.cell 2 _ rfl, b5.cell 0 _ rfl, b5.cell 1 _ rfl, b5.cell 2 _ rfl⟩ (fun hHeld => ?_)
  clear hK K
  (try simp only [List.getElem_toArray, List.getElem_cons_succ, List.getElem_cons_zero, Act.put, List.setIfInBounds_toArray, List.set_cons_zero, List.set_cons_succ])
  refine wpAnyH_ready (rs := [6]) (by kernel_rfl) (by simp) (AllReadyH.cons (o := _) rfl (fun K hK => ?_) AllReadyH.nil)
  go_simp
  go_at_call 39
  refine (nden_v g10).mono ?_
  rintro e w11 ⟨A14, n14, c14, rfl, g14, hb⟩
  replace g4 := g4.below hb
  replace g6 := g6.below hb
  replace g10 := g10.below hb
  replace g13 := g13.below hb
  replace b0 := b0.below hb
  replace b1 := b1.below hb
  replace b9 := b9.below hb
  replace b7 := b7.below hb
  replace b8 := b8.below hb
  replace b5 := b5.below hb
  replace H0 := H0.trans (hb.mono H0.size)
  clear hb
  go_wp2_with fail
  refine hK.out _ _ ⟨b7.cell 0 _ rfl, b7.cell 1 _ rfl, b7.cell 2 _ rfl, b8.cell 0 _ rfl, b8.cell 1 _ rfl, b8.cell 2 _ rfl, b5.cell 0 _ rfl, b5.cell 1 _ rfl, b5.cell 2 _ rfl⟩ (fun hHeld => ?_)
  clear hK K
  (try simp only [List.getElem_toArray, List.getElem_cons_succ, List.getElem_cons_zero, Act.put, List.setIfInBounds_toArray, List.set_cons_zero, List.set_cons_succ])
  refine wpAnyH_ready (rs := [7]) (by kernel_rfl) (by simp) (AllReadyH.cons (o := _) rfl (fun K hK => ?_) AllReadyH.nil)
  go_simp
  go_at_call 38
  refine (nprod_v g13 g14 (by omega) (by omega)).mono ?_
  rintro e w12 ⟨A15, n15, c15, rfl, g15, hb⟩
  replace g4 := g4.below hb
  replace g6 := g6.below hb
  replace g10 := g10.below hb
  replace g13 := g13.below hb
  replace g14 := g14.below hb
  replace b0 := b0.below hb
  replace b1 := b1.below hb
  replace b9 := b9.below hb
  replace b7 := b7.below hb
  replace b8 := b8.below hb
  replace b5 := b5.below hb
  replace H0 := H0.trans (hb.mono H0.size)
  clear hb
  clear g13
  clear g14
  go_wp2_with fail
  refine hK.out _ _ ⟨b7.cell 0 _ rfl, b7.cell 1 _ rfl, b7.cell 2 _ rfl, b8.cell 0 _ rfl, b8.cell 1 _ rfl, b8.cell 2 _ rfl, b5.cell 0 _ rfl, b5.cell 1 _ rfl, b5.cell 2 _ rfl⟩ (fun hHeld => ?_)
  clear hK K
  (try simp only [List.getElem_toArray, List.getElem_cons_succ, List.getElem_cons_zero, Act.put, List.setIfInBounds_toArray, List.set_cons_zero, List.set_cons_succ])
  refine wpAnyH_take (i := 8) (v := ?_) rfl (by kernel_rfl) (by kernel_rfl) (by kernel_rfl) (fun _ _ _ h => h) (Or.inl ⟨by rfl, ?_⟩) (by assumption) ?_
  rotate_left
  · (intro w hSw; (try dsimp only at hSw); go_simp; (try with_reducible rfl))
  (try simp only [List.getElem_toArray, List.getElem_cons_succ, List.getElem_cons_zero, Act.put, List.setIfInBounds_toArray, List.set_cons_zero, List.set_cons_succ])
  refine wpAnyH_done (by kernel_rfl) ?_ _
  refine NoPanic.normal ?_
  obtain ⟨m, hm⟩ : ∃ m, qa.den * qb.den * qc.den = m := ⟨_, rfl⟩
  rw [hm] at g15
  have HMM := Lib.hid hm
  clear hm
  go_wp2_with fail
  refine (nmake_v (z := (m : Int)) false g15 rfl).mono ?_
  rintro e w13 ⟨s16, rfl, g16, hb⟩
  replace g4 := g4.below hb
  replace g6 := g6.below hb
  replace g10 := g10.below hb
  replace g15 := g15.below hb
  replace b0 := b0.below hb
  replace b1 := b1.below hb
  replace b9 := b9.below hb
  replace b7 := b7.below hb
  replace b8 := b8.below hb
  replace b5 := b5.below hb
  replace H0 := H0.trans (hb.mono H0.size)
  clear hb
  clear g15
  have g17 := PQ.int g16
  clear g16
  have lb0_14 := b0.lt
  have lb1_14 := b1.lt
  have lb9_14 := b9.lt
  have lb7_14 := b7.lt
  have lb8_14 := b8.lt
  have lb5_14 := b5.lt
  obtain ⟨W14, hW, b11, hbW, hszW14⟩ := boxes1 w13 #[.bool false, .slice none 0 0, .slice none 0 0] 49
  skip
  skip
  replace g4 := g4.below hbW
  replace g6 := g6.below hbW
  replace g10 := g10.below hbW
  replace g17 := g17.below hbW
  replace b0 := b0.below hbW
  replace b1 := b1.below hbW
  replace b9 := b9.below hbW
  replace b7 := b7.below hbW
  replace b8 := b8.below hbW
  replace b5 := b5.below hbW
  replace H0 := H0.trans (hbW.mono H0.size)
  clear hbW
  have cb110 := b11.cell 0 _ rfl
  have yb110 := b11.frozen 0
  have cb111 := b11.cell 1 _ rfl
  have yb111 := b11.frozen 1
  have cb112 := b11.cell 2 _ rfl
  have yb112 := b11.frozen 2
  go_wp2_with fail
  clear cb110 yb110 cb111 yb111 cb112 yb112
  have hg := only_store3 W14 (w13.heap.size) (.bool s16) (.slice A15 n15 c15) (.slice none 0 0)
  have hB := b11.stored3 (.bool s16) (.slice A15 n15 c15) (.slice none 0 0)
  generalize hX : (((W14.setCell ⟨w13.heap.size, 0, none⟩ (.bool s16)).setCell ⟨w13.heap.size, 1, none⟩ (.slice A15 n15 c15)).setCell ⟨w13.heap.size, 2, none⟩ (.slice none 0 0)) = X15 at hg hB ⊢
  clear hX
  replace g4 := g4.kept b11 (by simp [notInt]) hg
  replace g6 := g6.kept b11 (by simp [notInt]) hg
  replace g10 := g10.kept b11 (by simp [notInt]) hg
  replace g17 := g17.kept b11 (by simp [notInt]) hg
  replace b0 := b0.other hg (by omega)
  replace b1 := b1.other hg (by omega)
  replace b9 := b9.other hg (by omega)
  replace b7 := b7.other hg (by omega)
  replace b8 := b8.other hg (by omega)
  replace b5 := b5.other hg (by omega)
  replace b11 := hB
  replace H0 := below_only H0 hg (by omega) H0.size
  clear hg hB
  clear hW
  have cb70 := b7.cell 0 _ rfl
  have cb71 := b7.cell 1 _ rfl
  have cb72 := b7.cell 2 _ rfl
  have cb80 := b8.cell 0 _ rfl
  have cb81 := b8.cell 1 _ rfl
  have cb82 := b8.cell 2 _ rfl
  have cb50 := b5.cell 0 _ rfl
  have cb51 := b5.cell 1 _ rfl
  have cb52 := b5.cell 2 _ rfl
  have cb110 := b11.cell 0 _ rfl
  have cb111 := b11.cell 1 _ rfl
  have cb112 := b11.cell 2 _ rfl
  go_wp2_with fail
  clear cb70 cb71 cb72 cb80 cb81 cb82 cb50 cb51 cb52 cb110 cb111 cb112
  have HT := Lib.hid (thr_ref HQA.out.symm HQB.out.symm HQC.out.symm HMM.out.symm)
  clear HQA HQB HQC HMM
  have hfd : ∀ (s : Bool) (A D : Option Addr) (n c m e : Nat) (w : World), (Instr.field 49 (.agg #[.bool s, .slice A n c, .slice D m e]) 0).run Tryz.prog w = .ok (.agg #[.bool s, .slice A n c]) w := fun _ _ _ _ _ _ _ _ => by kernel_rfl
  have hD := drawn_below X15
  replace g4 := g4.below hD
  replace g6 := g6.below hD
  replace g10 := g10.below hD
  replace g17 := g17.below hD
  replace b0 := b0.below hD
  replace b1 := b1.below hD
  replace b9 := b9.below hD
  replace b7 := b7.below hD
  replace b8 := b8.below hD
  replace b5 := b5.below hD
  replace b11 := b11.below hD
  replace H0 := H0.trans (hD.mono H0.size)
  clear hD
  refine wp_region_noPanic ?_
  refine wp_region_held_drew (S := (fun V => V.cell? ⟨g3_0, 0, none⟩ = some (.bool s6) ∧ V.cell? ⟨g3_0, 1, none⟩ = some (.slice A5 n5 c5) ∧ V.cell? ⟨g3_0, 2, none⟩ = some (.slice D5 m5 e5) ∧ V.cell? ⟨g3_1, 0, none⟩ = some (.bool s4) ∧ V.cell? ⟨g3_1, 1, none⟩ = some (.slice A4 n4 c4) ∧ V.cell? ⟨g3_1, 2, none⟩ = some (.slice D4 m4 e4) ∧ V.cell? ⟨g5_0, 0, none⟩ = some (.bool s10) ∧ V.cell? ⟨g5_0, 1, none⟩ = some (.slice A9 n9 c9) ∧ V.cell? ⟨g5_0, 2, none⟩ = some (.slice D9 m9 e9) ∧ V.cell? ⟨w13.heap.size, 0, none⟩ = some (.bool s16) ∧ V.cell? ⟨w13.heap.size, 1, none⟩ = some (.slice A15 n15 c15) ∧ V.cell? ⟨w13.heap.size, 2, none⟩ = some (.slice none 0 0))) (by kernel_rfl) ⟨b7.cell 0 _ rfl, b7.cell 1 _ rfl, b7.cell 2 _ rfl, b8.cell 0 _ rfl, b8.cell 1 _ rfl, b8.cell 2 _ rfl, b5.cell 0 _ rfl, b5.cell 1 _ rfl, b5.cell 2 _ rfl, b11.cell 0 _ rfl, b11.cell 1 _ rfl, b11.cell 2 _ rfl⟩ (fun hHeld => ?_)
  generalize X15.drew = v16 at H0 hHeld g4 g6 g10 g17 b0 b1 b9 b7 b8 b5 b11 ⊢
  refine wpAnyH_take (i := 0) (v := ?_) rfl (by kernel_rfl) (by kernel_rfl) (by kernel_rfl) (fun _ _ _ h => h) (Or.inl ⟨by rfl, ?_⟩) (by assumption) ?_
  rotate_left
  · (intro w hSw; (try dsimp only at hSw); go_simp; (try with_reducible rfl))
  (try simp only [List.getElem_toArray, List.getElem_cons_zero, Act.put, List.setIfInBounds_toArray, List.set_cons_zero, List.set_cons_succ])
  refine wpAnyH_take (i := 1) (v := ?_) rfl (by kernel_rfl) (by kernel_rfl) (by kernel_rfl) (fun _ _ _ h => h) (Or.inl ⟨by rfl, ?_⟩) (by assumption) ?_
  rotate_left
  · (intro w hSw; (try dsimp only at hSw); go_simp; (try with_reducible rfl))
  (try simp only [List.getElem_toArray, List.getElem_cons_succ, List.getElem_cons_zero, Act.put, List.setIfInBounds_toArray, List.set_cons_zero, List.set_cons_succ])
  refine wpAnyH_take (i := 4) (v := ?_) rfl (by kernel_rfl) (by kernel_rfl) (by kernel_rfl) (fun _ _ _ h => h) (Or.inl ⟨by rfl, ?_⟩) (by assumption) ?_
  rotate_left
  · (intro w hSw; (try dsimp only at hSw); go_simp; (try with_reducible rfl))
  (try simp only [List.getElem_toArray, List.getElem_cons_succ, List.getElem_cons_zero, Act.put, List.setIfInBounds_toArray, List.set_cons_zero, List.set_cons_succ])
  refine wpAnyH_take (i := 5) (v := ?_) rfl (by kernel_rfl) (by kernel_rfl) (by kernel_rfl) (fun _ _ _ h => h) (Or.inl ⟨by rfl, ?_⟩) (by assumption) ?_
  rotate_left
  · (intro w hSw; (try dsimp only at hSw); go_simp; (try with_reducible rfl))
  (try simp only [List.getElem_toArray, List.getElem_cons_succ, List.getElem_cons_zero, Act.put, List.setIfInBounds_toArray, List.set_cons_zero, List.set_cons_succ])
  refine wpAnyH_take (i := 8) (v := ?_) rfl (by kernel_rfl) (by kernel_rfl) (by kernel_rfl) (fun _ _ _ h => h) (Or.inl ⟨by rfl, ?_⟩) (by assumption) ?_
  rotate_left
  · (intro w hSw; (try dsimp only at hSw); go_simp; (try with_reducible rfl))
  (try simp only [List.getElem_toArray, List.getElem_cons_succ, List.getElem_cons_zero, Act.put, List.setIfInBounds_toArray, List.set_cons_zero, List.set_cons_succ])
  refine wpAnyH_take (i := 9) (v := ?_) rfl (by kernel_rfl) (by kernel_rfl) (by kernel_rfl) (fun _ _ _ h => h) (Or.inl ⟨by rfl, ?_⟩) (by assumption) ?_
  rotate_left
  · (intro w hSw; (try dsimp only at hSw); go_simp; (try with_reducible rfl))
  (try simp only [List.getElem_toArray, List.getElem_cons_succ, List.getElem_cons_zero, Act.put, List.setIfInBounds_toArray, List.set_cons_zero, List.set_cons_succ])
  refine wpAnyH_ready (rs := [2]) (by kernel_rfl) (by simp) (AllReadyH.cons (o := _) rfl (fun K hK => ?_) AllReadyH.nil)
  go_simp
  go_at_call 37
  refine (ntimes_v g6 g17 (by omega) (by omega)).mono ?_
  rintro e w17 ⟨s18, A18, n18, c18, D18, m18, e18, rfl, g18, hb⟩
  replace g4 := g4.below hb
  replace g6 := g6.below hb
  replace g10 := g10.below hb
  replace g17 := g17.below hb
  replace b0 := b0.below hb
  replace b1 := b1.below hb
  replace b9 := b9.below hb
  replace b7 := b7.below hb
  replace b8 := b8.below hb
  replace b5 := b5.below hb
  replace b11 := b11.below hb
  replace H0 := H0.trans (hb.mono H0.size)
  clear hb
  clear g6
  go_wp2_with fail
  refine hK.out _ _ ⟨b7.cell 0 _ rfl, b7.cell 1 _ rfl, b7.cell 2 _ rfl, b8.cell 0 _ rfl, b8.cell 1 _ rfl, b8.cell 2 _ rfl, b5.cell 0 _ rfl, b5.cell 1 _ rfl, b5.cell 2 _ rfl, b11.cell 0 _ rfl, b11.cell 1 _ rfl, b11.cell 2 _ rfl⟩ (fun hHeld => ?_)
  clear hK K
  (try simp only [List.getElem_toArray, List.getElem_cons_succ, List.getElem_cons_zero, Act.put, List.setIfInBounds_toArray, List.set_cons_zero, List.set_cons_succ])
  refine wpAnyH_take (i := 3) (v := ?_) rfl (by kernel_rfl) (by kernel_rfl) (by kernel_rfl) (fun _ _ _ h => h) (Or.inl ⟨by rfl, ?_⟩) (by assumption) ?_
  rotate_left
  · (intro w hSw; (try dsimp only at hSw); go_simp; (try with_reducible rfl))
  (try simp only [List.getElem_toArray, List.getElem_cons_succ, List.getElem_cons_zero, Act.put, List.setIfInBounds_toArray, List.set_cons_zero, List.set_cons_succ])
  refine wpAnyH_ready (rs := [6]) (by kernel_rfl) (by simp) (AllReadyH.cons (o := _) rfl (fun K hK => ?_) AllReadyH.nil)
  go_simp
  go_at_call 37
  refine (ntimes_v g4 g17 (by omega) (by omega)).mono ?_
  rintro e w18 ⟨s19, A19, n19, c19, D19, m19, e19, rfl, g19, hb⟩
  replace g4 := g4.below hb
  replace g10 := g10.below hb
  replace g17 := g17.below hb
  replace g18 := g18.below hb
  replace b0 := b0.below hb
  replace b1 := b1.below hb
  replace b9 := b9.below hb
  replace b7 := b7.below hb
  replace b8 := b8.below hb
  replace b5 := b5.below hb
  replace b11 := b11.below hb
  replace H0 := H0.trans (hb.mono H0.size)
  clear hb
  clear g4
  go_wp2_with fail
  refine hK.out _ _ ⟨b7.cell 0 _ rfl, b7.cell 1 _ rfl, b7.cell 2 _ rfl, b8.cell 0 _ rfl, b8.cell 1 _ rfl, b8.cell 2 _ rfl, b5.cell 0 _ rfl, b5.cell 1 _ rfl, b5.cell 2 _ rfl, b11.cell 0 _ rfl, b11.cell 1 _ rfl, b11.cell 2 _ rfl⟩ (fun hHeld => ?_)
  clear hK K
  (try simp only [List.getElem_toArray, List.getElem_cons_succ, List.getElem_cons_zero, Act.put, List.setIfInBounds_toArray, List.set_cons_zero, List.set_cons_succ])
  refine wpAnyH_take (i := 7) (v := ?_) rfl (by kernel_rfl) (by kernel_rfl) (by kernel_rfl) (fun _ _ _ h => h) (Or.inl ⟨by rfl, ?_⟩) (by assumption) ?_
  rotate_left
  · (intro w hSw; (try dsimp only at hSw); go_simp; (try with_reducible rfl))
  (try simp only [List.getElem_toArray, List.getElem_cons_succ, List.getElem_cons_zero, Act.put, List.setIfInBounds_toArray, List.set_cons_zero, List.set_cons_succ])
  refine wpAnyH_ready (rs := [10]) (by kernel_rfl) (by simp) (AllReadyH.cons (o := _) rfl (fun K hK => ?_) AllReadyH.nil)
  go_simp
  go_at_call 37
  refine (ntimes_v g10 g17 (by omega) (by omega)).mono ?_
  rintro e w19 ⟨s20, A20, n20, c20, D20, m20, e20, rfl, g20, hb⟩
  replace g10 := g10.below hb
  replace g17 := g17.below hb
  replace g18 := g18.below hb
  replace g19 := g19.below hb
  replace b0 := b0.below hb
  replace b1 := b1.below hb
  replace b9 := b9.below hb
  replace b7 := b7.below hb
  replace b8 := b8.below hb
  replace b5 := b5.below hb
  replace b11 := b11.below hb
  replace H0 := H0.trans (hb.mono H0.size)
  clear hb
  clear g10
  clear g17
  go_wp2_with fail
  refine hK.out _ _ ⟨b7.cell 0 _ rfl, b7.cell 1 _ rfl, b7.cell 2 _ rfl, b8.cell 0 _ rfl, b8.cell 1 _ rfl, b8.cell 2 _ rfl, b5.cell 0 _ rfl, b5.cell 1 _ rfl, b5.cell 2 _ rfl, b11.cell 0 _ rfl, b11.cell 1 _ rfl, b11.cell 2 _ rfl⟩ (fun hHeld => ?_)
  clear hK K
  (try simp only [List.getElem_toArray, List.getElem_cons_succ, List.getElem_cons_zero, Act.put, List.setIfInBounds_toArray, List.set_cons_zero, List.set_cons_succ])
  refine wpAnyH_take (i := 11) (v := ?_) rfl (by kernel_rfl) (by kernel_rfl) (by kernel_rfl) (fun _ _ _ h => h) (Or.inl ⟨by rfl, ?_⟩) (by assumption) ?_
  rotate_left
  · (intro w hSw; (try dsimp only at hSw); go_simp; (try with_reducible rfl))
  (try simp only [List.getElem_toArray, List.getElem_cons_succ, List.getElem_cons_zero, Act.put, List.setIfInBounds_toArray, List.set_cons_zero, List.set_cons_succ])
  refine wpAnyH_ready (rs := [12]) (by kernel_rfl) (by simp) (AllReadyH.cons (o := _) rfl (fun K hK => ?_) AllReadyH.nil)
  go_simp
  go_at_call 41
  refine (gmakel_v (g18.1.more (by decide)) (g19.1.more (by decide)) (g20.1.more (by decide)) (thr_z HT.out HZ.out) (Nat.le_refl 1000)).mono ?_
  rintro e w20 ⟨s21, A21, n21, c21, s22, A22, n22, c22, s23, A23, n23, c23, rfl, g21, g22, g23, hb⟩
  replace g18 := g18.below hb
  replace g19 := g19.below hb
  replace g20 := g20.below hb
  replace b0 := b0.below hb
  replace b1 := b1.below hb
  replace b9 := b9.below hb
  replace b7 := b7.below hb
  replace b8 := b8.below hb
  replace b5 := b5.below hb
  replace b11 := b11.below hb
  replace H0 := H0.trans (hb.mono H0.size)
  clear hb
  clear g18
  clear g19
  clear g20
  go_wp2_with fail
  refine hK.out _ _ ⟨b7.cell 0 _ rfl, b7.cell 1 _ rfl, b7.cell 2 _ rfl, b8.cell 0 _ rfl, b8.cell 1 _ rfl, b8.cell 2 _ rfl, b5.cell 0 _ rfl, b5.cell 1 _ rfl, b5.cell 2 _ rfl, b11.cell 0 _ rfl, b11.cell 1 _ rfl, b11.cell 2 _ rfl⟩ (fun hHeld => ?_)
  clear hK K
  (try simp only [List.getElem_toArray, List.getElem_cons_succ, List.getElem_cons_zero, Act.put, List.setIfInBounds_toArray, List.set_cons_zero, List.set_cons_succ])
  refine wpAnyH_take (i := 13) (v := ?_) rfl (by kernel_rfl) (by kernel_rfl) (by kernel_rfl) (fun _ _ _ h => h) (Or.inl ⟨by rfl, ?_⟩) (by assumption) ?_
  rotate_left
  · (intro w hSw; (try dsimp only at hSw); go_simp; (try with_reducible rfl))
  (try simp only [List.getElem_toArray, List.getElem_cons_succ, List.getElem_cons_zero, Act.put, List.setIfInBounds_toArray, List.set_cons_zero, List.set_cons_succ])
  refine wpAnyH_take (i := 14) (v := ?_) rfl (by kernel_rfl) (by kernel_rfl) (by kernel_rfl) (fun _ _ _ h => h) (Or.inl ⟨by rfl, ?_⟩) (by assumption) ?_
  rotate_left
  · (intro w hSw; (try dsimp only at hSw); go_simp; (try with_reducible rfl))
  (try simp only [List.getElem_toArray, List.getElem_cons_succ, List.getElem_cons_zero, Act.put, List.setIfInBounds_toArray, List.set_cons_zero, List.set_cons_succ])
  have cb90 := b9.cell 0 _ rfl
  have yb90 := b9.frozen 0
  have cb91 := b9.cell 1 _ rfl
  have yb91 := b9.frozen 1
  have cb92 := b9.cell 2 _ rfl
  have yb92 := b9.frozen 2
  have cb93 := b9.cell 3 _ rfl
  have yb93 := b9.frozen 3
  have cb94 := b9.cell 4 _ rfl
  have yb94 := b9.frozen 4
  have cb95 := b9.cell 5 _ rfl
  have yb95 := b9.frozen 5
  refine wpAnyH_ready (rs := [15]) (by kernel_rfl) (by simp) (AllReadyH.cons (o := _) rfl (fun K hK => ?_) AllReadyH.nil)
  go_simp
  clear cb90 yb90 cb91 yb91 cb92 yb92 cb93 yb93 cb94 yb94 cb95 yb95
  have hg := only_store6 w20 (w.heap.size + 1 + 1) (.bool s21) (.slice A21 n21 c21) (.bool s22) (.slice A22 n22 c22) (.bool s23) (.slice A23 n23 c23)
  have hB := b9.stored6 (.bool s21) (.slice A21 n21 c21) (.bool s22) (.slice A22 n22 c22) (.bool s23) (.slice A23 n23 c23)
  generalize hX : ((((((w20.setCell ⟨w.heap.size + 1 + 1, 0, none⟩ (.bool s21)).setCell ⟨w.heap.size + 1 + 1, 1, none⟩ (.slice A21 n21 c21)).setCell ⟨w.heap.size + 1 + 1, 2, none⟩ (.bool s22)).setCell ⟨w.heap.size + 1 + 1, 3, none⟩ (.slice A22 n22 c22)).setCell ⟨w.heap.size + 1 + 1, 4, none⟩ (.bool s23)).setCell ⟨w.heap.size + 1 + 1, 5, none⟩ (.slice A23 n23 c23)) = X21 at hg hB ⊢
  clear hX
  replace g21 := g21.kept b9 (by simp [notInt]) hg
  replace g22 := g22.kept b9 (by simp [notInt]) hg
  replace g23 := g23.kept b9 (by simp [notInt]) hg
  replace b0 := b0.other hg (by omega)
  replace b1 := b1.other hg (by omega)
  replace b7 := b7.other hg (by omega)
  replace b8 := b8.other hg (by omega)
  replace b5 := b5.other hg (by omega)
  replace b11 := b11.other hg (by omega)
  replace b9 := hB
  replace H0 := below_only H0 hg (by omega) H0.size
  clear hg hB
  refine hK.out _ _ ⟨b7.cell 0 _ rfl, b7.cell 1 _ rfl, b7.cell 2 _ rfl, b8.cell 0 _ rfl, b8.cell 1 _ rfl, b8.cell 2 _ rfl, b5.cell 0 _ rfl, b5.cell 1 _ rfl, b5.cell 2 _ rfl, b11.cell 0 _ rfl, b11.cell 1 _ rfl, b11.cell 2 _ rfl⟩ (fun hHeld => ?_)
  clear hK K
  (try simp only [List.getElem_toArray, List.getElem_cons_succ, List.getElem_cons_zero, Act.put, List.setIfInBounds_toArray, List.set_cons_zero, List.set_cons_succ])
  refine wpAnyH_take (i := 16) (v := ?_) rfl (by kernel_rfl) (by kernel_rfl) (by kernel_rfl) (fun _ _ _ h => h) (Or.inl ⟨by rfl, ?_⟩) (by assumption) ?_
  rotate_left
  · (intro w hSw; (try dsimp only at hSw); go_simp; (try with_reducible rfl))
  (try simp only [List.getElem_toArray, List.getElem_cons_succ, List.getElem_cons_zero, Act.put, List.setIfInBounds_toArray, List.set_cons_zero, List.set_cons_succ])
  refine wpAnyH_done (by kernel_rfl) ?_ _
  refine NoPanic.normal ?_
  go_wp2_with fail
  refine bodyPost_ret (ret_geol_b rfl rfl b9) rfl ?_
  exact ⟨_, _, _, _, _, _, _, _, _, _, _, _, _, _, _, rfl, HT.out, g21, g22, g23, H0⟩
end
end Go.Proofs.YtfonldogbfkpiaaGreat
