/-
  A line of the tape.
-/
import Derived.Test.YtfonldogbfkpiaaGreatLnH
import Derived.Test.YtfonldogbfkpiaaGreatPtT
namespace Go.Proofs.YtfonldogbfkpiaaGreat
open Go.RowKit

section
variable {A0 A1 A2 A3 A4 A5 A6 A7 A8 A9 A10 A11 A12 A13 A14 A15 A16 A17 A18 A19 A20 A21 A22 A23 D0 D1 D2 D3 D4 D5 D6 D7 D8 D9 D10 D11 D12 D13 D14 D15 D16 D17 D18 D19 D20 D21 D22 D23 : Option Addr} {n0 n1 n2 n3 n4 n5 n6 n7 n8 n9 n10 n11 n12 n13 n14 n15 n16 n17 n18 n19 n20 n21 n22 n23 c0 c1 c2 c3 c4 c5 c6 c7 c8 c9 c10 c11 c12 c13 c14 c15 c16 c17 c18 c19 c20 c21 c22 c23 m0 m1 m2 m3 m4 m5 m6 m7 m8 m9 m10 m11 m12 m13 m14 m15 m16 m17 m18 m19 m20 m21 m22 m23 e0 e1 e2 e3 e4 e5 e6 e7 e8 e9 e10 e11 e12 e13 e14 e15 e16 e17 e18 e19 e20 e21 e22 e23 : Nat} {s0 s1 s2 s3 s4 s5 s6 s7 s8 s9 s10 s11 s12 s13 s14 s15 s16 s17 s18 s19 s20 s21 s22 s23 : Bool} {q0 q1 q2 q3 q4 q5 q6 q7 : Rat} {z0 z1 z2 z3 z4 z5 z6 z7 z8 z9 z10 z11 : Int} {L L0 L1 x y : Nat} {k : Int} {w : World}
/-- The coefficients of a line of the tape. -/
def SL (a b c : Int) : Prop := VL a b c ∧ a.natAbs ≤ 4 ∧ b.natAbs ≤ 4 ∧ c.natAbs ≤ 32
theorem pr_abs {x a b c : Int} (hd : ((gcd3 a b c : Nat) : Int) ∣ x) (h : 0 < gcd3 a b c) : (pr x a b c).natAbs ≤ x.natAbs := by
  obtain ⟨k, hk⟩ := hd
  have e : pr x a b c = k := by unfold pr; rw [hk]; exact Int.mul_ediv_cancel_left _ (by omega)
  rw [e, hk, Int.natAbs_mul, Int.natAbs_natCast]
  exact Nat.le_mul_of_pos_left _ h
theorem mul_small {a b : Int} (ha : -4 ≤ a ∧ a ≤ 4) (hb : -4 ≤ b ∧ b ≤ 4) : (a * b).natAbs ≤ 16 := by
  rw [Int.natAbs_mul]
  exact Nat.le_trans (Nat.mul_le_mul (show a.natAbs ≤ 4 by omega) (show b.natAbs ≤ 4 by omega)) (Nat.le_refl _)
theorem tl_small {x y a b z0 z1 z2 : Int} (h : Thr (x : Rat) (y : Rat) ((x : Rat) + ((1 : Int) : Rat) * (a : Rat)) ((y : Rat) + ((1 : Int) : Rat) * (b : Rat)) z0 z1 z2) (hv : SV x y) (hv' : SV a b) (hn : ¬ (a = 0 ∧ b = 0)) : SL (pr z0 z0 z1 z2) (pr z1 z0 z1 z2) (pr z2 z0 z1 z2) := by
  have h1 : Thr (x : Rat) (y : Rat) ((x : Rat) + ((1 : Int) : Rat) * (a : Rat)) ((y : Rat) + ((1 : Int) : Rat) * (b : Rat)) (-b) a (x * b - y * a) := by
    refine ⟨1, by omega, ?_, ?_, ?_⟩
    · rw [Rat.intCast_neg, show ((1 : Int) : Rat) = 1 from rfl]; grind
    · rw [show ((1 : Int) : Rat) = 1 from rfl]; grind
    · rw [Rat.intCast_sub, Rat.intCast_mul, Rat.intCast_mul, show ((1 : Int) : Rat) = 1 from rfl]; grind
  obtain ⟨e1, e2, e3⟩ := thr_pr h h1
  have hz : ¬ (-b = 0 ∧ a = 0) := fun h0 => hn ⟨h0.2, by omega⟩
  have hg := gcd3_pos (x * b - y * a) hz
  have k1 := pr_abs (gcd3_dvd1 (-b) a (x * b - y * a)) hg
  have k2 := pr_abs (gcd3_dvd2 (-b) a (x * b - y * a)) hg
  have k3 := pr_abs (gcd3_dvd3 (-b) a (x * b - y * a)) hg
  have m1 := mul_small (a := x) (b := b) ⟨hv.1, hv.2.1⟩ ⟨hv'.2.2.1, hv'.2.2.2⟩
  have m2 := mul_small (a := y) (b := a) ⟨hv.2.2.1, hv.2.2.2⟩ ⟨hv'.1, hv'.2.1⟩
  have n1 := hv'.1
  have n2 := hv'.2.1
  have n3 := hv'.2.2.1
  have n4 := hv'.2.2.2
  rw [e1, e2, e3]
  exact ⟨pr_valid hz, by omega, by omega, by omega⟩
theorem tl_ne {x y a b : Int} (hn : ¬ (a = 0 ∧ b = 0)) : ¬ ((x : Rat) = (x : Rat) + ((1 : Int) : Rat) * (a : Rat) ∧ (y : Rat) = (y : Rat) + ((1 : Int) : Rat) * (b : Rat)) := by
  rintro ⟨h1, h2⟩
  rw [show ((1 : Int) : Rat) = 1 from rfl] at h1 h2
  exact hn ⟨Rat.intCast_inj.1 (show (a : Rat) = ((0 : Int) : Rat) by rw [show ((0 : Int) : Rat) = 0 from rfl]; grind), Rat.intCast_inj.1 (show (b : Rat) = ((0 : Int) : Rat) by rw [show ((0 : Int) : Rat) = 0 from rfl]; grind)⟩
theorem NI.one {v : Value} {z : Int} {s : Bool} (h : NI w s v z L) (hz : z.natAbs ≤ 32) : NI w s v z 1 := ⟨⟨h.1.1, by rw [Bs_one]; omega⟩, h.2⟩
set_option maxRecDepth 100000 in
set_option maxHeartbeats 4000000 in
theorem tl_v {b : Nat} (hT : Tape w b) (hb : b < w.heap.size) :
    Calls Tryz.prog 6 #[.pointer (some ⟨b, 0, none⟩)] w fun e w' => ∃ z0 z1 z2 : Int, ∃ s21 A21 n21 c21 s22 A22 n22 c22 s23 A23 n23 c23, e = .returned (.agg #[.bool s21, .slice A21 n21 c21, .bool s22, .slice A22 n22 c22, .bool s23, .slice A23 n23 c23]) ∧ SL z0 z1 z2 ∧ NI w' s21 (.slice A21 n21 c21) z0 1 ∧ NI w' s22 (.slice A22 n22 c22) z1 1 ∧ NI w' s23 (.slice A23 n23 c23) z2 1 ∧ Tape w' b ∧ w.grownBy w' (some b) := by
  go_enter Tryz.func6, Tryz.ntmps6
  go_wp2_with fail
  have G0 : w.grownBy w (some b) := ⟨rfl, rfl, rfl, Nat.le_refl _, fun _ _ _ => rfl⟩
  have hlt := hb
  obtain ⟨W0, hW, b9, hbW, hszW0⟩ := boxes1 w #[.bool false, .slice none 0 0, .bool false, .slice none 0 0, .bool false, .slice none 0 0] 36
  rw [hW]
  clear hW
  replace hT := hT.keep hbW hlt
  replace hlt := Nat.lt_of_lt_of_le hlt hbW.size
  replace G0 := only_below G0 hbW G0.size
  clear hbW
  refine (tp_v hT hlt).mono ?_
  rintro e w1 ⟨x, y, s8, A8, n8, c8, D8, m8, e8, s9, A9, n9, c9, D9, m9, e9, rfl, hv, g2, g3, hT', hg⟩
  replace b9 := b9.other hg (by omega)
  replace hlt := Nat.lt_of_lt_of_le hlt hg.size
  replace G0 := only_trans G0 hg
  clear hT
  have hT := hT'
  clear hT' hg
  have lb9_2 := b9.lt
  obtain ⟨W2, hW, b3, hbW, hszW2⟩ := boxes1 w1 #[.bool s8, .slice A8 n8 c8, .slice D8 m8 e8, .bool s9, .slice A9 n9 c9, .slice D9 m9 e9] 51
  skip
  skip
  replace g2 := g2.below hbW
  replace g3 := g3.below hbW
  replace b9 := b9.below hbW
  replace hT := hT.keep hbW hlt
  replace hlt := Nat.lt_of_lt_of_le hlt hbW.size
  replace G0 := only_below G0 hbW G0.size
  clear hbW
  have cb30 := b3.cell 0 _ rfl
  have cb31 := b3.cell 1 _ rfl
  have cb32 := b3.cell 2 _ rfl
  have cb33 := b3.cell 3 _ rfl
  have cb34 := b3.cell 4 _ rfl
  have cb35 := b3.cell 5 _ rfl
  go_wp2_with fail
  clear hW
  clear cb30 cb31 cb32 cb33 cb34 cb35
  go_cut [4] from 5 (fun s_4 wx => ∃ g z0 z1 z2 s21 A21 n21 c21 s22 A22 n22 c22 s23 A23 n23 c23, s_4 = .pointer (some ⟨g, 0, none⟩) ∧ SL z0 z1 z2 ∧ NI wx s21 (.slice A21 n21 c21) z0 1 ∧ NI wx s22 (.slice A22 n22 c22) z1 1 ∧ NI wx s23 (.slice A23 n23 c23) z2 1 ∧ Box wx g #[.bool s21, .slice A21 n21 c21, .bool s22, .slice A22 n22 c22, .bool s23, .slice A23 n23 c23] 36 ∧ Box wx (w.heap.size) #[.bool false, .slice none 0 0, .bool false, .slice none 0 0, .bool false, .slice none 0 0] 36 ∧ w.heap.size < g ∧ Tape wx b ∧ w.grownBy wx (some b) ∧ b < wx.heap.size)
  case first =>
    have hD := drawn_below W2
    replace g2 := g2.below hD
    replace g3 := g3.below hD
    replace b9 := b9.below hD
    replace b3 := b3.below hD
    replace hT := hT.keep hD hlt
    replace hlt := Nat.lt_of_lt_of_le hlt hD.size
    replace G0 := only_below G0 hD G0.size
    clear hD
    refine wp_region_noPanic ?_
    refine wp_region_held_drew (S := (fun V => V.cell? ⟨w1.heap.size, 0, none⟩ = some (.bool s8) ∧ V.cell? ⟨w1.heap.size, 1, none⟩ = some (.slice A8 n8 c8) ∧ V.cell? ⟨w1.heap.size, 2, none⟩ = some (.slice D8 m8 e8) ∧ V.cell? ⟨w1.heap.size, 3, none⟩ = some (.bool s9) ∧ V.cell? ⟨w1.heap.size, 4, none⟩ = some (.slice A9 n9 c9) ∧ V.cell? ⟨w1.heap.size, 5, none⟩ = some (.slice D9 m9 e9))) (by kernel_rfl) ⟨b3.cell 0 _ rfl, b3.cell 1 _ rfl, b3.cell 2 _ rfl, b3.cell 3 _ rfl, b3.cell 4 _ rfl, b3.cell 5 _ rfl⟩ (fun hHeld => ?_)
    generalize W2.drew = v3 at g2 g3 b9 b3 hT G0 hlt hHeld ⊢
    refine wpAnyH_take (i := 0) (v := ?_) rfl (by kernel_rfl) (by kernel_rfl) (by kernel_rfl) (fun _ _ _ h => h) (Or.inl ⟨by rfl, ?_⟩) (by assumption) ?_
    rotate_left
    · (intro w hSw; (try dsimp only at hSw); go_simp; (try with_reducible rfl))
    (try simp only [List.getElem_toArray, List.getElem_cons_zero, Act.put, List.setIfInBounds_toArray, List.set_cons_zero, List.set_cons_succ])
    refine wpAnyH_take (i := 1) (v := ?_) rfl (by kernel_rfl) (by kernel_rfl) (by kernel_rfl) (fun _ _ _ h => h) (Or.inl ⟨by rfl, ?_⟩) (by assumption) ?_
    rotate_left
    · (intro w hSw; (try dsimp only at hSw); go_simp; (try with_reducible rfl))
    (try simp only [List.getElem_toArray, List.getElem_cons_succ, List.getElem_cons_zero, Act.put, List.setIfInBounds_toArray, List.set_cons_zero, List.set_cons_succ])
    refine wpAnyH_take (i := 3) (v := ?_) rfl (by kernel_rfl) (by kernel_rfl) (by kernel_rfl) (fun _ _ _ h => h) (Or.inl ⟨by rfl, ?_⟩) (by assumption) ?_
    rotate_left
    · (intro w hSw; (try dsimp only at hSw); go_simp; (try with_reducible rfl))
    (try simp only [List.getElem_toArray, List.getElem_cons_succ, List.getElem_cons_zero, Act.put, List.setIfInBounds_toArray, List.set_cons_zero, List.set_cons_succ])
    refine wpAnyH_ready (rs := [2, 10]) (by kernel_rfl) (by simp) (AllReadyH.cons (o := _) rfl (fun K hK => ?_) (AllReadyH.cons (o := _) rfl (fun K hK => ?_) AllReadyH.nil))
    · go_simp
      go_at_call 16
      refine (nof_v 1 (by decide) (by decide) _).mono ?_
      rintro e y4 ⟨s10, A10, n10, c10, D10, m10, e10, rfl, g10, hb9⟩
      replace g2 := g2.below hb9
      replace g3 := g3.below hb9
      replace b9 := b9.below hb9
      replace b3 := b3.below hb9
      replace hT := hT.keep hb9 hlt
      replace hlt := Nat.lt_of_lt_of_le hlt hb9.size
      replace G0 := only_below G0 hb9 G0.size
      clear hb9
      go_wp2_with fail
      refine hK.out _ _ ⟨b3.cell 0 _ rfl, b3.cell 1 _ rfl, b3.cell 2 _ rfl, b3.cell 3 _ rfl, b3.cell 4 _ rfl, b3.cell 5 _ rfl⟩ (fun hHeld => ?_)
      clear hK K
      (try simp only [List.getElem_toArray, List.getElem_cons_succ, List.getElem_cons_zero, Act.put, List.setIfInBounds_toArray, List.set_cons_zero, List.set_cons_succ])
      refine wpAnyH_ready (rs := [4, 10]) (by kernel_rfl) (by simp) (AllReadyH.cons (o := _) rfl (fun K hK => ?_) (AllReadyH.cons (o := _) rfl (fun K hK => ?_) AllReadyH.nil))
      · go_simp
        go_at_call 17
        refine (tv_v hT hlt).mono ?_
        rintro e y5 ⟨x1, y1, s12, A12, n12, c12, D12, m12, e12, s13, A13, n13, c13, D13, m13, e13, rfl, hv1, hn1, g12, g13, hT', hg⟩
        replace g2 := g2.tape hT hg
        replace g3 := g3.tape hT hg
        replace g10 := g10.tape hT hg
        replace b9 := b9.other hg (by omega)
        replace b3 := b3.other hg (by omega)
        replace hlt := Nat.lt_of_lt_of_le hlt hg.size
        replace G0 := only_trans G0 hg
        clear hT
        have hT := hT'
        clear hT' hg
        go_wp2_with fail
        refine hK.out _ _ ⟨b3.cell 0 _ rfl, b3.cell 1 _ rfl, b3.cell 2 _ rfl, b3.cell 3 _ rfl, b3.cell 4 _ rfl, b3.cell 5 _ rfl⟩ (fun hHeld => ?_)
        clear hK K
        (try simp only [List.getElem_toArray, List.getElem_cons_succ, List.getElem_cons_zero, Act.put, List.setIfInBounds_toArray, List.set_cons_zero, List.set_cons_succ])
        refine wpAnyH_ready (rs := [5, 10]) (by kernel_rfl) (by simp) (AllReadyH.cons (o := _) rfl (fun K hK => ?_) (AllReadyH.cons (o := _) rfl (fun K hK => ?_) AllReadyH.nil))
        · go_simp
          go_at_call 15
          refine (gadd_v g2 g3 g10 g12 g13 (by omega) (by omega) (by omega)).mono ?_
          rintro e y6 ⟨s14, A14, n14, c14, D14, m14, e14, s15, A15, n15, c15, D15, m15, e15, rfl, g14, g15, hb9⟩
          replace g2 := g2.below hb9
          replace g3 := g3.below hb9
          replace g10 := g10.below hb9
          replace g12 := g12.below hb9
          replace g13 := g13.below hb9
          replace b9 := b9.below hb9
          replace b3 := b3.below hb9
          replace hT := hT.keep hb9 hlt
          replace hlt := Nat.lt_of_lt_of_le hlt hb9.size
          replace G0 := only_below G0 hb9 G0.size
          clear hb9
          clear g10
          clear g12
          clear g13
          go_wp2_with fail
          refine hK.out _ _ ⟨b3.cell 0 _ rfl, b3.cell 1 _ rfl, b3.cell 2 _ rfl, b3.cell 3 _ rfl, b3.cell 4 _ rfl, b3.cell 5 _ rfl⟩ (fun hHeld => ?_)
          clear hK K
          (try simp only [List.getElem_toArray, List.getElem_cons_succ, List.getElem_cons_zero, Act.put, List.setIfInBounds_toArray, List.set_cons_zero, List.set_cons_succ])
          refine wpAnyH_ready (rs := [6, 10]) (by kernel_rfl) (by simp) (AllReadyH.cons (o := _) rfl (fun K hK => ?_) (AllReadyH.cons (o := _) rfl (fun K hK => ?_) AllReadyH.nil))
          · go_simp
            go_at_call 14
            refine (gthrough_v (g2.more (by decide)) (g3.more (by decide)) (g14.more (by decide)) (g15.more (by decide)) (tl_ne hn1)).mono ?_
            rintro e y7 ⟨z0, z1, z2, s21, A21, n21, c21, s22, A22, n22, c22, s23, A23, n23, c23, rfl, ht, g21, g22, g23, hb9⟩
            replace g2 := g2.below hb9
            replace g3 := g3.below hb9
            replace g14 := g14.below hb9
            replace g15 := g15.below hb9
            replace b9 := b9.below hb9
            replace b3 := b3.below hb9
            replace hT := hT.keep hb9 hlt
            replace hlt := Nat.lt_of_lt_of_le hlt hb9.size
            replace G0 := only_below G0 hb9 G0.size
            clear hb9
            clear g14
            clear g15
            go_wp2_with fail
            refine hK.out _ _ ⟨b3.cell 0 _ rfl, b3.cell 1 _ rfl, b3.cell 2 _ rfl, b3.cell 3 _ rfl, b3.cell 4 _ rfl, b3.cell 5 _ rfl⟩ (fun hHeld => ?_)
            clear hK K
            (try simp only [List.getElem_toArray, List.getElem_cons_succ, List.getElem_cons_zero, Act.put, List.setIfInBounds_toArray, List.set_cons_zero, List.set_cons_succ])
            refine wpAnyH_take (i := 7) (v := ?_) rfl (by kernel_rfl) (by kernel_rfl) (by kernel_rfl) (fun _ _ _ h => h) (Or.inl ⟨by rfl, ?_⟩) (by assumption) ?_
            rotate_left
            · (intro w hSw; (try dsimp only at hSw); go_simp; (try with_reducible rfl))
            (try simp only [List.getElem_toArray, List.getElem_cons_succ, List.getElem_cons_zero, Act.put, List.setIfInBounds_toArray, List.set_cons_zero, List.set_cons_succ])
            refine wpAnyH_take (i := 8) (v := ?_) rfl (by kernel_rfl) (by kernel_rfl) (by kernel_rfl) (fun _ _ _ h => h) (Or.inl ⟨by rfl, ?_⟩) (by assumption) ?_
            rotate_left
            · (intro w hSw; (try dsimp only at hSw); go_simp; (try with_reducible rfl))
            (try simp only [List.getElem_toArray, List.getElem_cons_succ, List.getElem_cons_zero, Act.put, List.setIfInBounds_toArray, List.set_cons_zero, List.set_cons_succ])
            refine wpAnyH_take (i := 9) (v := ?_) rfl (by kernel_rfl) (by kernel_rfl) (by kernel_rfl) (fun _ _ _ h => h) (Or.inl ⟨by rfl, ?_⟩) (by assumption) ?_
            rotate_left
            · (intro w hSw; (try dsimp only at hSw); go_simp; (try with_reducible rfl))
            (try simp only [List.getElem_toArray, List.getElem_cons_succ, List.getElem_cons_zero, Act.put, List.setIfInBounds_toArray, List.set_cons_zero, List.set_cons_succ])
            refine wpAnyH_ready (rs := [10]) (by kernel_rfl) (by simp) (AllReadyH.cons (o := _) rfl (fun K hK => ?_) AllReadyH.nil)
            have lb9_8 := b9.lt
            have lb3_8 := b3.lt
            go_simp
            obtain ⟨y8, hV, b4, hb9, szy8⟩ := boxes1 y7 #[.bool false, .slice none 0 0, .bool false, .slice none 0 0, .bool false, .slice none 0 0] 36
            rw [hV]
            clear hV
            replace g2 := g2.below hb9
            replace g3 := g3.below hb9
            replace g21 := g21.below hb9
            replace g22 := g22.below hb9
            replace g23 := g23.below hb9
            replace b9 := b9.below hb9
            replace b3 := b3.below hb9
            replace hT := hT.keep hb9 hlt
            replace hlt := Nat.lt_of_lt_of_le hlt hb9.size
            replace G0 := only_below G0 hb9 G0.size
            clear hb9
            refine hK.out _ _ ⟨b3.cell 0 _ rfl, b3.cell 1 _ rfl, b3.cell 2 _ rfl, b3.cell 3 _ rfl, b3.cell 4 _ rfl, b3.cell 5 _ rfl⟩ (fun hHeld => ?_)
            clear hK K
            (try simp only [List.getElem_toArray, List.getElem_cons_succ, List.getElem_cons_zero, Act.put, List.setIfInBounds_toArray, List.set_cons_zero, List.set_cons_succ])
            have cb40 := b4.cell 0 _ rfl
            have yb40 := b4.frozen 0
            have cb41 := b4.cell 1 _ rfl
            have yb41 := b4.frozen 1
            have cb42 := b4.cell 2 _ rfl
            have yb42 := b4.frozen 2
            have cb43 := b4.cell 3 _ rfl
            have yb43 := b4.frozen 3
            have cb44 := b4.cell 4 _ rfl
            have yb44 := b4.frozen 4
            have cb45 := b4.cell 5 _ rfl
            have yb45 := b4.frozen 5
            refine wpAnyH_ready (rs := [11]) (by kernel_rfl) (by simp) (AllReadyH.cons (o := _) rfl (fun K hK => ?_) AllReadyH.nil)
            go_simp
            clear cb40 yb40 cb41 yb41 cb42 yb42 cb43 yb43 cb44 yb44 cb45 yb45
            have hg := only_store6 y8 (y7.heap.size) (.bool s21) (.slice A21 n21 c21) (.bool s22) (.slice A22 n22 c22) (.bool s23) (.slice A23 n23 c23)
            have hB := b4.stored6 (.bool s21) (.slice A21 n21 c21) (.bool s22) (.slice A22 n22 c22) (.bool s23) (.slice A23 n23 c23)
            generalize hX : ((((((y8.setCell ⟨y7.heap.size, 0, none⟩ (.bool s21)).setCell ⟨y7.heap.size, 1, none⟩ (.slice A21 n21 c21)).setCell ⟨y7.heap.size, 2, none⟩ (.bool s22)).setCell ⟨y7.heap.size, 3, none⟩ (.slice A22 n22 c22)).setCell ⟨y7.heap.size, 4, none⟩ (.bool s23)).setCell ⟨y7.heap.size, 5, none⟩ (.slice A23 n23 c23)) = X9 at hg hB ⊢
            clear hX
            replace g2 := g2.kept b4 (by simp [notInt]) hg
            replace g3 := g3.kept b4 (by simp [notInt]) hg
            replace g21 := g21.kept b4 (by simp [notInt]) hg
            replace g22 := g22.kept b4 (by simp [notInt]) hg
            replace g23 := g23.kept b4 (by simp [notInt]) hg
            replace b9 := b9.other hg (by omega)
            replace b3 := b3.other hg (by omega)
            replace b4 := hB
            have hBs := below_only (Below.refl w.heap.size y8) hg (by omega) G0.size
            replace hT := hT.keep hBs hb
            replace G0 := only_below G0 hBs (Nat.le_refl _)
            replace hlt := Nat.lt_of_lt_of_le hlt hg.size
            clear hg hB hBs
            refine hK.out _ _ ⟨b3.cell 0 _ rfl, b3.cell 1 _ rfl, b3.cell 2 _ rfl, b3.cell 3 _ rfl, b3.cell 4 _ rfl, b3.cell 5 _ rfl⟩ (fun hHeld => ?_)
            clear hK K
            (try simp only [List.getElem_toArray, List.getElem_cons_succ, List.getElem_cons_zero, Act.put, List.setIfInBounds_toArray, List.set_cons_zero, List.set_cons_succ])
            refine wpAnyH_take (i := 12) (v := ?_) rfl (by kernel_rfl) (by kernel_rfl) (by kernel_rfl) (fun _ _ _ h => h) (Or.inl ⟨by rfl, ?_⟩) (by assumption) ?_
            rotate_left
            · (intro w hSw; (try dsimp only at hSw); go_simp; (try with_reducible rfl))
            (try simp only [List.getElem_toArray, List.getElem_cons_succ, List.getElem_cons_zero, Act.put, List.setIfInBounds_toArray, List.set_cons_zero, List.set_cons_succ])
            refine wpAnyH_done (by kernel_rfl) ?_ _
            refine NoPanic.normal ?_
            go_wp2_with fail
            go_meet
            have hsl := tl_small ht hv hv1 hn1
            exact ⟨_, _, _, _, s21, A21, n21, c21, s22, A22, n22, c22, s23, A23, n23, c23, rfl, hsl, NI.one g21 (by have := hsl.2.1; omega), NI.one g22 (by have := hsl.2.2.1; omega), NI.one g23 hsl.2.2.2, b4, b9, by omega, hT, G0, hlt⟩
          · have lb9_7 := b9.lt
            have lb3_7 := b3.lt
            go_simp
            obtain ⟨y7, hV, b4, hb9, szy7⟩ := boxes1 y6 #[.bool false, .slice none 0 0, .bool false, .slice none 0 0, .bool false, .slice none 0 0] 36
            rw [hV]
            clear hV
            replace g2 := g2.below hb9
            replace g3 := g3.below hb9
            replace g14 := g14.below hb9
            replace g15 := g15.below hb9
            replace b9 := b9.below hb9
            replace b3 := b3.below hb9
            replace hT := hT.keep hb9 hlt
            replace hlt := Nat.lt_of_lt_of_le hlt hb9.size
            replace G0 := only_below G0 hb9 G0.size
            clear hb9
            refine hK.out _ _ ⟨b3.cell 0 _ rfl, b3.cell 1 _ rfl, b3.cell 2 _ rfl, b3.cell 3 _ rfl, b3.cell 4 _ rfl, b3.cell 5 _ rfl⟩ (fun hHeld => ?_)
            clear hK K
            (try simp only [List.getElem_toArray, List.getElem_cons_succ, List.getElem_cons_zero, Act.put, List.setIfInBounds_toArray, List.set_cons_zero, List.set_cons_succ])
            refine wpAnyH_ready (rs := [6]) (by kernel_rfl) (by simp) (AllReadyH.cons (o := _) rfl (fun K hK => ?_) AllReadyH.nil)
            go_simp
            go_at_call 14
            refine (gthrough_v (g2.more (by decide)) (g3.more (by decide)) (g14.more (by decide)) (g15.more (by decide)) (tl_ne hn1)).mono ?_
            rintro e y8 ⟨z0, z1, z2, s21, A21, n21, c21, s22, A22, n22, c22, s23, A23, n23, c23, rfl, ht, g21, g22, g23, hb9⟩
            replace g2 := g2.below hb9
            replace g3 := g3.below hb9
            replace g14 := g14.below hb9
            replace g15 := g15.below hb9
            replace b9 := b9.below hb9
            replace b3 := b3.below hb9
            replace b4 := b4.below hb9
            replace hT := hT.keep hb9 hlt
            replace hlt := Nat.lt_of_lt_of_le hlt hb9.size
            replace G0 := only_below G0 hb9 G0.size
            clear hb9
            clear g14
            clear g15
            go_wp2_with fail
            refine hK.out _ _ ⟨b3.cell 0 _ rfl, b3.cell 1 _ rfl, b3.cell 2 _ rfl, b3.cell 3 _ rfl, b3.cell 4 _ rfl, b3.cell 5 _ rfl⟩ (fun hHeld => ?_)
            clear hK K
            (try simp only [List.getElem_toArray, List.getElem_cons_succ, List.getElem_cons_zero, Act.put, List.setIfInBounds_toArray, List.set_cons_zero, List.set_cons_succ])
            refine wpAnyH_take (i := 7) (v := ?_) rfl (by kernel_rfl) (by kernel_rfl) (by kernel_rfl) (fun _ _ _ h => h) (Or.inl ⟨by rfl, ?_⟩) (by assumption) ?_
            rotate_left
            · (intro w hSw; (try dsimp only at hSw); go_simp; (try with_reducible rfl))
            (try simp only [List.getElem_toArray, List.getElem_cons_succ, List.getElem_cons_zero, Act.put, List.setIfInBounds_toArray, List.set_cons_zero, List.set_cons_succ])
            refine wpAnyH_take (i := 8) (v := ?_) rfl (by kernel_rfl) (by kernel_rfl) (by kernel_rfl) (fun _ _ _ h => h) (Or.inl ⟨by rfl, ?_⟩) (by assumption) ?_
            rotate_left
            · (intro w hSw; (try dsimp only at hSw); go_simp; (try with_reducible rfl))
            (try simp only [List.getElem_toArray, List.getElem_cons_succ, List.getElem_cons_zero, Act.put, List.setIfInBounds_toArray, List.set_cons_zero, List.set_cons_succ])
            refine wpAnyH_take (i := 9) (v := ?_) rfl (by kernel_rfl) (by kernel_rfl) (by kernel_rfl) (fun _ _ _ h => h) (Or.inl ⟨by rfl, ?_⟩) (by assumption) ?_
            rotate_left
            · (intro w hSw; (try dsimp only at hSw); go_simp; (try with_reducible rfl))
            (try simp only [List.getElem_toArray, List.getElem_cons_succ, List.getElem_cons_zero, Act.put, List.setIfInBounds_toArray, List.set_cons_zero, List.set_cons_succ])
            have cb40 := b4.cell 0 _ rfl
            have yb40 := b4.frozen 0
            have cb41 := b4.cell 1 _ rfl
            have yb41 := b4.frozen 1
            have cb42 := b4.cell 2 _ rfl
            have yb42 := b4.frozen 2
            have cb43 := b4.cell 3 _ rfl
            have yb43 := b4.frozen 3
            have cb44 := b4.cell 4 _ rfl
            have yb44 := b4.frozen 4
            have cb45 := b4.cell 5 _ rfl
            have yb45 := b4.frozen 5
            refine wpAnyH_ready (rs := [11]) (by kernel_rfl) (by simp) (AllReadyH.cons (o := _) rfl (fun K hK => ?_) AllReadyH.nil)
            go_simp
            clear cb40 yb40 cb41 yb41 cb42 yb42 cb43 yb43 cb44 yb44 cb45 yb45
            have hg := only_store6 y8 (y6.heap.size) (.bool s21) (.slice A21 n21 c21) (.bool s22) (.slice A22 n22 c22) (.bool s23) (.slice A23 n23 c23)
            have hB := b4.stored6 (.bool s21) (.slice A21 n21 c21) (.bool s22) (.slice A22 n22 c22) (.bool s23) (.slice A23 n23 c23)
            generalize hX : ((((((y8.setCell ⟨y6.heap.size, 0, none⟩ (.bool s21)).setCell ⟨y6.heap.size, 1, none⟩ (.slice A21 n21 c21)).setCell ⟨y6.heap.size, 2, none⟩ (.bool s22)).setCell ⟨y6.heap.size, 3, none⟩ (.slice A22 n22 c22)).setCell ⟨y6.heap.size, 4, none⟩ (.bool s23)).setCell ⟨y6.heap.size, 5, none⟩ (.slice A23 n23 c23)) = X9 at hg hB ⊢
            clear hX
            replace g2 := g2.kept b4 (by simp [notInt]) hg
            replace g3 := g3.kept b4 (by simp [notInt]) hg
            replace g21 := g21.kept b4 (by simp [notInt]) hg
            replace g22 := g22.kept b4 (by simp [notInt]) hg
            replace g23 := g23.kept b4 (by simp [notInt]) hg
            replace b9 := b9.other hg (by omega)
            replace b3 := b3.other hg (by omega)
            replace b4 := hB
            have hBs := below_only (Below.refl w.heap.size y8) hg (by omega) G0.size
            replace hT := hT.keep hBs hb
            replace G0 := only_below G0 hBs (Nat.le_refl _)
            replace hlt := Nat.lt_of_lt_of_le hlt hg.size
            clear hg hB hBs
            refine hK.out _ _ ⟨b3.cell 0 _ rfl, b3.cell 1 _ rfl, b3.cell 2 _ rfl, b3.cell 3 _ rfl, b3.cell 4 _ rfl, b3.cell 5 _ rfl⟩ (fun hHeld => ?_)
            clear hK K
            (try simp only [List.getElem_toArray, List.getElem_cons_succ, List.getElem_cons_zero, Act.put, List.setIfInBounds_toArray, List.set_cons_zero, List.set_cons_succ])
            refine wpAnyH_take (i := 12) (v := ?_) rfl (by kernel_rfl) (by kernel_rfl) (by kernel_rfl) (fun _ _ _ h => h) (Or.inl ⟨by rfl, ?_⟩) (by assumption) ?_
            rotate_left
            · (intro w hSw; (try dsimp only at hSw); go_simp; (try with_reducible rfl))
            (try simp only [List.getElem_toArray, List.getElem_cons_succ, List.getElem_cons_zero, Act.put, List.setIfInBounds_toArray, List.set_cons_zero, List.set_cons_succ])
            refine wpAnyH_done (by kernel_rfl) ?_ _
            refine NoPanic.normal ?_
            go_wp2_with fail
            go_meet
            have hsl := tl_small ht hv hv1 hn1
            exact ⟨_, _, _, _, s21, A21, n21, c21, s22, A22, n22, c22, s23, A23, n23, c23, rfl, hsl, NI.one g21 (by have := hsl.2.1; omega), NI.one g22 (by have := hsl.2.2.1; omega), NI.one g23 hsl.2.2.2, b4, b9, by omega, hT, G0, hlt⟩
        · have lb9_6 := b9.lt
          have lb3_6 := b3.lt
          go_simp
          obtain ⟨y6, hV, b4, hb9, szy6⟩ := boxes1 y5 #[.bool false, .slice none 0 0, .bool false, .slice none 0 0, .bool false, .slice none 0 0] 36
          rw [hV]
          clear hV
          replace g2 := g2.below hb9
          replace g3 := g3.below hb9
          replace g10 := g10.below hb9
          replace g12 := g12.below hb9
          replace g13 := g13.below hb9
          replace b9 := b9.below hb9
          replace b3 := b3.below hb9
          replace hT := hT.keep hb9 hlt
          replace hlt := Nat.lt_of_lt_of_le hlt hb9.size
          replace G0 := only_below G0 hb9 G0.size
          clear hb9
          refine hK.out _ _ ⟨b3.cell 0 _ rfl, b3.cell 1 _ rfl, b3.cell 2 _ rfl, b3.cell 3 _ rfl, b3.cell 4 _ rfl, b3.cell 5 _ rfl⟩ (fun hHeld => ?_)
          clear hK K
          (try simp only [List.getElem_toArray, List.getElem_cons_succ, List.getElem_cons_zero, Act.put, List.setIfInBounds_toArray, List.set_cons_zero, List.set_cons_succ])
          refine wpAnyH_ready (rs := [5]) (by kernel_rfl) (by simp) (AllReadyH.cons (o := _) rfl (fun K hK => ?_) AllReadyH.nil)
          go_simp
          go_at_call 15
          refine (gadd_v g2 g3 g10 g12 g13 (by omega) (by omega) (by omega)).mono ?_
          rintro e y7 ⟨s14, A14, n14, c14, D14, m14, e14, s15, A15, n15, c15, D15, m15, e15, rfl, g14, g15, hb9⟩
          replace g2 := g2.below hb9
          replace g3 := g3.below hb9
          replace g10 := g10.below hb9
          replace g12 := g12.below hb9
          replace g13 := g13.below hb9
          replace b9 := b9.below hb9
          replace b3 := b3.below hb9
          replace b4 := b4.below hb9
          replace hT := hT.keep hb9 hlt
          replace hlt := Nat.lt_of_lt_of_le hlt hb9.size
          replace G0 := only_below G0 hb9 G0.size
          clear hb9
          clear g10
          clear g12
          clear g13
          go_wp2_with fail
          refine hK.out _ _ ⟨b3.cell 0 _ rfl, b3.cell 1 _ rfl, b3.cell 2 _ rfl, b3.cell 3 _ rfl, b3.cell 4 _ rfl, b3.cell 5 _ rfl⟩ (fun hHeld => ?_)
          clear hK K
          (try simp only [List.getElem_toArray, List.getElem_cons_succ, List.getElem_cons_zero, Act.put, List.setIfInBounds_toArray, List.set_cons_zero, List.set_cons_succ])
          refine wpAnyH_ready (rs := [6]) (by kernel_rfl) (by simp) (AllReadyH.cons (o := _) rfl (fun K hK => ?_) AllReadyH.nil)
          go_simp
          go_at_call 14
          refine (gthrough_v (g2.more (by decide)) (g3.more (by decide)) (g14.more (by decide)) (g15.more (by decide)) (tl_ne hn1)).mono ?_
          rintro e y8 ⟨z0, z1, z2, s21, A21, n21, c21, s22, A22, n22, c22, s23, A23, n23, c23, rfl, ht, g21, g22, g23, hb9⟩
          replace g2 := g2.below hb9
          replace g3 := g3.below hb9
          replace g14 := g14.below hb9
          replace g15 := g15.below hb9
          replace b9 := b9.below hb9
          replace b3 := b3.below hb9
          replace b4 := b4.below hb9
          replace hT := hT.keep hb9 hlt
          replace hlt := Nat.lt_of_lt_of_le hlt hb9.size
          replace G0 := only_below G0 hb9 G0.size
          clear hb9
          clear g14
          clear g15
          go_wp2_with fail
          refine hK.out _ _ ⟨b3.cell 0 _ rfl, b3.cell 1 _ rfl, b3.cell 2 _ rfl, b3.cell 3 _ rfl, b3.cell 4 _ rfl, b3.cell 5 _ rfl⟩ (fun hHeld => ?_)
          clear hK K
          (try simp only [List.getElem_toArray, List.getElem_cons_succ, List.getElem_cons_zero, Act.put, List.setIfInBounds_toArray, List.set_cons_zero, List.set_cons_succ])
          refine wpAnyH_take (i := 7) (v := ?_) rfl (by kernel_rfl) (by kernel_rfl) (by kernel_rfl) (fun _ _ _ h => h) (Or.inl ⟨by rfl, ?_⟩) (by assumption) ?_
          rotate_left
          · (intro w hSw; (try dsimp only at hSw); go_simp; (try with_reducible rfl))
          (try simp only [List.getElem_toArray, List.getElem_cons_succ, List.getElem_cons_zero, Act.put, List.setIfInBounds_toArray, List.set_cons_zero, List.set_cons_succ])
          refine wpAnyH_take (i := 8) (v := ?_) rfl (by kernel_rfl) (by kernel_rfl) (by kernel_rfl) (fun _ _ _ h => h) (Or.inl ⟨by rfl, ?_⟩) (by assumption) ?_
          rotate_left
          · (intro w hSw; (try dsimp only at hSw); go_simp; (try with_reducible rfl))
          (try simp only [List.getElem_toArray, List.getElem_cons_succ, List.getElem_cons_zero, Act.put, List.setIfInBounds_toArray, List.set_cons_zero, List.set_cons_succ])
          refine wpAnyH_take (i := 9) (v := ?_) rfl (by kernel_rfl) (by kernel_rfl) (by kernel_rfl) (fun _ _ _ h => h) (Or.inl ⟨by rfl, ?_⟩) (by assumption) ?_
          rotate_left
          · (intro w hSw; (try dsimp only at hSw); go_simp; (try with_reducible rfl))
          (try simp only [List.getElem_toArray, List.getElem_cons_succ, List.getElem_cons_zero, Act.put, List.setIfInBounds_toArray, List.set_cons_zero, List.set_cons_succ])
          have cb40 := b4.cell 0 _ rfl
          have yb40 := b4.frozen 0
          have cb41 := b4.cell 1 _ rfl
          have yb41 := b4.frozen 1
          have cb42 := b4.cell 2 _ rfl
          have yb42 := b4.frozen 2
          have cb43 := b4.cell 3 _ rfl
          have yb43 := b4.frozen 3
          have cb44 := b4.cell 4 _ rfl
          have yb44 := b4.frozen 4
          have cb45 := b4.cell 5 _ rfl
          have yb45 := b4.frozen 5
          refine wpAnyH_ready (rs := [11]) (by kernel_rfl) (by simp) (AllReadyH.cons (o := _) rfl (fun K hK => ?_) AllReadyH.nil)
          go_simp
          clear cb40 yb40 cb41 yb41 cb42 yb42 cb43 yb43 cb44 yb44 cb45 yb45
          have hg := only_store6 y8 (y5.heap.size) (.bool s21) (.slice A21 n21 c21) (.bool s22) (.slice A22 n22 c22) (.bool s23) (.slice A23 n23 c23)
          have hB := b4.stored6 (.bool s21) (.slice A21 n21 c21) (.bool s22) (.slice A22 n22 c22) (.bool s23) (.slice A23 n23 c23)
          generalize hX : ((((((y8.setCell ⟨y5.heap.size, 0, none⟩ (.bool s21)).setCell ⟨y5.heap.size, 1, none⟩ (.slice A21 n21 c21)).setCell ⟨y5.heap.size, 2, none⟩ (.bool s22)).setCell ⟨y5.heap.size, 3, none⟩ (.slice A22 n22 c22)).setCell ⟨y5.heap.size, 4, none⟩ (.bool s23)).setCell ⟨y5.heap.size, 5, none⟩ (.slice A23 n23 c23)) = X9 at hg hB ⊢
          clear hX
          replace g2 := g2.kept b4 (by simp [notInt]) hg
          replace g3 := g3.kept b4 (by simp [notInt]) hg
          replace g21 := g21.kept b4 (by simp [notInt]) hg
          replace g22 := g22.kept b4 (by simp [notInt]) hg
          replace g23 := g23.kept b4 (by simp [notInt]) hg
          replace b9 := b9.other hg (by omega)
          replace b3 := b3.other hg (by omega)
          replace b4 := hB
          have hBs := below_only (Below.refl w.heap.size y8) hg (by omega) G0.size
          replace hT := hT.keep hBs hb
          replace G0 := only_below G0 hBs (Nat.le_refl _)
          replace hlt := Nat.lt_of_lt_of_le hlt hg.size
          clear hg hB hBs
          refine hK.out _ _ ⟨b3.cell 0 _ rfl, b3.cell 1 _ rfl, b3.cell 2 _ rfl, b3.cell 3 _ rfl, b3.cell 4 _ rfl, b3.cell 5 _ rfl⟩ (fun hHeld => ?_)
          clear hK K
          (try simp only [List.getElem_toArray, List.getElem_cons_succ, List.getElem_cons_zero, Act.put, List.setIfInBounds_toArray, List.set_cons_zero, List.set_cons_succ])
          refine wpAnyH_take (i := 12) (v := ?_) rfl (by kernel_rfl) (by kernel_rfl) (by kernel_rfl) (fun _ _ _ h => h) (Or.inl ⟨by rfl, ?_⟩) (by assumption) ?_
          rotate_left
          · (intro w hSw; (try dsimp only at hSw); go_simp; (try with_reducible rfl))
          (try simp only [List.getElem_toArray, List.getElem_cons_succ, List.getElem_cons_zero, Act.put, List.setIfInBounds_toArray, List.set_cons_zero, List.set_cons_succ])
          refine wpAnyH_done (by kernel_rfl) ?_ _
          refine NoPanic.normal ?_
          go_wp2_with fail
          go_meet
          have hsl := tl_small ht hv hv1 hn1
          exact ⟨_, _, _, _, s21, A21, n21, c21, s22, A22, n22, c22, s23, A23, n23, c23, rfl, hsl, NI.one g21 (by have := hsl.2.1; omega), NI.one g22 (by have := hsl.2.2.1; omega), NI.one g23 hsl.2.2.2, b4, b9, by omega, hT, G0, hlt⟩
      · have lb9_5 := b9.lt
        have lb3_5 := b3.lt
        go_simp
        obtain ⟨y5, hV, b4, hb9, szy5⟩ := boxes1 y4 #[.bool false, .slice none 0 0, .bool false, .slice none 0 0, .bool false, .slice none 0 0] 36
        rw [hV]
        clear hV
        replace g2 := g2.below hb9
        replace g3 := g3.below hb9
        replace g10 := g10.below hb9
        replace b9 := b9.below hb9
        replace b3 := b3.below hb9
        replace hT := hT.keep hb9 hlt
        replace hlt := Nat.lt_of_lt_of_le hlt hb9.size
        replace G0 := only_below G0 hb9 G0.size
        clear hb9
        refine hK.out _ _ ⟨b3.cell 0 _ rfl, b3.cell 1 _ rfl, b3.cell 2 _ rfl, b3.cell 3 _ rfl, b3.cell 4 _ rfl, b3.cell 5 _ rfl⟩ (fun hHeld => ?_)
        clear hK K
        (try simp only [List.getElem_toArray, List.getElem_cons_succ, List.getElem_cons_zero, Act.put, List.setIfInBounds_toArray, List.set_cons_zero, List.set_cons_succ])
        refine wpAnyH_ready (rs := [4]) (by kernel_rfl) (by simp) (AllReadyH.cons (o := _) rfl (fun K hK => ?_) AllReadyH.nil)
        go_simp
        go_at_call 17
        refine (tv_v hT hlt).mono ?_
        rintro e y6 ⟨x1, y1, s12, A12, n12, c12, D12, m12, e12, s13, A13, n13, c13, D13, m13, e13, rfl, hv1, hn1, g12, g13, hT', hg⟩
        replace g2 := g2.tape hT hg
        replace g3 := g3.tape hT hg
        replace g10 := g10.tape hT hg
        replace b9 := b9.other hg (by omega)
        replace b3 := b3.other hg (by omega)
        replace b4 := b4.other hg (by omega)
        replace hlt := Nat.lt_of_lt_of_le hlt hg.size
        replace G0 := only_trans G0 hg
        clear hT
        have hT := hT'
        clear hT' hg
        go_wp2_with fail
        refine hK.out _ _ ⟨b3.cell 0 _ rfl, b3.cell 1 _ rfl, b3.cell 2 _ rfl, b3.cell 3 _ rfl, b3.cell 4 _ rfl, b3.cell 5 _ rfl⟩ (fun hHeld => ?_)
        clear hK K
        (try simp only [List.getElem_toArray, List.getElem_cons_succ, List.getElem_cons_zero, Act.put, List.setIfInBounds_toArray, List.set_cons_zero, List.set_cons_succ])
        refine wpAnyH_ready (rs := [5]) (by kernel_rfl) (by simp) (AllReadyH.cons (o := _) rfl (fun K hK => ?_) AllReadyH.nil)
        go_simp
        go_at_call 15
        refine (gadd_v g2 g3 g10 g12 g13 (by omega) (by omega) (by omega)).mono ?_
        rintro e y7 ⟨s14, A14, n14, c14, D14, m14, e14, s15, A15, n15, c15, D15, m15, e15, rfl, g14, g15, hb9⟩
        replace g2 := g2.below hb9
        replace g3 := g3.below hb9
        replace g10 := g10.below hb9
        replace g12 := g12.below hb9
        replace g13 := g13.below hb9
        replace b9 := b9.below hb9
        replace b3 := b3.below hb9
        replace b4 := b4.below hb9
        replace hT := hT.keep hb9 hlt
        replace hlt := Nat.lt_of_lt_of_le hlt hb9.size
        replace G0 := only_below G0 hb9 G0.size
        clear hb9
        clear g10
        clear g12
        clear g13
        go_wp2_with fail
        refine hK.out _ _ ⟨b3.cell 0 _ rfl, b3.cell 1 _ rfl, b3.cell 2 _ rfl, b3.cell 3 _ rfl, b3.cell 4 _ rfl, b3.cell 5 _ rfl⟩ (fun hHeld => ?_)
        clear hK K
        (try simp only [List.getElem_toArray, List.getElem_cons_succ, List.getElem_cons_zero, Act.put, List.setIfInBounds_toArray, List.set_cons_zero, List.set_cons_succ])
        refine wpAnyH_ready (rs := [6]) (by kernel_rfl) (by simp) (AllReadyH.cons (o := _) rfl (fun K hK => ?_) AllReadyH.nil)
        go_simp
        go_at_call 14
        refine (gthrough_v (g2.more (by decide)) (g3.more (by decide)) (g14.more (by decide)) (g15.more (by decide)) (tl_ne hn1)).mono ?_
        rintro e y8 ⟨z0, z1, z2, s21, A21, n21, c21, s22, A22, n22, c22, s23, A23, n23, c23, rfl, ht, g21, g22, g23, hb9⟩
        replace g2 := g2.below hb9
        replace g3 := g3.below hb9
        replace g14 := g14.below hb9
        replace g15 := g15.below hb9
        replace b9 := b9.below hb9
        replace b3 := b3.below hb9
        replace b4 := b4.below hb9
        replace hT := hT.keep hb9 hlt
        replace hlt := Nat.lt_of_lt_of_le hlt hb9.size
        replace G0 := only_below G0 hb9 G0.size
        clear hb9
        clear g14
        clear g15
        go_wp2_with fail
        refine hK.out _ _ ⟨b3.cell 0 _ rfl, b3.cell 1 _ rfl, b3.cell 2 _ rfl, b3.cell 3 _ rfl, b3.cell 4 _ rfl, b3.cell 5 _ rfl⟩ (fun hHeld => ?_)
        clear hK K
        (try simp only [List.getElem_toArray, List.getElem_cons_succ, List.getElem_cons_zero, Act.put, List.setIfInBounds_toArray, List.set_cons_zero, List.set_cons_succ])
        refine wpAnyH_take (i := 7) (v := ?_) rfl (by kernel_rfl) (by kernel_rfl) (by kernel_rfl) (fun _ _ _ h => h) (Or.inl ⟨by rfl, ?_⟩) (by assumption) ?_
        rotate_left
        · (intro w hSw; (try dsimp only at hSw); go_simp; (try with_reducible rfl))
        (try simp only [List.getElem_toArray, List.getElem_cons_succ, List.getElem_cons_zero, Act.put, List.setIfInBounds_toArray, List.set_cons_zero, List.set_cons_succ])
        refine wpAnyH_take (i := 8) (v := ?_) rfl (by kernel_rfl) (by kernel_rfl) (by kernel_rfl) (fun _ _ _ h => h) (Or.inl ⟨by rfl, ?_⟩) (by assumption) ?_
        rotate_left
        · (intro w hSw; (try dsimp only at hSw); go_simp; (try with_reducible rfl))
        (try simp only [List.getElem_toArray, List.getElem_cons_succ, List.getElem_cons_zero, Act.put, List.setIfInBounds_toArray, List.set_cons_zero, List.set_cons_succ])
        refine wpAnyH_take (i := 9) (v := ?_) rfl (by kernel_rfl) (by kernel_rfl) (by kernel_rfl) (fun _ _ _ h => h) (Or.inl ⟨by rfl, ?_⟩) (by assumption) ?_
        rotate_left
        · (intro w hSw; (try dsimp only at hSw); go_simp; (try with_reducible rfl))
        (try simp only [List.getElem_toArray, List.getElem_cons_succ, List.getElem_cons_zero, Act.put, List.setIfInBounds_toArray, List.set_cons_zero, List.set_cons_succ])
        have cb40 := b4.cell 0 _ rfl
        have yb40 := b4.frozen 0
        have cb41 := b4.cell 1 _ rfl
        have yb41 := b4.frozen 1
        have cb42 := b4.cell 2 _ rfl
        have yb42 := b4.frozen 2
        have cb43 := b4.cell 3 _ rfl
        have yb43 := b4.frozen 3
        have cb44 := b4.cell 4 _ rfl
        have yb44 := b4.frozen 4
        have cb45 := b4.cell 5 _ rfl
        have yb45 := b4.frozen 5
        refine wpAnyH_ready (rs := [11]) (by kernel_rfl) (by simp) (AllReadyH.cons (o := _) rfl (fun K hK => ?_) AllReadyH.nil)
        go_simp
        clear cb40 yb40 cb41 yb41 cb42 yb42 cb43 yb43 cb44 yb44 cb45 yb45
        have hg := only_store6 y8 (y4.heap.size) (.bool s21) (.slice A21 n21 c21) (.bool s22) (.slice A22 n22 c22) (.bool s23) (.slice A23 n23 c23)
        have hB := b4.stored6 (.bool s21) (.slice A21 n21 c21) (.bool s22) (.slice A22 n22 c22) (.bool s23) (.slice A23 n23 c23)
        generalize hX : ((((((y8.setCell ⟨y4.heap.size, 0, none⟩ (.bool s21)).setCell ⟨y4.heap.size, 1, none⟩ (.slice A21 n21 c21)).setCell ⟨y4.heap.size, 2, none⟩ (.bool s22)).setCell ⟨y4.heap.size, 3, none⟩ (.slice A22 n22 c22)).setCell ⟨y4.heap.size, 4, none⟩ (.bool s23)).setCell ⟨y4.heap.size, 5, none⟩ (.slice A23 n23 c23)) = X9 at hg hB ⊢
        clear hX
        replace g2 := g2.kept b4 (by simp [notInt]) hg
        replace g3 := g3.kept b4 (by simp [notInt]) hg
        replace g21 := g21.kept b4 (by simp [notInt]) hg
        replace g22 := g22.kept b4 (by simp [notInt]) hg
        replace g23 := g23.kept b4 (by simp [notInt]) hg
        replace b9 := b9.other hg (by omega)
        replace b3 := b3.other hg (by omega)
        replace b4 := hB
        have hBs := below_only (Below.refl w.heap.size y8) hg (by omega) G0.size
        replace hT := hT.keep hBs hb
        replace G0 := only_below G0 hBs (Nat.le_refl _)
        replace hlt := Nat.lt_of_lt_of_le hlt hg.size
        clear hg hB hBs
        refine hK.out _ _ ⟨b3.cell 0 _ rfl, b3.cell 1 _ rfl, b3.cell 2 _ rfl, b3.cell 3 _ rfl, b3.cell 4 _ rfl, b3.cell 5 _ rfl⟩ (fun hHeld => ?_)
        clear hK K
        (try simp only [List.getElem_toArray, List.getElem_cons_succ, List.getElem_cons_zero, Act.put, List.setIfInBounds_toArray, List.set_cons_zero, List.set_cons_succ])
        refine wpAnyH_take (i := 12) (v := ?_) rfl (by kernel_rfl) (by kernel_rfl) (by kernel_rfl) (fun _ _ _ h => h) (Or.inl ⟨by rfl, ?_⟩) (by assumption) ?_
        rotate_left
        · (intro w hSw; (try dsimp only at hSw); go_simp; (try with_reducible rfl))
        (try simp only [List.getElem_toArray, List.getElem_cons_succ, List.getElem_cons_zero, Act.put, List.setIfInBounds_toArray, List.set_cons_zero, List.set_cons_succ])
        refine wpAnyH_done (by kernel_rfl) ?_ _
        refine NoPanic.normal ?_
        go_wp2_with fail
        go_meet
        have hsl := tl_small ht hv hv1 hn1
        exact ⟨_, _, _, _, s21, A21, n21, c21, s22, A22, n22, c22, s23, A23, n23, c23, rfl, hsl, NI.one g21 (by have := hsl.2.1; omega), NI.one g22 (by have := hsl.2.2.1; omega), NI.one g23 hsl.2.2.2, b4, b9, by omega, hT, G0, hlt⟩
    · have lb9_4 := b9.lt
      have lb3_4 := b3.lt
      go_simp
      obtain ⟨y4, hV, b4, hb9, szy4⟩ := boxes1 v3 #[.bool false, .slice none 0 0, .bool false, .slice none 0 0, .bool false, .slice none 0 0] 36
      rw [hV]
      clear hV
      replace g2 := g2.below hb9
      replace g3 := g3.below hb9
      replace b9 := b9.below hb9
      replace b3 := b3.below hb9
      replace hT := hT.keep hb9 hlt
      replace hlt := Nat.lt_of_lt_of_le hlt hb9.size
      replace G0 := only_below G0 hb9 G0.size
      clear hb9
      refine hK.out _ _ ⟨b3.cell 0 _ rfl, b3.cell 1 _ rfl, b3.cell 2 _ rfl, b3.cell 3 _ rfl, b3.cell 4 _ rfl, b3.cell 5 _ rfl⟩ (fun hHeld => ?_)
      clear hK K
      (try simp only [List.getElem_toArray, List.getElem_cons_succ, List.getElem_cons_zero, Act.put, List.setIfInBounds_toArray, List.set_cons_zero, List.set_cons_succ])
      refine wpAnyH_ready (rs := [2]) (by kernel_rfl) (by simp) (AllReadyH.cons (o := _) rfl (fun K hK => ?_) AllReadyH.nil)
      go_simp
      go_at_call 16
      refine (nof_v 1 (by decide) (by decide) _).mono ?_
      rintro e y5 ⟨s10, A10, n10, c10, D10, m10, e10, rfl, g10, hb9⟩
      replace g2 := g2.below hb9
      replace g3 := g3.below hb9
      replace b9 := b9.below hb9
      replace b3 := b3.below hb9
      replace b4 := b4.below hb9
      replace hT := hT.keep hb9 hlt
      replace hlt := Nat.lt_of_lt_of_le hlt hb9.size
      replace G0 := only_below G0 hb9 G0.size
      clear hb9
      go_wp2_with fail
      refine hK.out _ _ ⟨b3.cell 0 _ rfl, b3.cell 1 _ rfl, b3.cell 2 _ rfl, b3.cell 3 _ rfl, b3.cell 4 _ rfl, b3.cell 5 _ rfl⟩ (fun hHeld => ?_)
      clear hK K
      (try simp only [List.getElem_toArray, List.getElem_cons_succ, List.getElem_cons_zero, Act.put, List.setIfInBounds_toArray, List.set_cons_zero, List.set_cons_succ])
      refine wpAnyH_ready (rs := [4]) (by kernel_rfl) (by simp) (AllReadyH.cons (o := _) rfl (fun K hK => ?_) AllReadyH.nil)
      go_simp
      go_at_call 17
      refine (tv_v hT hlt).mono ?_
      rintro e y6 ⟨x1, y1, s12, A12, n12, c12, D12, m12, e12, s13, A13, n13, c13, D13, m13, e13, rfl, hv1, hn1, g12, g13, hT', hg⟩
      replace g2 := g2.tape hT hg
      replace g3 := g3.tape hT hg
      replace g10 := g10.tape hT hg
      replace b9 := b9.other hg (by omega)
      replace b3 := b3.other hg (by omega)
      replace b4 := b4.other hg (by omega)
      replace hlt := Nat.lt_of_lt_of_le hlt hg.size
      replace G0 := only_trans G0 hg
      clear hT
      have hT := hT'
      clear hT' hg
      go_wp2_with fail
      refine hK.out _ _ ⟨b3.cell 0 _ rfl, b3.cell 1 _ rfl, b3.cell 2 _ rfl, b3.cell 3 _ rfl, b3.cell 4 _ rfl, b3.cell 5 _ rfl⟩ (fun hHeld => ?_)
      clear hK K
      (try simp only [List.getElem_toArray, List.getElem_cons_succ, List.getElem_cons_zero, Act.put, List.setIfInBounds_toArray, List.set_cons_zero, List.set_cons_succ])
      refine wpAnyH_ready (rs := [5]) (by kernel_rfl) (by simp) (AllReadyH.cons (o := _) rfl (fun K hK => ?_) AllReadyH.nil)
      go_simp
      go_at_call 15
      refine (gadd_v g2 g3 g10 g12 g13 (by omega) (by omega) (by omega)).mono ?_
      rintro e y7 ⟨s14, A14, n14, c14, D14, m14, e14, s15, A15, n15, c15, D15, m15, e15, rfl, g14, g15, hb9⟩
      replace g2 := g2.below hb9
      replace g3 := g3.below hb9
      replace g10 := g10.below hb9
      replace g12 := g12.below hb9
      replace g13 := g13.below hb9
      replace b9 := b9.below hb9
      replace b3 := b3.below hb9
      replace b4 := b4.below hb9
      replace hT := hT.keep hb9 hlt
      replace hlt := Nat.lt_of_lt_of_le hlt hb9.size
      replace G0 := only_below G0 hb9 G0.size
      clear hb9
      clear g10
      clear g12
      clear g13
      go_wp2_with fail
      refine hK.out _ _ ⟨b3.cell 0 _ rfl, b3.cell 1 _ rfl, b3.cell 2 _ rfl, b3.cell 3 _ rfl, b3.cell 4 _ rfl, b3.cell 5 _ rfl⟩ (fun hHeld => ?_)
      clear hK K
      (try simp only [List.getElem_toArray, List.getElem_cons_succ, List.getElem_cons_zero, Act.put, List.setIfInBounds_toArray, List.set_cons_zero, List.set_cons_succ])
      refine wpAnyH_ready (rs := [6]) (by kernel_rfl) (by simp) (AllReadyH.cons (o := _) rfl (fun K hK => ?_) AllReadyH.nil)
      go_simp
      go_at_call 14
      refine (gthrough_v (g2.more (by decide)) (g3.more (by decide)) (g14.more (by decide)) (g15.more (by decide)) (tl_ne hn1)).mono ?_
      rintro e y8 ⟨z0, z1, z2, s21, A21, n21, c21, s22, A22, n22, c22, s23, A23, n23, c23, rfl, ht, g21, g22, g23, hb9⟩
      replace g2 := g2.below hb9
      replace g3 := g3.below hb9
      replace g14 := g14.below hb9
      replace g15 := g15.below hb9
      replace b9 := b9.below hb9
      replace b3 := b3.below hb9
      replace b4 := b4.below hb9
      replace hT := hT.keep hb9 hlt
      replace hlt := Nat.lt_of_lt_of_le hlt hb9.size
      replace G0 := only_below G0 hb9 G0.size
      clear hb9
      clear g14
      clear g15
      go_wp2_with fail
      refine hK.out _ _ ⟨b3.cell 0 _ rfl, b3.cell 1 _ rfl, b3.cell 2 _ rfl, b3.cell 3 _ rfl, b3.cell 4 _ rfl, b3.cell 5 _ rfl⟩ (fun hHeld => ?_)
      clear hK K
      (try simp only [List.getElem_toArray, List.getElem_cons_succ, List.getElem_cons_zero, Act.put, List.setIfInBounds_toArray, List.set_cons_zero, List.set_cons_succ])
      refine wpAnyH_take (i := 7) (v := ?_) rfl (by kernel_rfl) (by kernel_rfl) (by kernel_rfl) (fun _ _ _ h => h) (Or.inl ⟨by rfl, ?_⟩) (by assumption) ?_
      rotate_left
      · (intro w hSw; (try dsimp only at hSw); go_simp; (try with_reducible rfl))
      (try simp only [List.getElem_toArray, List.getElem_cons_succ, List.getElem_cons_zero, Act.put, List.setIfInBounds_toArray, List.set_cons_zero, List.set_cons_succ])
      refine wpAnyH_take (i := 8) (v := ?_) rfl (by kernel_rfl) (by kernel_rfl) (by kernel_rfl) (fun _ _ _ h => h) (Or.inl ⟨by rfl, ?_⟩) (by assumption) ?_
      rotate_left
      · (intro w hSw; (try dsimp only at hSw); go_simp; (try with_reducible rfl))
      (try simp only [List.getElem_toArray, List.getElem_cons_succ, List.getElem_cons_zero, Act.put, List.setIfInBounds_toArray, List.set_cons_zero, List.set_cons_succ])
      refine wpAnyH_take (i := 9) (v := ?_) rfl (by kernel_rfl) (by kernel_rfl) (by kernel_rfl) (fun _ _ _ h => h) (Or.inl ⟨by rfl, ?_⟩) (by assumption) ?_
      rotate_left
      · (intro w hSw; (try dsimp only at hSw); go_simp; (try with_reducible rfl))
      (try simp only [List.getElem_toArray, List.getElem_cons_succ, List.getElem_cons_zero, Act.put, List.setIfInBounds_toArray, List.set_cons_zero, List.set_cons_succ])
      have cb40 := b4.cell 0 _ rfl
      have yb40 := b4.frozen 0
      have cb41 := b4.cell 1 _ rfl
      have yb41 := b4.frozen 1
      have cb42 := b4.cell 2 _ rfl
      have yb42 := b4.frozen 2
      have cb43 := b4.cell 3 _ rfl
      have yb43 := b4.frozen 3
      have cb44 := b4.cell 4 _ rfl
      have yb44 := b4.frozen 4
      have cb45 := b4.cell 5 _ rfl
      have yb45 := b4.frozen 5
      refine wpAnyH_ready (rs := [11]) (by kernel_rfl) (by simp) (AllReadyH.cons (o := _) rfl (fun K hK => ?_) AllReadyH.nil)
      go_simp
      clear cb40 yb40 cb41 yb41 cb42 yb42 cb43 yb43 cb44 yb44 cb45 yb45
      have hg := only_store6 y8 (v3.heap.size) (.bool s21) (.slice A21 n21 c21) (.bool s22) (.slice A22 n22 c22) (.bool s23) (.slice A23 n23 c23)
      have hB := b4.stored6 (.bool s21) (.slice A21 n21 c21) (.bool s22) (.slice A22 n22 c22) (.bool s23) (.slice A23 n23 c23)
      generalize hX : ((((((y8.setCell ⟨v3.heap.size, 0, none⟩ (.bool s21)).setCell ⟨v3.heap.size, 1, none⟩ (.slice A21 n21 c21)).setCell ⟨v3.heap.size, 2, none⟩ (.bool s22)).setCell ⟨v3.heap.size, 3, none⟩ (.slice A22 n22 c22)).setCell ⟨v3.heap.size, 4, none⟩ (.bool s23)).setCell ⟨v3.heap.size, 5, none⟩ (.slice A23 n23 c23)) = X9 at hg hB ⊢
      clear hX
      replace g2 := g2.kept b4 (by simp [notInt]) hg
      replace g3 := g3.kept b4 (by simp [notInt]) hg
      replace g21 := g21.kept b4 (by simp [notInt]) hg
      replace g22 := g22.kept b4 (by simp [notInt]) hg
      replace g23 := g23.kept b4 (by simp [notInt]) hg
      replace b9 := b9.other hg (by omega)
      replace b3 := b3.other hg (by omega)
      replace b4 := hB
      have hBs := below_only (Below.refl w.heap.size y8) hg (by omega) G0.size
      replace hT := hT.keep hBs hb
      replace G0 := only_below G0 hBs (Nat.le_refl _)
      replace hlt := Nat.lt_of_lt_of_le hlt hg.size
      clear hg hB hBs
      refine hK.out _ _ ⟨b3.cell 0 _ rfl, b3.cell 1 _ rfl, b3.cell 2 _ rfl, b3.cell 3 _ rfl, b3.cell 4 _ rfl, b3.cell 5 _ rfl⟩ (fun hHeld => ?_)
      clear hK K
      (try simp only [List.getElem_toArray, List.getElem_cons_succ, List.getElem_cons_zero, Act.put, List.setIfInBounds_toArray, List.set_cons_zero, List.set_cons_succ])
      refine wpAnyH_take (i := 12) (v := ?_) rfl (by kernel_rfl) (by kernel_rfl) (by kernel_rfl) (fun _ _ _ h => h) (Or.inl ⟨by rfl, ?_⟩) (by assumption) ?_
      rotate_left
      · (intro w hSw; (try dsimp only at hSw); go_simp; (try with_reducible rfl))
      (try simp only [List.getElem_toArray, List.getElem_cons_succ, List.getElem_cons_zero, Act.put, List.setIfInBounds_toArray, List.set_cons_zero, List.set_cons_succ])
      refine wpAnyH_done (by kernel_rfl) ?_ _
      refine NoPanic.normal ?_
      go_wp2_with fail
      go_meet
      have hsl := tl_small ht hv hv1 hn1
      exact ⟨_, _, _, _, s21, A21, n21, c21, s22, A22, n22, c22, s23, A23, n23, c23, rfl, hsl, NI.one g21 (by have := hsl.2.1; omega), NI.one g22 (by have := hsl.2.2.1; omega), NI.one g23 hsl.2.2.2, b4, b9, by omega, hT, G0, hlt⟩
  case rest =>
    clear g2 g3 b3 b9 hT G0 hlt
    obtain ⟨g, z0, z1, z2, s21, A21, n21, c21, s22, A22, n22, c22, s23, A23, n23, c23, rfl, hsl, g21, g22, g23, b4, b9, hlg, hT, G0, hlt⟩ := hcut
    have cb40 := b4.cell 0 _ rfl
    have cb41 := b4.cell 1 _ rfl
    have cb42 := b4.cell 2 _ rfl
    have cb43 := b4.cell 3 _ rfl
    have cb44 := b4.cell 4 _ rfl
    have cb45 := b4.cell 5 _ rfl
    have cb90 := b9.cell 0 _ rfl
    have yb90 := b9.frozen 0
    have cb91 := b9.cell 1 _ rfl
    have yb91 := b9.frozen 1
    have cb92 := b9.cell 2 _ rfl
    have yb92 := b9.frozen 2
    have cb93 := b9.cell 3 _ rfl
    have yb93 := b9.frozen 3
    have cb94 := b9.cell 4 _ rfl
    have yb94 := b9.frozen 4
    have cb95 := b9.cell 5 _ rfl
    have yb95 := b9.frozen 5
    go_wp2_with fail
    clear cb40 cb41 cb42 cb43 cb44 cb45 cb90 yb90 cb91 yb91 cb92 yb92 cb93 yb93 cb94 yb94 cb95 yb95
    have hg := only_store6 wc (w.heap.size) (.bool s21) (.slice A21 n21 c21) (.bool s22) (.slice A22 n22 c22) (.bool s23) (.slice A23 n23 c23)
    have hB := b9.stored6 (.bool s21) (.slice A21 n21 c21) (.bool s22) (.slice A22 n22 c22) (.bool s23) (.slice A23 n23 c23)
    generalize hX : ((((((wc.setCell ⟨w.heap.size, 0, none⟩ (.bool s21)).setCell ⟨w.heap.size, 1, none⟩ (.slice A21 n21 c21)).setCell ⟨w.heap.size, 2, none⟩ (.bool s22)).setCell ⟨w.heap.size, 3, none⟩ (.slice A22 n22 c22)).setCell ⟨w.heap.size, 4, none⟩ (.bool s23)).setCell ⟨w.heap.size, 5, none⟩ (.slice A23 n23 c23)) = X300 at hg hB ⊢
    clear hX
    replace g21 := g21.kept b9 (by simp [notInt]) hg
    replace g22 := g22.kept b9 (by simp [notInt]) hg
    replace g23 := g23.kept b9 (by simp [notInt]) hg
    replace b4 := b4.other hg (by omega)
    replace b9 := hB
    have hBs := below_only (Below.refl w.heap.size wc) hg (by omega) G0.size
    replace hT := hT.keep hBs hb
    replace G0 := only_below G0 hBs (Nat.le_refl _)
    replace hlt := Nat.lt_of_lt_of_le hlt hg.size
    clear hg hB hBs
    refine bodyPost_ret (ret_geol rfl rfl b9) rfl ?_
    exact ⟨z0, z1, z2, s21, A21, n21, c21, s22, A22, n22, c22, s23, A23, n23, c23, rfl, hsl, g21, g22, g23, hT, G0⟩
end
end Go.Proofs.YtfonldogbfkpiaaGreat
