/-
  The walk of the law LinePoints.
-/
import Derived.Test.YtancgkmkbgkncaaGreatUSq
import Derived.Test.YtancgkmkbgkncaaGreatUBox
import Derived.Test.YtancgkmkbgkncaaGreatUDivLong
import Derived.Test.YtancgkmkbgkncaaGreatUEA
import Derived.Test.YtancgkmkbgkncaaGreatUFormI
import Derived.Test.YtancgkmkbgkncaaGreatUIGcd
import Derived.Test.YtancgkmkbgkncaaGreatUK1
import Derived.Test.YtancgkmkbgkncaaGreatUK2
import Derived.Test.YtancgkmkbgkncaaGreatUK3
import Derived.Test.YtancgkmkbgkncaaGreatUK4
import Derived.Test.YtancgkmkbgkncaaGreatUK5
import Derived.Test.YtancgkmkbgkncaaGreatUK6
import Derived.Test.YtancgkmkbgkncaaGreatUK7
import Derived.Test.YtancgkmkbgkncaaGreatUK8
import Derived.Test.YtancgkmkbgkncaaGreatUK9
import Derived.Test.YtancgkmkbgkncaaGreatULnA
import Derived.Test.YtancgkmkbgkncaaGreatULnB
import Derived.Test.YtancgkmkbgkncaaGreatULnC
import Derived.Test.YtancgkmkbgkncaaGreatULnD
import Derived.Test.YtancgkmkbgkncaaGreatULnG
import Derived.Test.YtancgkmkbgkncaaGreatULnH
import Derived.Test.YtancgkmkbgkncaaGreatULnK
import Derived.Test.YtancgkmkbgkncaaGreatULnM
import Derived.Test.YtancgkmkbgkncaaGreatULnP
import Derived.Test.YtancgkmkbgkncaaGreatULnQ
import Derived.Test.YtancgkmkbgkncaaGreatULnT
import Derived.Test.YtancgkmkbgkncaaGreatULnV
import Derived.Test.YtancgkmkbgkncaaGreatULnX
import Derived.Test.YtancgkmkbgkncaaGreatUN1
import Derived.Test.YtancgkmkbgkncaaGreatUOrd
import Derived.Test.YtancgkmkbgkncaaGreatUPhase
import Derived.Test.YtancgkmkbgkncaaGreatUPtA
import Derived.Test.YtancgkmkbgkncaaGreatUPtG
import Derived.Test.YtancgkmkbgkncaaGreatUPtT
import Derived.Test.YtancgkmkbgkncaaGreatUR1
import Derived.Test.YtancgkmkbgkncaaGreatURatA
import Derived.Test.YtancgkmkbgkncaaGreatURatC
import Derived.Test.YtancgkmkbgkncaaGreatURatD
import Derived.Test.YtancgkmkbgkncaaGreatURatR
import Derived.Test.YtancgkmkbgkncaaGreatURatS
import Derived.Test.YtancgkmkbgkncaaGreatURatT
import Derived.Test.YtancgkmkbgkncaaGreatUS1
import Derived.Test.YtancgkmkbgkncaaGreatUShelf
import Derived.Deep.Cut
namespace Go.Proofs.YtancgkmkbgkncaaGreat
open List (getElem_toArray getElem_cons_succ getElem_cons_zero setIfInBounds_toArray set_cons_zero set_cons_succ)
open Go.RowKit

section
variable {A0 A1 A2 A3 A4 A5 A8 A9 A10 A11 A12 A13 A14 A15 A18 A19 A20 A21 A22 A23 D0 D1 D2 D3 D4 D6 D8 D9 D10 D11 D12 D13 D14 D15 : Option Addr} {n0 n1 n2 n3 n4 n5 n8 n9 n10 n11 n12 n13 n14 n15 n18 n19 n20 n21 n22 n23 c0 c1 c2 c3 c4 c5 c8 c9 c10 c11 c12 c13 c14 c15 c18 c19 c20 c21 c22 c23 m0 m1 m2 m3 m4 m8 m9 m10 m11 m12 m13 m14 m15 e0 e1 e2 e3 e4 e8 e9 e10 e11 e12 e13 e14 e15 : Nat} {s0 s1 s2 s3 s4 s5 s8 s9 s10 s11 s12 s13 s14 s15 s18 s19 s20 s21 s22 s23 : Bool} {q0 q1 q2 q3 q4 q5 q6 q7 : Rat} {z0 z1 z2 z3 z4 z5 z6 z7 z8 z9 z10 z11 : Int} {L L0 L1 x y : Nat} {k : Int} {b : Bool} {w : World}
theorem NQ.tape {w' : World} {v u : Value} {q : Rat} {s0 : Bool} {b : Nat} (h : NQ w s0 v u q L) (ht : Tape w b) (hg : w.grownBy w' (some b)) : NQ w' s0 v u q L := ⟨h.1.tape ht hg, h.2.tape ht hg⟩
theorem cmp3_self (a b c : Int) : cmp3 a b c a b c = 0 := by unfold cmp3; rw [if_pos rfl, if_pos rfl, Int.sub_self]; rfl
theorem lthrough_zo (h : NQ w s0 (.slice A0 n0 c0) (.slice D0 m0 e0) q0 L) (h' : NQ w s1 (.slice A1 n1 c1) (.slice D1 m1 e1) q1 L) (k : NQ w s2 (.slice A2 n2 c2) (.slice D2 m2 e2) q2 L) (k' : NQ w s3 (.slice A3 n3 c3) (.slice D3 m3 e3) q3 L) (hz : q0 = q2 ∧ q1 = q3) (hL : L ≤ 10000) :
    Calls Tryz.prog 18 #[.agg #[.bool s0, .slice A0 n0 c0, .slice D0 m0 e0, .bool s1, .slice A1 n1 c1, .slice D1 m1 e1], .agg #[.bool s2, .slice A2 n2 c2, .slice D2 m2 e2, .bool s3, .slice A3 n3 c3, .slice D3 m3 e3]] w fun e w' => ∃ s21 A21 n21 c21 s22 A22 n22 c22 s23 A23 n23 c23, e = .returned (.tuple #[.agg #[.bool s21, .slice A21 n21 c21, .bool s22, .slice A22 n22 c22, .bool s23, .slice A23 n23 c23], .bool false]) ∧ Below w.heap.size w w' := by
  refine (lthrough_z h h' k k' hz hL).mono ?_
  rintro e w' ⟨h1, h2⟩
  exact ⟨_, _, _, _, _, _, _, _, _, _, _, _, h1, h2⟩
set_option maxRecDepth 100000 in
set_option maxHeartbeats 16000000 in
theorem linepoints_any {v : Value} (HI : Ints w v) :
    Calls Tryz.prog 6 #[v] w fun e w' => e = .returned (.bool true) ∧ Below w.heap.size w w' := by
  go_enter Tryz.func6, Tryz.ntmps6
  go_wp2_with fail
  refine (new_any HI).mono ?_
  rintro e w1 ⟨rfl, hT, H0, hsz⟩
  have hlt : w.heap.size < w1.heap.size := by omega
  clear hsz HI
  go_wp2_with fail
  refine (tl_v hT hlt).mono ?_
  rintro e w2 ⟨z0, z1, z2, s21, A21, n21, c21, s22, A22, n22, c22, s23, A23, n23, c23, rfl, hsl7, g21, g22, g23, hT', hg⟩
  replace hlt := Nat.lt_of_lt_of_le hlt hg.size
  replace H0 := H0.grown hg H0.size (by rintro k hk; injection hk with hk; omega)
  clear hT
  have hT := hT'
  clear hT' hg
  go_wp2_with fail
  refine (gtol_v g21 g22 g23 (by decide)).mono ?_
  rintro e w3 ⟨s18, A18, n18, c18, s19, A19, n19, c19, s20, A20, n20, c20, rfl, g18, g19, g20, hb⟩
  replace g21 := g21.below hb
  replace g22 := g22.below hb
  replace g23 := g23.below hb
  replace hT := hT.keep hb hlt
  replace hlt := Nat.lt_of_lt_of_le hlt hb.size
  replace H0 := H0.trans (hb.mono H0.size)
  clear hb
  have V0 := Lib.hid hsl7.1
  clear hsl7
  clear g21
  clear g22
  clear g23
  have hl_4 := hlt
  obtain ⟨W4, hW, b4, hbW, hszW4⟩ := boxes1 w3 #[.bool s18, .slice A18 n18 c18, .bool s19, .slice A19 n19 c19, .bool s20, .slice A20 n20 c20] 30
  skip
  skip
  replace g18 := g18.below hbW
  replace g19 := g19.below hbW
  replace g20 := g20.below hbW
  replace hT := hT.keep hbW hlt
  replace hlt := Nat.lt_of_lt_of_le hlt hbW.size
  replace H0 := H0.trans (hbW.mono H0.size)
  clear hbW
  go_wp2_with fail
  clear hW
  clear hszW4
  refine (tq_v hT hlt).mono ?_
  rintro e w5 ⟨q0, s0, A0, n0, c0, D0, m0, e0, rfl, p0, hT', hg⟩
  replace g18 := g18.tape hT hg
  replace g19 := g19.tape hT hg
  replace g20 := g20.tape hT hg
  replace b4 := b4.other hg (by omega)
  replace hlt := Nat.lt_of_lt_of_le hlt hg.size
  replace H0 := H0.grown hg H0.size (by rintro k hk; injection hk with hk; omega)
  clear hT
  have hT := hT'
  clear hT' hg
  go_wp2_with fail
  refine (toq_v p0 (by decide)).mono ?_
  rintro e w6 ⟨s10, A10, n10, c10, D10, m10, e10, rfl, f0, hb⟩
  replace g18 := g18.below hb
  replace g19 := g19.below hb
  replace g20 := g20.below hb
  replace p0 := p0.below hb
  replace b4 := b4.below hb
  replace hT := hT.keep hb hlt
  replace hlt := Nat.lt_of_lt_of_le hlt hb.size
  replace H0 := H0.trans (hb.mono H0.size)
  clear hb
  go_wp2_with fail
  clear p0
  refine (tq_v hT hlt).mono ?_
  rintro e w7 ⟨q1, s0, A0, n0, c0, D0, m0, e0, rfl, p1, hT', hg⟩
  replace g18 := g18.tape hT hg
  replace g19 := g19.tape hT hg
  replace g20 := g20.tape hT hg
  replace f0 := f0.tape hT hg
  replace b4 := b4.other hg (by omega)
  replace hlt := Nat.lt_of_lt_of_le hlt hg.size
  replace H0 := H0.grown hg H0.size (by rintro k hk; injection hk with hk; omega)
  clear hT
  have hT := hT'
  clear hT' hg
  go_wp2_with fail
  refine (toq_v p1 (by decide)).mono ?_
  rintro e w8 ⟨s11, A11, n11, c11, D11, m11, e11, rfl, f1, hb⟩
  replace g18 := g18.below hb
  replace g19 := g19.below hb
  replace g20 := g20.below hb
  replace f0 := f0.below hb
  replace p1 := p1.below hb
  replace b4 := b4.below hb
  replace hT := hT.keep hb hlt
  replace hlt := Nat.lt_of_lt_of_le hlt hb.size
  replace H0 := H0.trans (hb.mono H0.size)
  clear hb
  clear p1
  clear hT hlt
  have lb4_9 := b4.lt
  obtain ⟨W9, hW, b5, b6, hbW, hszW9⟩ := boxes2 w8 #[.bool s10, .slice A10 n10 c10, .slice D10 m10 e10] #[.bool s11, .slice A11 n11 c11, .slice D11 m11 e11] 52 52
  skip
  skip
  replace g18 := g18.below hbW
  replace g19 := g19.below hbW
  replace g20 := g20.below hbW
  replace f0 := f0.below hbW
  replace f1 := f1.below hbW
  replace b4 := b4.below hbW
  replace H0 := H0.trans (hbW.mono H0.size)
  clear hbW
  go_wp2_with fail
  clear hW
  clear hszW9
  have lkb4 := b4.lt
  have lkb5 := b5.lt
  have lkb6 := b6.lt
  go_cut [7, 8] from 9 (fun s_7 s_8 wx => ∃ g70 g71 s12 A12 n12 c12 D12 m12 e12 s13 A13 n13 c13 D13 m13 e13 s14 A14 n14 c14 D14 m14 e14 s15 A15 n15 c15 D15 m15 e15, s_7 = .pointer (some ⟨g70, 0, none⟩) ∧ s_8 = .pointer (some ⟨g71, 0, none⟩) ∧ NQ wx s12 (.slice A12 n12 c12) (.slice D12 m12 e12) (atX z0 z1 z2 q0) (2 * (3 * max (max 2 1) 2 + 2) + 1) ∧ NQ wx s13 (.slice A13 n13 c13) (.slice D13 m13 e13) (atY z0 z1 z2 q0) (2 * (3 * max (max 2 1) 2 + 2) + 1) ∧ NQ wx s14 (.slice A14 n14 c14) (.slice D14 m14 e14) (atX z0 z1 z2 q1) (2 * (3 * max (max 2 1) 2 + 2) + 1) ∧ NQ wx s15 (.slice A15 n15 c15) (.slice D15 m15 e15) (atY z0 z1 z2 q1) (2 * (3 * max (max 2 1) 2 + 2) + 1) ∧ Box wx g70 #[.bool s12, .slice A12 n12 c12, .slice D12 m12 e12, .bool s13, .slice A13 n13 c13, .slice D13 m13 e13] 54 ∧ Box wx g71 #[.bool s14, .slice A14 n14 c14, .slice D14 m14 e14, .bool s15, .slice A15 n15 c15, .slice D15 m15 e15] 54 ∧ W9.heap.size ≤ g70 ∧ W9.heap.size ≤ g71 ∧ Below W9.heap.size W9 wx)
  case first =>
    have lcb4_10 := b4.lt
    have lcb5_10 := b5.lt
    have lcb6_10 := b6.lt
    have hG := drawn_below W9
    refine wp_region_noPanic ?_
    refine wp_region_anyd (by kernel_rfl) ?_
    generalize W9.drew = v10 at hG ⊢
    refine wpAny_of_F (S := (fun V => V.cell? ⟨w3.heap.size, 0, none⟩ = some (.bool s18) ∧ V.cell? ⟨w3.heap.size, 1, none⟩ = some (.slice A18 n18 c18) ∧ V.cell? ⟨w3.heap.size, 2, none⟩ = some (.bool s19) ∧ V.cell? ⟨w3.heap.size, 3, none⟩ = some (.slice A19 n19 c19) ∧ V.cell? ⟨w3.heap.size, 4, none⟩ = some (.bool s20) ∧ V.cell? ⟨w3.heap.size, 5, none⟩ = some (.slice A20 n20 c20) ∧ V.cell? ⟨w8.heap.size, 0, none⟩ = some (.bool s10) ∧ V.cell? ⟨w8.heap.size, 1, none⟩ = some (.slice A10 n10 c10) ∧ V.cell? ⟨w8.heap.size, 2, none⟩ = some (.slice D10 m10 e10) ∧ V.cell? ⟨w8.heap.size + 1, 0, none⟩ = some (.bool s11) ∧ V.cell? ⟨w8.heap.size + 1, 1, none⟩ = some (.slice A11 n11 c11) ∧ V.cell? ⟨w8.heap.size + 1, 2, none⟩ = some (.slice D11 m11 e11))) (F := (fun j => j == 8 || j == 9)) _ _ _ _ ?_
    refine wpAnyF_take (i := 0) (v := ?_) (fun j => j == 2 || j == 5 || j == 8 || j == 9) rfl (by kernel_rfl) (by kernel_rfl) (by kernel_rfl) (by kernel_rfl) (fun j hj => by have h6 : 10 ≤ j := hj; simp; omega) (fun _ _ _ h => h) (Or.inl ⟨by rfl, ?_⟩) ((b4.below hG).and6 ((b5.below hG).and3 ((b6.below hG).all3))) ?_
    rotate_left
    · (intro w hSw; (try dsimp only at hSw); go_simp; (try with_reducible rfl))
    (try simp only [getElem_toArray, getElem_cons_zero, Act.put, setIfInBounds_toArray, set_cons_zero, set_cons_succ])
    refine wpAnyF_take (i := 1) (v := ?_) (fun j => j == 2 || j == 5 || j == 8 || j == 9) rfl (by kernel_rfl) (by kernel_rfl) (by kernel_rfl) (by kernel_rfl) (fun j hj => by have h6 : 10 ≤ j := hj; simp; omega) (fun _ _ _ h => h) (Or.inl ⟨by rfl, ?_⟩) ((b4.below hG).and6 ((b5.below hG).and3 ((b6.below hG).all3))) ?_
    rotate_left
    · (intro w hSw; (try dsimp only at hSw); go_simp; (try with_reducible rfl))
    (try simp only [getElem_toArray, getElem_cons_succ, getElem_cons_zero, Act.put, setIfInBounds_toArray, set_cons_zero, set_cons_succ])
    refine wpAnyF_take (i := 3) (v := ?_) (fun j => j == 5 || j == 8 || j == 9) rfl (by kernel_rfl) (by kernel_rfl) (by kernel_rfl) (by kernel_rfl) (fun j hj => by have h6 : 10 ≤ j := hj; simp; omega) (fun _ _ _ h => h) (Or.inl ⟨by rfl, ?_⟩) ((b4.below hG).and6 ((b5.below hG).and3 ((b6.below hG).all3))) ?_
    rotate_left
    · (intro w hSw; (try dsimp only at hSw); go_simp; (try with_reducible rfl))
    (try simp only [getElem_toArray, getElem_cons_succ, getElem_cons_zero, Act.put, setIfInBounds_toArray, set_cons_zero, set_cons_succ])
    refine wpAnyF_take (i := 4) (v := ?_) (fun j => j == 5 || j == 8 || j == 9) rfl (by kernel_rfl) (by kernel_rfl) (by kernel_rfl) (by kernel_rfl) (fun j hj => by have h6 : 10 ≤ j := hj; simp; omega) (fun _ _ _ h => h) (Or.inl ⟨by rfl, ?_⟩) ((b4.below hG).and6 ((b5.below hG).and3 ((b6.below hG).all3))) ?_
    rotate_left
    · (intro w hSw; (try dsimp only at hSw); go_simp; (try with_reducible rfl))
    (try simp only [getElem_toArray, getElem_cons_succ, getElem_cons_zero, Act.put, setIfInBounds_toArray, set_cons_zero, set_cons_succ])
    refine wpAnyF_name (n' := 6) (l' := #[true, true, false, true, true, false, false, false, false, false]) (by kernel_rfl) (by kernel_rfl) (fun Ac_ hA => ?_)
    refine wpAnyF_phase (rs := [2, 5, 6, 7]) (full := #[true, true, true, true, true, true, true, true, false, false]) (states := [#[true, true, false, true, true, false, false, false, false, false], #[true, true, true, true, true, false, false, false, false, false], #[true, true, false, true, true, false, true, false, false, false], #[true, true, false, true, true, false, false, true, false, false], #[true, true, true, true, true, false, false, true, false, false], #[true, true, false, true, true, false, true, true, false, false], #[true, true, true, true, true, false, true, true, false, false], #[true, true, true, true, true, true, true, true, false, false], #[true, true, true, true, true, true, false, true, false, false], #[true, true, true, true, true, false, true, false, false, false], #[true, true, true, true, true, true, true, false, false, false], #[true, true, true, true, true, true, false, false, false, false]]) (k := 2) (I := fun listed a w => ∃ (y2_ y5_ y6_ y7_ : Value), a = ((((Ac_.put (some 26) y2_).put (some 29) y5_).put (some 7) y6_).put (some 8) y7_) ∧ Below W9.heap.size W9 w ∧ (listed.getD 2 false = true → ∃ s12 A12 n12 c12 D12 m12 e12 s13 A13 n13 c13 D13 m13 e13, y2_ = .agg #[.bool s12, .slice A12 n12 c12, .slice D12 m12 e12, .bool s13, .slice A13 n13 c13, .slice D13 m13 e13] ∧ NQ w s12 (.slice A12 n12 c12) (.slice D12 m12 e12) (atX z0 z1 z2 q0) (2 * (3 * max (max 2 1) 2 + 2) + 1) ∧ NQ w s13 (.slice A13 n13 c13) (.slice D13 m13 e13) (atY z0 z1 z2 q0) (2 * (3 * max (max 2 1) 2 + 2) + 1)) ∧ (listed.getD 5 false = true → ∃ s14 A14 n14 c14 D14 m14 e14 s15 A15 n15 c15 D15 m15 e15, y5_ = .agg #[.bool s14, .slice A14 n14 c14, .slice D14 m14 e14, .bool s15, .slice A15 n15 c15, .slice D15 m15 e15] ∧ NQ w s14 (.slice A14 n14 c14) (.slice D14 m14 e14) (atX z0 z1 z2 q1) (2 * (3 * max (max 2 1) 2 + 2) + 1) ∧ NQ w s15 (.slice A15 n15 c15) (.slice D15 m15 e15) (atY z0 z1 z2 q1) (2 * (3 * max (max 2 1) 2 + 2) + 1)) ∧ (listed.getD 6 false = true → ∃ g0_, y6_ = .pointer (some ⟨g0_, 0, none⟩) ∧ Box w g0_ #[.bool false, .slice none 0 0, .slice none 0 0, .bool false, .slice none 0 0, .slice none 0 0] 54 ∧ W9.heap.size ≤ g0_) ∧ (listed.getD 7 false = true → ∃ g1_, y7_ = .pointer (some ⟨g1_, 0, none⟩) ∧ Box w g1_ #[.bool false, .slice none 0 0, .slice none 0 0, .bool false, .slice none 0 0, .slice none 0 0] 54 ∧ W9.heap.size ≤ g1_) ∧ (listed.getD 6 false = true → listed.getD 7 false = true → y6_ ≠ y7_)) (by kernel_rfl) (by kernel_rfl) ?_ ?_ _ _ _ _ (by kernel_rfl) (by kernel_rfl) ⟨Ac_.tmps.getD 26 undef, Ac_.tmps.getD 29 undef, Ac_.tmps.getD 7 undef, Ac_.tmps.getD 8 undef, by subst hA; kernel_rfl, hG, fun h => (by cases h), fun h => (by cases h), fun h => (by cases h), fun h => (by cases h), fun h => (by cases h)⟩
    · refine (AllStepsF.cons (i := 2) (o := _) rfl rfl ?_ (AllStepsF.cons (i := 5) (o := _) rfl rfl ?_ (AllStepsF.cons (i := 6) (o := _) rfl rfl ?_ (AllStepsF.cons (i := 7) (o := _) rfl rfl ?_ AllStepsF.nil))))
      · rintro listed a wx ⟨y2_, y5_, y6_, y7_, rfl, hG, H2_, H5_, H6_, H7_, D6_7⟩ hi K hK
        subst hA
        (try simp only [Act.put, List.setIfInBounds_toArray, List.set_cons_zero, List.set_cons_succ])
        go_simp
        go_at_call 35
        refine (lat_v ((g18.below hG).more (by decide)) ((g19.below hG).more (by decide)) ((g20.below hG).more (by decide)) V0.out (f0.below hG) (by decide)).mono ?_
        rintro e X ⟨s12, A12, n12, c12, D12, m12, e12, s13, A13, n13, c13, D13, m13, e13, rfl, k0, k1, hb9⟩
        go_wp2_with fail
        have hG9 := hG.trans (hb9.mono hG.size)
        refine hK.out _ _ ((b4.below hG9).and6 ((b5.below hG9).and3 ((b6.below hG9).all3))) ?_
        clear hK K
        exact ⟨_, y5_, y6_, y7_, by kernel_rfl, hG9, fun _ => ⟨s12, A12, n12, c12, D12, m12, e12, s13, A13, n13, c13, D13, m13, e13, rfl, k0, k1⟩, fun h => by obtain ⟨s14, A14, n14, c14, D14, m14, e14, s15, A15, n15, c15, D15, m15, e15, e_, k2', k3'⟩ := H5_ (set_dep (by decide) h); exact ⟨s14, A14, n14, c14, D14, m14, e14, s15, A15, n15, c15, D15, m15, e15, e_, k2'.below hb9, k3'.below hb9⟩, fun h => by obtain ⟨g0_, e_, bx0', hl0'⟩ := H6_ (set_dep (by decide) h); exact ⟨g0_, e_, bx0'.below hb9, hl0'⟩, fun h => by obtain ⟨g1_, e_, bx1', hl1'⟩ := H7_ (set_dep (by decide) h); exact ⟨g1_, e_, bx1'.below hb9, hl1'⟩, fun h h9 => D6_7 (set_dep (by decide) h) (set_dep (by decide) h9)⟩
      · rintro listed a wx ⟨y2_, y5_, y6_, y7_, rfl, hG, H2_, H5_, H6_, H7_, D6_7⟩ hi K hK
        subst hA
        (try simp only [Act.put, List.setIfInBounds_toArray, List.set_cons_zero, List.set_cons_succ])
        go_simp
        go_at_call 35
        refine (lat_v ((g18.below hG).more (by decide)) ((g19.below hG).more (by decide)) ((g20.below hG).more (by decide)) V0.out (f1.below hG) (by decide)).mono ?_
        rintro e X ⟨s14, A14, n14, c14, D14, m14, e14, s15, A15, n15, c15, D15, m15, e15, rfl, k2, k3, hb9⟩
        go_wp2_with fail
        have hG9 := hG.trans (hb9.mono hG.size)
        refine hK.out _ _ ((b4.below hG9).and6 ((b5.below hG9).and3 ((b6.below hG9).all3))) ?_
        clear hK K
        exact ⟨y2_, _, y6_, y7_, by kernel_rfl, hG9, fun h => by obtain ⟨s12, A12, n12, c12, D12, m12, e12, s13, A13, n13, c13, D13, m13, e13, e_, k0', k1'⟩ := H2_ (set_dep (by decide) h); exact ⟨s12, A12, n12, c12, D12, m12, e12, s13, A13, n13, c13, D13, m13, e13, e_, k0'.below hb9, k1'.below hb9⟩, fun _ => ⟨s14, A14, n14, c14, D14, m14, e14, s15, A15, n15, c15, D15, m15, e15, rfl, k2, k3⟩, fun h => by obtain ⟨g0_, e_, bx0', hl0'⟩ := H6_ (set_dep (by decide) h); exact ⟨g0_, e_, bx0'.below hb9, hl0'⟩, fun h => by obtain ⟨g1_, e_, bx1', hl1'⟩ := H7_ (set_dep (by decide) h); exact ⟨g1_, e_, bx1'.below hb9, hl1'⟩, fun h h9 => D6_7 (set_dep (by decide) h) (set_dep (by decide) h9)⟩
      · rintro listed a wx ⟨y2_, y5_, y6_, y7_, rfl, hG, H2_, H5_, H6_, H7_, D6_7⟩ hi K hK
        subst hA
        (try simp only [Act.put, List.setIfInBounds_toArray, List.set_cons_zero, List.set_cons_succ])
        go_simp
        obtain ⟨X, hV, bx0, hb9, sz9⟩ := boxes1 wx #[.bool false, .slice none 0 0, .slice none 0 0, .bool false, .slice none 0 0, .slice none 0 0] 54
        rw [hV]
        clear hV
        have hl0 : W9.heap.size ≤ wx.heap.size := hG.size
        have hG9 := hG.trans (hb9.mono hG.size)
        refine hK.out _ _ ((b4.below hG9).and6 ((b5.below hG9).and3 ((b6.below hG9).all3))) ?_
        clear hK K
        exact ⟨y2_, y5_, _, y7_, by kernel_rfl, hG9, fun h => by obtain ⟨s12, A12, n12, c12, D12, m12, e12, s13, A13, n13, c13, D13, m13, e13, e_, k0', k1'⟩ := H2_ (set_dep (by decide) h); exact ⟨s12, A12, n12, c12, D12, m12, e12, s13, A13, n13, c13, D13, m13, e13, e_, k0'.below hb9, k1'.below hb9⟩, fun h => by obtain ⟨s14, A14, n14, c14, D14, m14, e14, s15, A15, n15, c15, D15, m15, e15, e_, k2', k3'⟩ := H5_ (set_dep (by decide) h); exact ⟨s14, A14, n14, c14, D14, m14, e14, s15, A15, n15, c15, D15, m15, e15, e_, k2'.below hb9, k3'.below hb9⟩, fun _ => ⟨_, rfl, bx0, hl0⟩, fun h => by obtain ⟨g1_, e_, bx1', hl1'⟩ := H7_ (set_dep (by decide) h); exact ⟨g1_, e_, bx1'.below hb9, hl1'⟩, fun _ h => by obtain ⟨g1_, e_, bx_, _⟩ := H7_ (set_dep (by decide) h); rw [e_]; have lx_ := bx_.lt; intro heq; injection heq with heq; injection heq with heq; injection heq with heq; omega⟩
      · rintro listed a wx ⟨y2_, y5_, y6_, y7_, rfl, hG, H2_, H5_, H6_, H7_, D6_7⟩ hi K hK
        subst hA
        (try simp only [Act.put, List.setIfInBounds_toArray, List.set_cons_zero, List.set_cons_succ])
        go_simp
        obtain ⟨X, hV, bx1, hb9, sz9⟩ := boxes1 wx #[.bool false, .slice none 0 0, .slice none 0 0, .bool false, .slice none 0 0, .slice none 0 0] 54
        rw [hV]
        clear hV
        have hl1 : W9.heap.size ≤ wx.heap.size := hG.size
        have hG9 := hG.trans (hb9.mono hG.size)
        refine hK.out _ _ ((b4.below hG9).and6 ((b5.below hG9).and3 ((b6.below hG9).all3))) ?_
        clear hK K
        exact ⟨y2_, y5_, y6_, _, by kernel_rfl, hG9, fun h => by obtain ⟨s12, A12, n12, c12, D12, m12, e12, s13, A13, n13, c13, D13, m13, e13, e_, k0', k1'⟩ := H2_ (set_dep (by decide) h); exact ⟨s12, A12, n12, c12, D12, m12, e12, s13, A13, n13, c13, D13, m13, e13, e_, k0'.below hb9, k1'.below hb9⟩, fun h => by obtain ⟨s14, A14, n14, c14, D14, m14, e14, s15, A15, n15, c15, D15, m15, e15, e_, k2', k3'⟩ := H5_ (set_dep (by decide) h); exact ⟨s14, A14, n14, c14, D14, m14, e14, s15, A15, n15, c15, D15, m15, e15, e_, k2'.below hb9, k3'.below hb9⟩, fun h => by obtain ⟨g0_, e_, bx0', hl0'⟩ := H6_ (set_dep (by decide) h); exact ⟨g0_, e_, bx0'.below hb9, hl0'⟩, fun _ => ⟨_, rfl, bx1, hl1⟩, fun h _ => by obtain ⟨g0_, e_, bx_, _⟩ := H6_ (set_dep (by decide) h); rw [e_]; have lx_ := bx_.lt; intro heq; injection heq with heq; injection heq with heq; injection heq with heq; omega⟩
    · rintro a wf ⟨y2_, y5_, y6_, y7_, rfl, hG, H2_, H5_, H6_, H7_, D6_7⟩
      have d6_7 := D6_7 rfl rfl
      obtain ⟨s12, A12, n12, c12, D12, m12, e12, s13, A13, n13, c13, D13, m13, e13, rfl, k0, k1⟩ := H2_ rfl
      obtain ⟨s14, A14, n14, c14, D14, m14, e14, s15, A15, n15, c15, D15, m15, e15, rfl, k2, k3⟩ := H5_ rfl
      obtain ⟨g0_, rfl, bx0, hl0⟩ := H6_ rfl
      obtain ⟨g1_, rfl, bx1, hl1⟩ := H7_ rfl
      clear D6_7
      subst hA
      (try simp only [Act.put, List.setIfInBounds_toArray, List.set_cons_zero, List.set_cons_succ])
      have hne01 : g0_ ≠ g1_ := fun h => d6_7 (by rw [h])
      clear d6_7
      have H0 := hG
      obtain ⟨cbx00, ybx00, cbx01, ybx01, cbx02, ybx02, cbx03, ybx03, cbx04, ybx04, cbx05, ybx05⟩ := bx0.cf6
      refine wpAnyF_last (i := 8) (by kernel_rfl) rfl rfl (fun K hK => ?_)
      go_simp
      refine hK.out _ _ ?_
      clear hK K
      (try simp only [List.setIfInBounds_toArray, List.set_cons_zero, List.set_cons_succ])
      clear cbx00 ybx00 cbx01 ybx01 cbx02 ybx02 cbx03 ybx03 cbx04 ybx04 cbx05 ybx05
      have hg := only_store6 wf (g0_) (.bool s12) (.slice A12 n12 c12) (.slice D12 m12 e12) (.bool s13) (.slice A13 n13 c13) (.slice D13 m13 e13)
      have hB := bx0.stored6 (.bool s12) (.slice A12 n12 c12) (.slice D12 m12 e12) (.bool s13) (.slice A13 n13 c13) (.slice D13 m13 e13)
      generalize hX : ((((((wf.setCell ⟨g0_, 0, none⟩ (.bool s12)).setCell ⟨g0_, 1, none⟩ (.slice A12 n12 c12)).setCell ⟨g0_, 2, none⟩ (.slice D12 m12 e12)).setCell ⟨g0_, 3, none⟩ (.bool s13)).setCell ⟨g0_, 4, none⟩ (.slice A13 n13 c13)).setCell ⟨g0_, 5, none⟩ (.slice D13 m13 e13)) = X61 at hg hB ⊢
      clear hX
      replace k0 := k0.kept bx0 (by simp [notInt]) hg
      replace k1 := k1.kept bx0 (by simp [notInt]) hg
      replace k2 := k2.kept bx0 (by simp [notInt]) hg
      replace k3 := k3.kept bx0 (by simp [notInt]) hg
      replace bx1 := bx1.other hg (by omega)
      replace bx0 := hB
      replace H0 := below_only H0 hg (by omega) H0.size
      clear hg hB
      obtain ⟨cbx10, ybx10, cbx11, ybx11, cbx12, ybx12, cbx13, ybx13, cbx14, ybx14, cbx15, ybx15⟩ := bx1.cf6
      refine wpAny_one (i := 9) (by kernel_rfl) rfl (fun K hK => ?_)
      go_simp
      refine hK.out _ _ ?_
      clear hK K
      (try simp only [List.setIfInBounds_toArray, List.set_cons_zero, List.set_cons_succ])
      clear cbx10 ybx10 cbx11 ybx11 cbx12 ybx12 cbx13 ybx13 cbx14 ybx14 cbx15 ybx15
      have hg := only_store6 X61 (g1_) (.bool s14) (.slice A14 n14 c14) (.slice D14 m14 e14) (.bool s15) (.slice A15 n15 c15) (.slice D15 m15 e15)
      have hB := bx1.stored6 (.bool s14) (.slice A14 n14 c14) (.slice D14 m14 e14) (.bool s15) (.slice A15 n15 c15) (.slice D15 m15 e15)
      generalize hX : ((((((X61.setCell ⟨g1_, 0, none⟩ (.bool s14)).setCell ⟨g1_, 1, none⟩ (.slice A14 n14 c14)).setCell ⟨g1_, 2, none⟩ (.slice D14 m14 e14)).setCell ⟨g1_, 3, none⟩ (.bool s15)).setCell ⟨g1_, 4, none⟩ (.slice A15 n15 c15)).setCell ⟨g1_, 5, none⟩ (.slice D15 m15 e15)) = X62 at hg hB ⊢
      clear hX
      replace k0 := k0.kept bx1 (by simp [notInt]) hg
      replace k1 := k1.kept bx1 (by simp [notInt]) hg
      replace k2 := k2.kept bx1 (by simp [notInt]) hg
      replace k3 := k3.kept bx1 (by simp [notInt]) hg
      replace bx0 := bx0.other hg (by omega)
      replace bx1 := hB
      replace H0 := below_only H0 hg (by omega) H0.size
      clear hg hB
      refine wpAny_done (by kernel_rfl) ?_ _
      refine NoPanic.normal ?_
      go_wp2_with fail
      go_meet
      exact ⟨g0_, g1_, s12, A12, n12, c12, D12, m12, e12, s13, A13, n13, c13, D13, m13, e13, s14, A14, n14, c14, D14, m14, e14, s15, A15, n15, c15, D15, m15, e15, rfl, rfl, k0, k1, k2, k3, bx0, bx1, hl0, hl1, H0⟩
  case rest =>
    obtain ⟨g70, g71, s12, A12, n12, c12, D12, m12, e12, s13, A13, n13, c13, D13, m13, e13, s14, A14, n14, c14, D14, m14, e14, s15, A15, n15, c15, D15, m15, e15, rfl, rfl, k0, k1, k2, k3, b7, b8, ml0, ml1, hG⟩ := hcut
    replace g18 := g18.below hG
    replace g19 := g19.below hG
    replace g20 := g20.below hG
    replace f0 := f0.below hG
    replace f1 := f1.below hG
    replace b4 := b4.below hG
    replace b5 := b5.below hG
    replace b6 := b6.below hG
    replace H0 := H0.trans (hG.mono H0.size)
    clear hG
    go_wp2_with fail
    have HV0 : Hid (rsg ((z0 : Rat) * atX z0 z1 z2 q0 + (z1 : Rat) * atY z0 z1 z2 q0 + (z2 : Rat)) = 0) := Lib.hid (by rw [at_on z2 V0.out.1]; rfl)
    have HP0 := Lib.hid (decide_eq_true (par_at z2 V0.out.1 q0))
    have HP1 := Lib.hid (decide_eq_true (par_at z2 V0.out.1 q1))
    have hD := drawn_below wc
    replace g18 := g18.below hD
    replace g19 := g19.below hD
    replace g20 := g20.below hD
    replace f0 := f0.below hD
    replace f1 := f1.below hD
    replace k0 := k0.below hD
    replace k1 := k1.below hD
    replace k2 := k2.below hD
    replace k3 := k3.below hD
    replace b4 := b4.below hD
    replace b5 := b5.below hD
    replace b6 := b6.below hD
    replace b7 := b7.below hD
    replace b8 := b8.below hD
    replace H0 := H0.trans (hD.mono H0.size)
    clear hD
    refine wp_region_noPanic ?_
    refine wp_region_held_drew (S := (fun V => V.cell? ⟨w3.heap.size, 0, none⟩ = some (.bool s18) ∧ V.cell? ⟨w3.heap.size, 1, none⟩ = some (.slice A18 n18 c18) ∧ V.cell? ⟨w3.heap.size, 2, none⟩ = some (.bool s19) ∧ V.cell? ⟨w3.heap.size, 3, none⟩ = some (.slice A19 n19 c19) ∧ V.cell? ⟨w3.heap.size, 4, none⟩ = some (.bool s20) ∧ V.cell? ⟨w3.heap.size, 5, none⟩ = some (.slice A20 n20 c20) ∧ V.cell? ⟨w8.heap.size, 0, none⟩ = some (.bool s10) ∧ V.cell? ⟨w8.heap.size, 1, none⟩ = some (.slice A10 n10 c10) ∧ V.cell? ⟨w8.heap.size, 2, none⟩ = some (.slice D10 m10 e10) ∧ V.cell? ⟨w8.heap.size + 1, 0, none⟩ = some (.bool s11) ∧ V.cell? ⟨w8.heap.size + 1, 1, none⟩ = some (.slice A11 n11 c11) ∧ V.cell? ⟨w8.heap.size + 1, 2, none⟩ = some (.slice D11 m11 e11) ∧ V.cell? ⟨g70, 0, none⟩ = some (.bool s12) ∧ V.cell? ⟨g70, 1, none⟩ = some (.slice A12 n12 c12) ∧ V.cell? ⟨g70, 2, none⟩ = some (.slice D12 m12 e12) ∧ V.cell? ⟨g70, 3, none⟩ = some (.bool s13) ∧ V.cell? ⟨g70, 4, none⟩ = some (.slice A13 n13 c13) ∧ V.cell? ⟨g70, 5, none⟩ = some (.slice D13 m13 e13) ∧ V.cell? ⟨g71, 0, none⟩ = some (.bool s14) ∧ V.cell? ⟨g71, 1, none⟩ = some (.slice A14 n14 c14) ∧ V.cell? ⟨g71, 2, none⟩ = some (.slice D14 m14 e14) ∧ V.cell? ⟨g71, 3, none⟩ = some (.bool s15) ∧ V.cell? ⟨g71, 4, none⟩ = some (.slice A15 n15 c15) ∧ V.cell? ⟨g71, 5, none⟩ = some (.slice D15 m15 e15))) (by kernel_rfl) (b4.and6 (b5.and3 (b6.and3 (b7.and6 (b8.all6))))) (fun hHeld => ?_)
    generalize wc.drew = v510 at H0 hHeld g18 g19 g20 f0 f1 k0 k1 k2 k3 b4 b5 b6 b7 b8 ⊢
    refine tk 0 ?_ rfl (by kernel_rfl) (by kernel_rfl) (by kernel_rfl) (fun _ _ _ h => h) (by rfl) ?_ (by assumption) ?_
    rotate_left
    · (intro w hSw; (try dsimp only at hSw); go_simp; (try with_reducible rfl))
    (try simp only [getElem_toArray, getElem_cons_zero, Act.put, setIfInBounds_toArray, set_cons_zero, set_cons_succ])
    refine tk 1 ?_ rfl (by kernel_rfl) (by kernel_rfl) (by kernel_rfl) (fun _ _ _ h => h) (by rfl) ?_ (by assumption) ?_
    rotate_left
    · (intro w hSw; (try dsimp only at hSw); go_simp; (try with_reducible rfl))
    (try simp only [getElem_toArray, getElem_cons_succ, getElem_cons_zero, Act.put, setIfInBounds_toArray, set_cons_zero, set_cons_succ])
    refine rd1 2 (by kernel_rfl) rfl (fun K hK => ?_)
    go_simp
    go_at_call 25
    refine (lvalue_v (g18.more (by decide)) (g19.more (by decide)) (g20.more (by decide)) V0.out k0 k1 (by decide)).mono ?_
    rintro e w511 ⟨s0, A0, n0, c0, D0, m0, e0, rfl, u0, hb⟩
    replace g18 := g18.below hb
    replace g19 := g19.below hb
    replace g20 := g20.below hb
    replace f0 := f0.below hb
    replace f1 := f1.below hb
    replace k0 := k0.below hb
    replace k1 := k1.below hb
    replace k2 := k2.below hb
    replace k3 := k3.below hb
    replace b4 := b4.below hb
    replace b5 := b5.below hb
    replace b6 := b6.below hb
    replace b7 := b7.below hb
    replace b8 := b8.below hb
    replace H0 := H0.trans (hb.mono H0.size)
    clear hb
    go_wp2_with fail
    refine hK.out _ _ (b4.and6 (b5.and3 (b6.and3 (b7.and6 (b8.all6))))) (fun hHeld => ?_)
    clear hK K
    (try simp only [getElem_toArray, getElem_cons_succ, getElem_cons_zero, Act.put, setIfInBounds_toArray, set_cons_zero, set_cons_succ])
    refine rd1 3 (by kernel_rfl) rfl (fun K hK => ?_)
    go_simp
    go_at_call 51
    refine (refq_v u0.rq (by decide)).mono ?_
    rintro e w512 ⟨s1, A1, n1, c1, D1, m1, e1, rfl, u1, hb⟩
    replace g18 := g18.below hb
    replace g19 := g19.below hb
    replace g20 := g20.below hb
    replace f0 := f0.below hb
    replace f1 := f1.below hb
    replace k0 := k0.below hb
    replace k1 := k1.below hb
    replace k2 := k2.below hb
    replace k3 := k3.below hb
    replace u0 := u0.below hb
    replace b4 := b4.below hb
    replace b5 := b5.below hb
    replace b6 := b6.below hb
    replace b7 := b7.below hb
    replace b8 := b8.below hb
    replace H0 := H0.trans (hb.mono H0.size)
    clear hb
    clear u0
    go_wp2_with fail
    refine hK.out _ _ (b4.and6 (b5.and3 (b6.and3 (b7.and6 (b8.all6))))) (fun hHeld => ?_)
    clear hK K
    (try simp only [getElem_toArray, getElem_cons_succ, getElem_cons_zero, Act.put, setIfInBounds_toArray, set_cons_zero, set_cons_succ])
    refine rd1 4 (by kernel_rfl) rfl (fun K hK => ?_)
    go_simp
    go_at_call 50
    refine (nqs_v u1 HV0.out).mono ?_
    rintro e w513 ⟨rfl, hb⟩
    replace g18 := g18.below hb
    replace g19 := g19.below hb
    replace g20 := g20.below hb
    replace f0 := f0.below hb
    replace f1 := f1.below hb
    replace k0 := k0.below hb
    replace k1 := k1.below hb
    replace k2 := k2.below hb
    replace k3 := k3.below hb
    replace u1 := u1.below hb
    replace b4 := b4.below hb
    replace b5 := b5.below hb
    replace b6 := b6.below hb
    replace b7 := b7.below hb
    replace b8 := b8.below hb
    replace H0 := H0.trans (hb.mono H0.size)
    clear hb
    clear u1
    go_wp2_with fail
    refine hK.out _ _ (b4.and6 (b5.and3 (b6.and3 (b7.and6 (b8.all6))))) (fun hHeld => ?_)
    clear hK K
    (try simp only [getElem_toArray, getElem_cons_succ, getElem_cons_zero, Act.put, setIfInBounds_toArray, set_cons_zero, set_cons_succ])
    refine tk 5 ?_ rfl (by kernel_rfl) (by kernel_rfl) (by kernel_rfl) (fun _ _ _ h => h) (by rfl) ?_ (by assumption) ?_
    rotate_left
    · (intro w hSw; (try dsimp only at hSw); go_simp; (try with_reducible rfl))
    (try simp only [getElem_toArray, getElem_cons_succ, getElem_cons_zero, Act.put, setIfInBounds_toArray, set_cons_zero, set_cons_succ])
    refine tk 6 ?_ rfl (by kernel_rfl) (by kernel_rfl) (by kernel_rfl) (fun _ _ _ h => h) (by rfl) ?_ (by assumption) ?_
    rotate_left
    · (intro w hSw; (try dsimp only at hSw); go_simp; (try with_reducible rfl))
    (try simp only [getElem_toArray, getElem_cons_succ, getElem_cons_zero, Act.put, setIfInBounds_toArray, set_cons_zero, set_cons_succ])
    refine tk 7 ?_ rfl (by kernel_rfl) (by kernel_rfl) (by kernel_rfl) (fun _ _ _ h => h) (by rfl) ?_ (by assumption) ?_
    rotate_left
    · (intro w hSw; (try dsimp only at hSw); go_simp; (try with_reducible rfl))
    (try simp only [getElem_toArray, getElem_cons_succ, getElem_cons_zero, Act.put, setIfInBounds_toArray, set_cons_zero, set_cons_succ])
    refine tk 8 ?_ rfl (by kernel_rfl) (by kernel_rfl) (by kernel_rfl) (fun _ _ _ h => h) (by rfl) ?_ (by assumption) ?_
    rotate_left
    · (intro w hSw; (try dsimp only at hSw); go_simp; (try with_reducible rfl))
    (try simp only [getElem_toArray, getElem_cons_succ, getElem_cons_zero, Act.put, setIfInBounds_toArray, set_cons_zero, set_cons_succ])
    refine tk 10 ?_ rfl (by kernel_rfl) (by kernel_rfl) (by kernel_rfl) (fun _ _ _ h => h) (by rfl) ?_ (by assumption) ?_
    rotate_left
    · (intro w hSw; (try dsimp only at hSw); go_simp; (try with_reducible rfl))
    (try simp only [getElem_toArray, getElem_cons_succ, getElem_cons_zero, Act.put, setIfInBounds_toArray, set_cons_zero, set_cons_succ])
    refine rd1 9 (by kernel_rfl) rfl (fun K hK => ?_)
    go_simp
    go_at_call 37
    refine (lparam_v (g18.more (by decide)) (g19.more (by decide)) (g20.more (by decide)) V0.out k0 k1 (by decide)).mono ?_
    rintro e w514 ⟨s0, A0, n0, c0, D0, m0, e0, rfl, u0, hb⟩
    replace g18 := g18.below hb
    replace g19 := g19.below hb
    replace g20 := g20.below hb
    replace f0 := f0.below hb
    replace f1 := f1.below hb
    replace k0 := k0.below hb
    replace k1 := k1.below hb
    replace k2 := k2.below hb
    replace k3 := k3.below hb
    replace b4 := b4.below hb
    replace b5 := b5.below hb
    replace b6 := b6.below hb
    replace b7 := b7.below hb
    replace b8 := b8.below hb
    replace H0 := H0.trans (hb.mono H0.size)
    clear hb
    go_wp2_with fail
    refine hK.out _ _ (b4.and6 (b5.and3 (b6.and3 (b7.and6 (b8.all6))))) (fun hHeld => ?_)
    clear hK K
    (try simp only [getElem_toArray, getElem_cons_succ, getElem_cons_zero, Act.put, setIfInBounds_toArray, set_cons_zero, set_cons_succ])
    refine rd1 11 (by kernel_rfl) rfl (fun K hK => ?_)
    go_simp
    go_at_call 24
    refine (sameq_d u0 f0 HP0.out).mono ?_
    rintro e w515 ⟨rfl, hb⟩
    replace g18 := g18.below hb
    replace g19 := g19.below hb
    replace g20 := g20.below hb
    replace f0 := f0.below hb
    replace f1 := f1.below hb
    replace k0 := k0.below hb
    replace k1 := k1.below hb
    replace k2 := k2.below hb
    replace k3 := k3.below hb
    replace u0 := u0.below hb
    replace b4 := b4.below hb
    replace b5 := b5.below hb
    replace b6 := b6.below hb
    replace b7 := b7.below hb
    replace b8 := b8.below hb
    replace H0 := H0.trans (hb.mono H0.size)
    clear hb
    clear u0
    go_wp2_with fail
    refine hK.out _ _ (b4.and6 (b5.and3 (b6.and3 (b7.and6 (b8.all6))))) (fun hHeld => ?_)
    clear hK K
    (try simp only [getElem_toArray, getElem_cons_succ, getElem_cons_zero, Act.put, setIfInBounds_toArray, set_cons_zero, set_cons_succ])
    refine tk 12 ?_ rfl (by kernel_rfl) (by kernel_rfl) (by kernel_rfl) (fun _ _ _ h => h) (by rfl) ?_ (by assumption) ?_
    rotate_left
    · (intro w hSw; (try dsimp only at hSw); go_simp; (try with_reducible rfl))
    (try simp only [getElem_toArray, getElem_cons_succ, getElem_cons_zero, Act.put, setIfInBounds_toArray, set_cons_zero, set_cons_succ])
    refine tk 13 ?_ rfl (by kernel_rfl) (by kernel_rfl) (by kernel_rfl) (fun _ _ _ h => h) (by rfl) ?_ (by assumption) ?_
    rotate_left
    · (intro w hSw; (try dsimp only at hSw); go_simp; (try with_reducible rfl))
    (try simp only [getElem_toArray, getElem_cons_succ, getElem_cons_zero, Act.put, setIfInBounds_toArray, set_cons_zero, set_cons_succ])
    refine tk 14 ?_ rfl (by kernel_rfl) (by kernel_rfl) (by kernel_rfl) (fun _ _ _ h => h) (by rfl) ?_ (by assumption) ?_
    rotate_left
    · (intro w hSw; (try dsimp only at hSw); go_simp; (try with_reducible rfl))
    (try simp only [getElem_toArray, getElem_cons_succ, getElem_cons_zero, Act.put, setIfInBounds_toArray, set_cons_zero, set_cons_succ])
    refine tk 15 ?_ rfl (by kernel_rfl) (by kernel_rfl) (by kernel_rfl) (fun _ _ _ h => h) (by rfl) ?_ (by assumption) ?_
    rotate_left
    · (intro w hSw; (try dsimp only at hSw); go_simp; (try with_reducible rfl))
    (try simp only [getElem_toArray, getElem_cons_succ, getElem_cons_zero, Act.put, setIfInBounds_toArray, set_cons_zero, set_cons_succ])
    refine tk 16 ?_ rfl (by kernel_rfl) (by kernel_rfl) (by kernel_rfl) (fun _ _ _ h => h) (by rfl) ?_ (by assumption) ?_
    rotate_left
    · (intro w hSw; (try dsimp only at hSw); go_simp; (try with_reducible rfl))
    (try simp only [getElem_toArray, getElem_cons_succ, getElem_cons_zero, Act.put, setIfInBounds_toArray, set_cons_zero, set_cons_succ])
    refine tk 18 ?_ rfl (by kernel_rfl) (by kernel_rfl) (by kernel_rfl) (fun _ _ _ h => h) (by rfl) ?_ (by assumption) ?_
    rotate_left
    · (intro w hSw; (try dsimp only at hSw); go_simp; (try with_reducible rfl))
    (try simp only [getElem_toArray, getElem_cons_succ, getElem_cons_zero, Act.put, setIfInBounds_toArray, set_cons_zero, set_cons_succ])
    refine rd1 17 (by kernel_rfl) rfl (fun K hK => ?_)
    go_simp
    go_at_call 37
    refine (lparam_v (g18.more (by decide)) (g19.more (by decide)) (g20.more (by decide)) V0.out k2 k3 (by decide)).mono ?_
    rintro e w516 ⟨s0, A0, n0, c0, D0, m0, e0, rfl, u0, hb⟩
    replace g18 := g18.below hb
    replace g19 := g19.below hb
    replace g20 := g20.below hb
    replace f0 := f0.below hb
    replace f1 := f1.below hb
    replace k0 := k0.below hb
    replace k1 := k1.below hb
    replace k2 := k2.below hb
    replace k3 := k3.below hb
    replace b4 := b4.below hb
    replace b5 := b5.below hb
    replace b6 := b6.below hb
    replace b7 := b7.below hb
    replace b8 := b8.below hb
    replace H0 := H0.trans (hb.mono H0.size)
    clear hb
    go_wp2_with fail
    refine hK.out _ _ (b4.and6 (b5.and3 (b6.and3 (b7.and6 (b8.all6))))) (fun hHeld => ?_)
    clear hK K
    (try simp only [getElem_toArray, getElem_cons_succ, getElem_cons_zero, Act.put, setIfInBounds_toArray, set_cons_zero, set_cons_succ])
    refine rd1 19 (by kernel_rfl) rfl (fun K hK => ?_)
    go_simp
    go_at_call 24
    refine (sameq_d u0 f1 HP1.out).mono ?_
    rintro e w517 ⟨rfl, hb⟩
    replace g18 := g18.below hb
    replace g19 := g19.below hb
    replace g20 := g20.below hb
    replace f0 := f0.below hb
    replace f1 := f1.below hb
    replace k0 := k0.below hb
    replace k1 := k1.below hb
    replace k2 := k2.below hb
    replace k3 := k3.below hb
    replace u0 := u0.below hb
    replace b4 := b4.below hb
    replace b5 := b5.below hb
    replace b6 := b6.below hb
    replace b7 := b7.below hb
    replace b8 := b8.below hb
    replace H0 := H0.trans (hb.mono H0.size)
    clear hb
    clear u0
    go_wp2_with fail
    refine hK.out _ _ (b4.and6 (b5.and3 (b6.and3 (b7.and6 (b8.all6))))) (fun hHeld => ?_)
    clear hK K
    (try simp only [getElem_toArray, getElem_cons_succ, getElem_cons_zero, Act.put, setIfInBounds_toArray, set_cons_zero, set_cons_succ])
    refine tk 20 ?_ rfl (by kernel_rfl) (by kernel_rfl) (by kernel_rfl) (fun _ _ _ h => h) (by rfl) ?_ (by assumption) ?_
    rotate_left
    · (intro w hSw; (try dsimp only at hSw); go_simp; (try with_reducible rfl))
    (try simp only [getElem_toArray, getElem_cons_succ, getElem_cons_zero, Act.put, setIfInBounds_toArray, set_cons_zero, set_cons_succ])
    refine tk 21 ?_ rfl (by kernel_rfl) (by kernel_rfl) (by kernel_rfl) (fun _ _ _ h => h) (by rfl) ?_ (by assumption) ?_
    rotate_left
    · (intro w hSw; (try dsimp only at hSw); go_simp; (try with_reducible rfl))
    (try simp only [getElem_toArray, getElem_cons_succ, getElem_cons_zero, Act.put, setIfInBounds_toArray, set_cons_zero, set_cons_succ])
    refine wpAnyH_done (by kernel_rfl) ?_ _
    refine NoPanic.normal ?_
    clear HV0 HP0 HP1
    obtain ⟨cb40, cb41, cb42, cb43, cb44, cb45⟩ := b4.cells6
    go_wp2_with fail
    clear cb40 cb41 cb42 cb43 cb44 cb45
    refine (ldir_v g18 g19 g20 V0.out (by decide)).mono ?_
    rintro e w518 ⟨s8, A8, n8, c8, D8, m8, e8, s9, A9, n9, c9, D9, m9, e9, rfl, d0, d1, hb⟩
    replace g18 := g18.below hb
    replace g19 := g19.below hb
    replace g20 := g20.below hb
    replace f0 := f0.below hb
    replace f1 := f1.below hb
    replace k0 := k0.below hb
    replace k1 := k1.below hb
    replace k2 := k2.below hb
    replace k3 := k3.below hb
    replace b4 := b4.below hb
    replace b5 := b5.below hb
    replace b6 := b6.below hb
    replace b7 := b7.below hb
    replace b8 := b8.below hb
    replace H0 := H0.trans (hb.mono H0.size)
    clear hb
    have lb4_519 := b4.lt
    have lb5_519 := b5.lt
    have lb6_519 := b6.lt
    have lb7_519 := b7.lt
    have lb8_519 := b8.lt
    obtain ⟨W519, hW, b9, hbW, hszW519⟩ := boxes1 w518 #[.bool s8, .slice A8 n8 c8, .slice D8 m8 e8, .bool s9, .slice A9 n9 c9, .slice D9 m9 e9] 54
    skip
    skip
    replace g18 := g18.below hbW
    replace g19 := g19.below hbW
    replace g20 := g20.below hbW
    replace f0 := f0.below hbW
    replace f1 := f1.below hbW
    replace k0 := k0.below hbW
    replace k1 := k1.below hbW
    replace k2 := k2.below hbW
    replace k3 := k3.below hbW
    replace d0 := d0.below hbW
    replace d1 := d1.below hbW
    replace b4 := b4.below hbW
    replace b5 := b5.below hbW
    replace b6 := b6.below hbW
    replace b7 := b7.below hbW
    replace b8 := b8.below hbW
    replace H0 := H0.trans (hbW.mono H0.size)
    clear hbW
    go_wp2_with fail
    clear hW
    clear hszW519
    have lcb4_520 := b4.lt
    have lcb5_520 := b5.lt
    have lcb6_520 := b6.lt
    have lcb7_520 := b7.lt
    have lcb8_520 := b8.lt
    have lcb9_520 := b9.lt
    go_cut [10] from 11 (fun u520_0 wx => ∃ g520_0 s2 A2 n2 c2 D2 m2 e2, u520_0 = .pointer (some ⟨g520_0, 0, none⟩) ∧ NQ wx s2 (.slice A2 n2 c2) (.slice D2 m2 e2) (- -(z0 : Rat)) (max (max 1 2) 1) ∧ Box wx g520_0 #[.bool s2, .slice A2 n2 c2, .slice D2 m2 e2, .bool s8, .slice A8 n8 c8, .slice D8 m8 e8] 54 ∧ W519.heap.size ≤ g520_0 ∧ Below W519.heap.size W519 wx)
    case first =>
      have hG := drawn_below W519
      refine wp_region_noPanic ?_
      refine wp_region_held_drew (S := (fun V => V.cell? ⟨w518.heap.size, 0, none⟩ = some (.bool s8) ∧ V.cell? ⟨w518.heap.size, 1, none⟩ = some (.slice A8 n8 c8) ∧ V.cell? ⟨w518.heap.size, 2, none⟩ = some (.slice D8 m8 e8) ∧ V.cell? ⟨w518.heap.size, 3, none⟩ = some (.bool s9) ∧ V.cell? ⟨w518.heap.size, 4, none⟩ = some (.slice A9 n9 c9) ∧ V.cell? ⟨w518.heap.size, 5, none⟩ = some (.slice D9 m9 e9))) (by kernel_rfl) ((b9.below hG).all6) (fun hHeld => ?_)
      generalize W519.drew = v520 at hG hHeld ⊢
      have sG := hG.size
      refine tk 0 ?_ rfl (by kernel_rfl) (by kernel_rfl) (by kernel_rfl) (fun _ _ _ h => h) (by rfl) ?_ (by assumption) ?_
      rotate_left
      · (intro w hSw; (try dsimp only at hSw); go_simp; (try with_reducible rfl))
      (try simp only [getElem_toArray, getElem_cons_zero, Act.put, setIfInBounds_toArray, set_cons_zero, set_cons_succ])
      refine tk 1 ?_ rfl (by kernel_rfl) (by kernel_rfl) (by kernel_rfl) (fun _ _ _ h => h) (by rfl) ?_ (by assumption) ?_
      rotate_left
      · (intro w hSw; (try dsimp only at hSw); go_simp; (try with_reducible rfl))
      (try simp only [getElem_toArray, getElem_cons_succ, getElem_cons_zero, Act.put, setIfInBounds_toArray, set_cons_zero, set_cons_succ])
      refine tk 5 ?_ rfl (by kernel_rfl) (by kernel_rfl) (by kernel_rfl) (fun _ _ _ h => h) (by rfl) ?_ (by assumption) ?_
      rotate_left
      · (intro w hSw; (try dsimp only at hSw); go_simp; (try with_reducible rfl))
      (try simp only [getElem_toArray, getElem_cons_succ, getElem_cons_zero, Act.put, setIfInBounds_toArray, set_cons_zero, set_cons_succ])
      refine tk 6 ?_ rfl (by kernel_rfl) (by kernel_rfl) (by kernel_rfl) (fun _ _ _ h => h) (by rfl) ?_ (by assumption) ?_
      rotate_left
      · (intro w hSw; (try dsimp only at hSw); go_simp; (try with_reducible rfl))
      (try simp only [getElem_toArray, getElem_cons_succ, getElem_cons_zero, Act.put, setIfInBounds_toArray, set_cons_zero, set_cons_succ])
      refine wpAnyH_ready (rs := [2, 8]) (by kernel_rfl) (by simp) (AllReadyH.cons (o := _) rfl (fun K hK => ?_) (AllReadyH.cons (o := _) rfl (fun K hK => ?_) AllReadyH.nil))
      · go_simp
        go_at_call 51
        refine (refq_v (d1.below hG).rq (by decide)).mono ?_
        rintro e y520_1 ⟨s0, A0, n0, c0, D0, m0, e0, rfl, u0, hb9⟩
        have szy520_1 := hb9.size
        replace hG := hG.trans (hb9.mono sG)
        replace sG := hG.size
        clear hb9
        go_wp2_with fail
        refine hK.out _ _ ((b9.below hG).all6) (fun hHeld => ?_)
        clear hK K
        (try simp only [getElem_toArray, getElem_cons_succ, getElem_cons_zero, Act.put, setIfInBounds_toArray, set_cons_zero, set_cons_succ])
        refine wpAnyH_ready (rs := [3, 8]) (by kernel_rfl) (by simp) (AllReadyH.cons (o := _) rfl (fun K hK => ?_) (AllReadyH.cons (o := _) rfl (fun K hK => ?_) AllReadyH.nil))
        · go_simp
          go_at_call 52
          refine (nopp_v u0).mono ?_
          rintro e y520_2 ⟨s1, rfl, u1, hb9⟩
          have szy520_2 := hb9.size
          replace u0 := u0.below hb9
          replace hG := hG.trans (hb9.mono sG)
          replace sG := hG.size
          clear hb9
          clear u0
          go_wp2_with fail
          refine hK.out _ _ ((b9.below hG).all6) (fun hHeld => ?_)
          clear hK K
          (try simp only [getElem_toArray, getElem_cons_succ, getElem_cons_zero, Act.put, setIfInBounds_toArray, set_cons_zero, set_cons_succ])
          refine wpAnyH_ready (rs := [4, 8]) (by kernel_rfl) (by simp) (AllReadyH.cons (o := _) rfl (fun K hK => ?_) (AllReadyH.cons (o := _) rfl (fun K hK => ?_) AllReadyH.nil))
          · go_simp
            go_at_call 26
            refine (toq_v u1 (by decide)).mono ?_
            rintro e y520_3 ⟨s2, A2, n2, c2, D2, m2, e2, rfl, u2, hb9⟩
            have szy520_3 := hb9.size
            replace u1 := u1.below hb9
            replace hG := hG.trans (hb9.mono sG)
            replace sG := hG.size
            clear hb9
            clear u1
            go_wp2_with fail
            refine hK.out _ _ ((b9.below hG).all6) (fun hHeld => ?_)
            clear hK K
            (try simp only [getElem_toArray, getElem_cons_succ, getElem_cons_zero, Act.put, setIfInBounds_toArray, set_cons_zero, set_cons_succ])
            refine tk 7 ?_ rfl (by kernel_rfl) (by kernel_rfl) (by kernel_rfl) (fun _ _ _ h => h) (by rfl) ?_ (by assumption) ?_
            rotate_left
            · (intro w hSw; (try dsimp only at hSw); go_simp; (try with_reducible rfl))
            (try simp only [getElem_toArray, getElem_cons_succ, getElem_cons_zero, Act.put, setIfInBounds_toArray, set_cons_zero, set_cons_succ])
            refine rd1 8 (by kernel_rfl) rfl (fun K hK => ?_)
            go_simp
            obtain ⟨y520_4, hV, b10, hb9, szy520_4⟩ := boxes1 y520_3 #[.bool false, .slice none 0 0, .slice none 0 0, .bool false, .slice none 0 0, .slice none 0 0] 54
            rw [hV]
            clear hV
            have gly520_4 : W519.heap.size ≤ y520_3.heap.size := sG
            replace szy520_4 : y520_3.heap.size < y520_4.heap.size := by omega
            replace u2 := u2.below hb9
            replace hG := hG.trans (hb9.mono sG)
            replace sG := hG.size
            clear hb9
            refine hK.out _ _ ((b9.below hG).all6) (fun hHeld => ?_)
            clear hK K
            (try simp only [getElem_toArray, getElem_cons_succ, getElem_cons_zero, Act.put, setIfInBounds_toArray, set_cons_zero, set_cons_succ])
            have rb100 := b10.cell 0 _ rfl
            have qb100 := b10.frozen 0
            have rb101 := b10.cell 1 _ rfl
            have qb101 := b10.frozen 1
            have rb102 := b10.cell 2 _ rfl
            have qb102 := b10.frozen 2
            have rb103 := b10.cell 3 _ rfl
            have qb103 := b10.frozen 3
            have rb104 := b10.cell 4 _ rfl
            have qb104 := b10.frozen 4
            have rb105 := b10.cell 5 _ rfl
            have qb105 := b10.frozen 5
            refine rd1 9 (by kernel_rfl) rfl (fun K hK => ?_)
            go_simp
            clear rb100 qb100
            clear rb101 qb101
            clear rb102 qb102
            clear rb103 qb103
            clear rb104 qb104
            clear rb105 qb105
            have hg := only_store6 y520_4 (y520_3.heap.size) (.bool s2) (.slice A2 n2 c2) (.slice D2 m2 e2) (.bool s8) (.slice A8 n8 c8) (.slice D8 m8 e8)
            have hB := b10.stored6 (.bool s2) (.slice A2 n2 c2) (.slice D2 m2 e2) (.bool s8) (.slice A8 n8 c8) (.slice D8 m8 e8)
            generalize hX : ((((((y520_4.setCell ⟨y520_3.heap.size, 0, none⟩ (.bool s2)).setCell ⟨y520_3.heap.size, 1, none⟩ (.slice A2 n2 c2)).setCell ⟨y520_3.heap.size, 2, none⟩ (.slice D2 m2 e2)).setCell ⟨y520_3.heap.size, 3, none⟩ (.bool s8)).setCell ⟨y520_3.heap.size, 4, none⟩ (.slice A8 n8 c8)).setCell ⟨y520_3.heap.size, 5, none⟩ (.slice D8 m8 e8)) = Y520_5 at hg hB ⊢
            clear hX
            replace u2 := u2.kept b10 (by simp [notInt]) hg
            replace b10 := hB
            replace hG := below_only hG hg (by omega) sG
            replace sG := hG.size
            clear hg hB
            refine hK.out _ _ ((b9.below hG).all6) (fun hHeld => ?_)
            clear hK K
            (try simp only [getElem_toArray, getElem_cons_succ, getElem_cons_zero, Act.put, setIfInBounds_toArray, set_cons_zero, set_cons_succ])
            refine wpAnyH_done (by kernel_rfl) ?_ _
            refine NoPanic.normal ?_
            go_wp2_with fail
            go_meet
            exact ⟨y520_3.heap.size, s2, A2, n2, c2, D2, m2, e2, rfl, u2, b10, (by omega), hG⟩
          · go_simp
            obtain ⟨y520_6, hV, b10, hb9, szy520_6⟩ := boxes1 y520_2 #[.bool false, .slice none 0 0, .slice none 0 0, .bool false, .slice none 0 0, .slice none 0 0] 54
            rw [hV]
            clear hV
            have gly520_6 : W519.heap.size ≤ y520_2.heap.size := sG
            replace szy520_6 : y520_2.heap.size < y520_6.heap.size := by omega
            replace u1 := u1.below hb9
            replace hG := hG.trans (hb9.mono sG)
            replace sG := hG.size
            clear hb9
            refine hK.out _ _ ((b9.below hG).all6) (fun hHeld => ?_)
            clear hK K
            (try simp only [getElem_toArray, getElem_cons_succ, getElem_cons_zero, Act.put, setIfInBounds_toArray, set_cons_zero, set_cons_succ])
            refine rd1 4 (by kernel_rfl) rfl (fun K hK => ?_)
            go_simp
            go_at_call 26
            refine (toq_v u1 (by decide)).mono ?_
            rintro e y520_7 ⟨s2, A2, n2, c2, D2, m2, e2, rfl, u2, hb9⟩
            have szy520_7 := hb9.size
            replace u1 := u1.below hb9
            replace b10 := b10.below hb9
            replace hG := hG.trans (hb9.mono sG)
            replace sG := hG.size
            clear hb9
            clear u1
            go_wp2_with fail
            refine hK.out _ _ ((b9.below hG).all6) (fun hHeld => ?_)
            clear hK K
            (try simp only [getElem_toArray, getElem_cons_succ, getElem_cons_zero, Act.put, setIfInBounds_toArray, set_cons_zero, set_cons_succ])
            refine tk 7 ?_ rfl (by kernel_rfl) (by kernel_rfl) (by kernel_rfl) (fun _ _ _ h => h) (by rfl) ?_ (by assumption) ?_
            rotate_left
            · (intro w hSw; (try dsimp only at hSw); go_simp; (try with_reducible rfl))
            (try simp only [getElem_toArray, getElem_cons_succ, getElem_cons_zero, Act.put, setIfInBounds_toArray, set_cons_zero, set_cons_succ])
            have rb100 := b10.cell 0 _ rfl
            have qb100 := b10.frozen 0
            have rb101 := b10.cell 1 _ rfl
            have qb101 := b10.frozen 1
            have rb102 := b10.cell 2 _ rfl
            have qb102 := b10.frozen 2
            have rb103 := b10.cell 3 _ rfl
            have qb103 := b10.frozen 3
            have rb104 := b10.cell 4 _ rfl
            have qb104 := b10.frozen 4
            have rb105 := b10.cell 5 _ rfl
            have qb105 := b10.frozen 5
            refine rd1 9 (by kernel_rfl) rfl (fun K hK => ?_)
            go_simp
            clear rb100 qb100
            clear rb101 qb101
            clear rb102 qb102
            clear rb103 qb103
            clear rb104 qb104
            clear rb105 qb105
            have hg := only_store6 y520_7 (y520_2.heap.size) (.bool s2) (.slice A2 n2 c2) (.slice D2 m2 e2) (.bool s8) (.slice A8 n8 c8) (.slice D8 m8 e8)
            have hB := b10.stored6 (.bool s2) (.slice A2 n2 c2) (.slice D2 m2 e2) (.bool s8) (.slice A8 n8 c8) (.slice D8 m8 e8)
            generalize hX : ((((((y520_7.setCell ⟨y520_2.heap.size, 0, none⟩ (.bool s2)).setCell ⟨y520_2.heap.size, 1, none⟩ (.slice A2 n2 c2)).setCell ⟨y520_2.heap.size, 2, none⟩ (.slice D2 m2 e2)).setCell ⟨y520_2.heap.size, 3, none⟩ (.bool s8)).setCell ⟨y520_2.heap.size, 4, none⟩ (.slice A8 n8 c8)).setCell ⟨y520_2.heap.size, 5, none⟩ (.slice D8 m8 e8)) = Y520_8 at hg hB ⊢
            clear hX
            replace u2 := u2.kept b10 (by simp [notInt]) hg
            replace b10 := hB
            replace hG := below_only hG hg (by omega) sG
            replace sG := hG.size
            clear hg hB
            refine hK.out _ _ ((b9.below hG).all6) (fun hHeld => ?_)
            clear hK K
            (try simp only [getElem_toArray, getElem_cons_succ, getElem_cons_zero, Act.put, setIfInBounds_toArray, set_cons_zero, set_cons_succ])
            refine wpAnyH_done (by kernel_rfl) ?_ _
            refine NoPanic.normal ?_
            go_wp2_with fail
            go_meet
            exact ⟨y520_2.heap.size, s2, A2, n2, c2, D2, m2, e2, rfl, u2, b10, (by omega), hG⟩
        · go_simp
          obtain ⟨y520_9, hV, b10, hb9, szy520_9⟩ := boxes1 y520_1 #[.bool false, .slice none 0 0, .slice none 0 0, .bool false, .slice none 0 0, .slice none 0 0] 54
          rw [hV]
          clear hV
          have gly520_9 : W519.heap.size ≤ y520_1.heap.size := sG
          replace szy520_9 : y520_1.heap.size < y520_9.heap.size := by omega
          replace u0 := u0.below hb9
          replace hG := hG.trans (hb9.mono sG)
          replace sG := hG.size
          clear hb9
          refine hK.out _ _ ((b9.below hG).all6) (fun hHeld => ?_)
          clear hK K
          (try simp only [getElem_toArray, getElem_cons_succ, getElem_cons_zero, Act.put, setIfInBounds_toArray, set_cons_zero, set_cons_succ])
          refine rd1 3 (by kernel_rfl) rfl (fun K hK => ?_)
          go_simp
          go_at_call 52
          refine (nopp_v u0).mono ?_
          rintro e y520_10 ⟨s1, rfl, u1, hb9⟩
          have szy520_10 := hb9.size
          replace u0 := u0.below hb9
          replace b10 := b10.below hb9
          replace hG := hG.trans (hb9.mono sG)
          replace sG := hG.size
          clear hb9
          clear u0
          go_wp2_with fail
          refine hK.out _ _ ((b9.below hG).all6) (fun hHeld => ?_)
          clear hK K
          (try simp only [getElem_toArray, getElem_cons_succ, getElem_cons_zero, Act.put, setIfInBounds_toArray, set_cons_zero, set_cons_succ])
          refine rd1 4 (by kernel_rfl) rfl (fun K hK => ?_)
          go_simp
          go_at_call 26
          refine (toq_v u1 (by decide)).mono ?_
          rintro e y520_11 ⟨s2, A2, n2, c2, D2, m2, e2, rfl, u2, hb9⟩
          have szy520_11 := hb9.size
          replace u1 := u1.below hb9
          replace b10 := b10.below hb9
          replace hG := hG.trans (hb9.mono sG)
          replace sG := hG.size
          clear hb9
          clear u1
          go_wp2_with fail
          refine hK.out _ _ ((b9.below hG).all6) (fun hHeld => ?_)
          clear hK K
          (try simp only [getElem_toArray, getElem_cons_succ, getElem_cons_zero, Act.put, setIfInBounds_toArray, set_cons_zero, set_cons_succ])
          refine tk 7 ?_ rfl (by kernel_rfl) (by kernel_rfl) (by kernel_rfl) (fun _ _ _ h => h) (by rfl) ?_ (by assumption) ?_
          rotate_left
          · (intro w hSw; (try dsimp only at hSw); go_simp; (try with_reducible rfl))
          (try simp only [getElem_toArray, getElem_cons_succ, getElem_cons_zero, Act.put, setIfInBounds_toArray, set_cons_zero, set_cons_succ])
          have rb100 := b10.cell 0 _ rfl
          have qb100 := b10.frozen 0
          have rb101 := b10.cell 1 _ rfl
          have qb101 := b10.frozen 1
          have rb102 := b10.cell 2 _ rfl
          have qb102 := b10.frozen 2
          have rb103 := b10.cell 3 _ rfl
          have qb103 := b10.frozen 3
          have rb104 := b10.cell 4 _ rfl
          have qb104 := b10.frozen 4
          have rb105 := b10.cell 5 _ rfl
          have qb105 := b10.frozen 5
          refine rd1 9 (by kernel_rfl) rfl (fun K hK => ?_)
          go_simp
          clear rb100 qb100
          clear rb101 qb101
          clear rb102 qb102
          clear rb103 qb103
          clear rb104 qb104
          clear rb105 qb105
          have hg := only_store6 y520_11 (y520_1.heap.size) (.bool s2) (.slice A2 n2 c2) (.slice D2 m2 e2) (.bool s8) (.slice A8 n8 c8) (.slice D8 m8 e8)
          have hB := b10.stored6 (.bool s2) (.slice A2 n2 c2) (.slice D2 m2 e2) (.bool s8) (.slice A8 n8 c8) (.slice D8 m8 e8)
          generalize hX : ((((((y520_11.setCell ⟨y520_1.heap.size, 0, none⟩ (.bool s2)).setCell ⟨y520_1.heap.size, 1, none⟩ (.slice A2 n2 c2)).setCell ⟨y520_1.heap.size, 2, none⟩ (.slice D2 m2 e2)).setCell ⟨y520_1.heap.size, 3, none⟩ (.bool s8)).setCell ⟨y520_1.heap.size, 4, none⟩ (.slice A8 n8 c8)).setCell ⟨y520_1.heap.size, 5, none⟩ (.slice D8 m8 e8)) = Y520_12 at hg hB ⊢
          clear hX
          replace u2 := u2.kept b10 (by simp [notInt]) hg
          replace b10 := hB
          replace hG := below_only hG hg (by omega) sG
          replace sG := hG.size
          clear hg hB
          refine hK.out _ _ ((b9.below hG).all6) (fun hHeld => ?_)
          clear hK K
          (try simp only [getElem_toArray, getElem_cons_succ, getElem_cons_zero, Act.put, setIfInBounds_toArray, set_cons_zero, set_cons_succ])
          refine wpAnyH_done (by kernel_rfl) ?_ _
          refine NoPanic.normal ?_
          go_wp2_with fail
          go_meet
          exact ⟨y520_1.heap.size, s2, A2, n2, c2, D2, m2, e2, rfl, u2, b10, (by omega), hG⟩
      · go_simp
        obtain ⟨y520_13, hV, b10, hb9, szy520_13⟩ := boxes1 v520 #[.bool false, .slice none 0 0, .slice none 0 0, .bool false, .slice none 0 0, .slice none 0 0] 54
        rw [hV]
        clear hV
        have gly520_13 : W519.heap.size ≤ v520.heap.size := sG
        replace szy520_13 : v520.heap.size < y520_13.heap.size := by omega
        replace hG := hG.trans (hb9.mono sG)
        replace sG := hG.size
        clear hb9
        refine hK.out _ _ ((b9.below hG).all6) (fun hHeld => ?_)
        clear hK K
        (try simp only [getElem_toArray, getElem_cons_succ, getElem_cons_zero, Act.put, setIfInBounds_toArray, set_cons_zero, set_cons_succ])
        refine rd1 2 (by kernel_rfl) rfl (fun K hK => ?_)
        go_simp
        go_at_call 51
        refine (refq_v (d1.below hG).rq (by decide)).mono ?_
        rintro e y520_14 ⟨s0, A0, n0, c0, D0, m0, e0, rfl, u0, hb9⟩
        have szy520_14 := hb9.size
        replace b10 := b10.below hb9
        replace hG := hG.trans (hb9.mono sG)
        replace sG := hG.size
        clear hb9
        go_wp2_with fail
        refine hK.out _ _ ((b9.below hG).all6) (fun hHeld => ?_)
        clear hK K
        (try simp only [getElem_toArray, getElem_cons_succ, getElem_cons_zero, Act.put, setIfInBounds_toArray, set_cons_zero, set_cons_succ])
        refine rd1 3 (by kernel_rfl) rfl (fun K hK => ?_)
        go_simp
        go_at_call 52
        refine (nopp_v u0).mono ?_
        rintro e y520_15 ⟨s1, rfl, u1, hb9⟩
        have szy520_15 := hb9.size
        replace u0 := u0.below hb9
        replace b10 := b10.below hb9
        replace hG := hG.trans (hb9.mono sG)
        replace sG := hG.size
        clear hb9
        clear u0
        go_wp2_with fail
        refine hK.out _ _ ((b9.below hG).all6) (fun hHeld => ?_)
        clear hK K
        (try simp only [getElem_toArray, getElem_cons_succ, getElem_cons_zero, Act.put, setIfInBounds_toArray, set_cons_zero, set_cons_succ])
        refine rd1 4 (by kernel_rfl) rfl (fun K hK => ?_)
        go_simp
        go_at_call 26
        refine (toq_v u1 (by decide)).mono ?_
        rintro e y520_16 ⟨s2, A2, n2, c2, D2, m2, e2, rfl, u2, hb9⟩
        have szy520_16 := hb9.size
        replace u1 := u1.below hb9
        replace b10 := b10.below hb9
        replace hG := hG.trans (hb9.mono sG)
        replace sG := hG.size
        clear hb9
        clear u1
        go_wp2_with fail
        refine hK.out _ _ ((b9.below hG).all6) (fun hHeld => ?_)
        clear hK K
        (try simp only [getElem_toArray, getElem_cons_succ, getElem_cons_zero, Act.put, setIfInBounds_toArray, set_cons_zero, set_cons_succ])
        refine tk 7 ?_ rfl (by kernel_rfl) (by kernel_rfl) (by kernel_rfl) (fun _ _ _ h => h) (by rfl) ?_ (by assumption) ?_
        rotate_left
        · (intro w hSw; (try dsimp only at hSw); go_simp; (try with_reducible rfl))
        (try simp only [getElem_toArray, getElem_cons_succ, getElem_cons_zero, Act.put, setIfInBounds_toArray, set_cons_zero, set_cons_succ])
        have rb100 := b10.cell 0 _ rfl
        have qb100 := b10.frozen 0
        have rb101 := b10.cell 1 _ rfl
        have qb101 := b10.frozen 1
        have rb102 := b10.cell 2 _ rfl
        have qb102 := b10.frozen 2
        have rb103 := b10.cell 3 _ rfl
        have qb103 := b10.frozen 3
        have rb104 := b10.cell 4 _ rfl
        have qb104 := b10.frozen 4
        have rb105 := b10.cell 5 _ rfl
        have qb105 := b10.frozen 5
        refine rd1 9 (by kernel_rfl) rfl (fun K hK => ?_)
        go_simp
        clear rb100 qb100
        clear rb101 qb101
        clear rb102 qb102
        clear rb103 qb103
        clear rb104 qb104
        clear rb105 qb105
        have hg := only_store6 y520_16 (v520.heap.size) (.bool s2) (.slice A2 n2 c2) (.slice D2 m2 e2) (.bool s8) (.slice A8 n8 c8) (.slice D8 m8 e8)
        have hB := b10.stored6 (.bool s2) (.slice A2 n2 c2) (.slice D2 m2 e2) (.bool s8) (.slice A8 n8 c8) (.slice D8 m8 e8)
        generalize hX : ((((((y520_16.setCell ⟨v520.heap.size, 0, none⟩ (.bool s2)).setCell ⟨v520.heap.size, 1, none⟩ (.slice A2 n2 c2)).setCell ⟨v520.heap.size, 2, none⟩ (.slice D2 m2 e2)).setCell ⟨v520.heap.size, 3, none⟩ (.bool s8)).setCell ⟨v520.heap.size, 4, none⟩ (.slice A8 n8 c8)).setCell ⟨v520.heap.size, 5, none⟩ (.slice D8 m8 e8)) = Y520_17 at hg hB ⊢
        clear hX
        replace u2 := u2.kept b10 (by simp [notInt]) hg
        replace b10 := hB
        replace hG := below_only hG hg (by omega) sG
        replace sG := hG.size
        clear hg hB
        refine hK.out _ _ ((b9.below hG).all6) (fun hHeld => ?_)
        clear hK K
        (try simp only [getElem_toArray, getElem_cons_succ, getElem_cons_zero, Act.put, setIfInBounds_toArray, set_cons_zero, set_cons_succ])
        refine wpAnyH_done (by kernel_rfl) ?_ _
        refine NoPanic.normal ?_
        go_wp2_with fail
        go_meet
        exact ⟨v520.heap.size, s2, A2, n2, c2, D2, m2, e2, rfl, u2, b10, (by omega), hG⟩
    obtain ⟨g520_0, s2, A2, n2, c2, D2, m2, e2, rfl, u2, b10, glg520_0, hG⟩ := hcut
    replace g18 := g18.below hG
    replace g19 := g19.below hG
    replace g20 := g20.below hG
    replace f0 := f0.below hG
    replace f1 := f1.below hG
    replace k0 := k0.below hG
    replace k1 := k1.below hG
    replace k2 := k2.below hG
    replace k3 := k3.below hG
    replace d0 := d0.below hG
    replace d1 := d1.below hG
    replace b4 := b4.below hG
    replace b5 := b5.below hG
    replace b6 := b6.below hG
    replace b7 := b7.below hG
    replace b8 := b8.below hG
    replace b9 := b9.below hG
    replace H0 := H0.trans (hG.mono H0.size)
    clear hG
    go_wp2_with fail
    have HS1 := Lib.hid (left_on z2 V0.out.1 q0)
    have HS2 := Lib.hid (left_rev z2 V0.out.1 q0)
    have V2 := Lib.hid (vl_neg V0.out)
    have hD := drawn_below wc
    replace g18 := g18.below hD
    replace g19 := g19.below hD
    replace g20 := g20.below hD
    replace f0 := f0.below hD
    replace f1 := f1.below hD
    replace k0 := k0.below hD
    replace k1 := k1.below hD
    replace k2 := k2.below hD
    replace k3 := k3.below hD
    replace d0 := d0.below hD
    replace d1 := d1.below hD
    replace u2 := u2.below hD
    replace b4 := b4.below hD
    replace b5 := b5.below hD
    replace b6 := b6.below hD
    replace b7 := b7.below hD
    replace b8 := b8.below hD
    replace b9 := b9.below hD
    replace b10 := b10.below hD
    replace H0 := H0.trans (hD.mono H0.size)
    clear hD
    refine wp_region_noPanic ?_
    refine wp_region_held_drew (S := (fun V => V.cell? ⟨w3.heap.size, 0, none⟩ = some (.bool s18) ∧ V.cell? ⟨w3.heap.size, 1, none⟩ = some (.slice A18 n18 c18) ∧ V.cell? ⟨w3.heap.size, 2, none⟩ = some (.bool s19) ∧ V.cell? ⟨w3.heap.size, 3, none⟩ = some (.slice A19 n19 c19) ∧ V.cell? ⟨w3.heap.size, 4, none⟩ = some (.bool s20) ∧ V.cell? ⟨w3.heap.size, 5, none⟩ = some (.slice A20 n20 c20) ∧ V.cell? ⟨g70, 0, none⟩ = some (.bool s12) ∧ V.cell? ⟨g70, 1, none⟩ = some (.slice A12 n12 c12) ∧ V.cell? ⟨g70, 2, none⟩ = some (.slice D12 m12 e12) ∧ V.cell? ⟨g70, 3, none⟩ = some (.bool s13) ∧ V.cell? ⟨g70, 4, none⟩ = some (.slice A13 n13 c13) ∧ V.cell? ⟨g70, 5, none⟩ = some (.slice D13 m13 e13) ∧ V.cell? ⟨g520_0, 0, none⟩ = some (.bool s2) ∧ V.cell? ⟨g520_0, 1, none⟩ = some (.slice A2 n2 c2) ∧ V.cell? ⟨g520_0, 2, none⟩ = some (.slice D2 m2 e2) ∧ V.cell? ⟨g520_0, 3, none⟩ = some (.bool s8) ∧ V.cell? ⟨g520_0, 4, none⟩ = some (.slice A8 n8 c8) ∧ V.cell? ⟨g520_0, 5, none⟩ = some (.slice D8 m8 e8))) (by kernel_rfl) (b4.and6 (b7.and6 (b10.all6))) (fun hHeld => ?_)
    generalize wc.drew = v522 at H0 hHeld g18 g19 g20 f0 f1 k0 k1 k2 k3 d0 d1 u2 b4 b5 b6 b7 b8 b9 b10 ⊢
    refine tk 0 ?_ rfl (by kernel_rfl) (by kernel_rfl) (by kernel_rfl) (fun _ _ _ h => h) (by rfl) ?_ (by assumption) ?_
    rotate_left
    · (intro w hSw; (try dsimp only at hSw); go_simp; (try with_reducible rfl))
    (try simp only [getElem_toArray, getElem_cons_zero, Act.put, setIfInBounds_toArray, set_cons_zero, set_cons_succ])
    refine tk 1 ?_ rfl (by kernel_rfl) (by kernel_rfl) (by kernel_rfl) (fun _ _ _ h => h) (by rfl) ?_ (by assumption) ?_
    rotate_left
    · (intro w hSw; (try dsimp only at hSw); go_simp; (try with_reducible rfl))
    (try simp only [getElem_toArray, getElem_cons_succ, getElem_cons_zero, Act.put, setIfInBounds_toArray, set_cons_zero, set_cons_succ])
    refine tk 2 ?_ rfl (by kernel_rfl) (by kernel_rfl) (by kernel_rfl) (fun _ _ _ h => h) (by rfl) ?_ (by assumption) ?_
    rotate_left
    · (intro w hSw; (try dsimp only at hSw); go_simp; (try with_reducible rfl))
    (try simp only [getElem_toArray, getElem_cons_succ, getElem_cons_zero, Act.put, setIfInBounds_toArray, set_cons_zero, set_cons_succ])
    refine rd1 3 (by kernel_rfl) rfl (fun K hK => ?_)
    go_simp
    go_at_call 53
    refine (padd_v k0.rq k1.rq u2.rq (d0.more (by decide)).rq (by decide) (by decide)).mono ?_
    rintro e w523 ⟨s0, A0, n0, c0, D0, m0, e0, s1, A1, n1, c1, D1, m1, e1, rfl, x0, x1, hb⟩
    replace g18 := g18.below hb
    replace g19 := g19.below hb
    replace g20 := g20.below hb
    replace f0 := f0.below hb
    replace f1 := f1.below hb
    replace k0 := k0.below hb
    replace k1 := k1.below hb
    replace k2 := k2.below hb
    replace k3 := k3.below hb
    replace d0 := d0.below hb
    replace d1 := d1.below hb
    replace u2 := u2.below hb
    replace b4 := b4.below hb
    replace b5 := b5.below hb
    replace b6 := b6.below hb
    replace b7 := b7.below hb
    replace b8 := b8.below hb
    replace b9 := b9.below hb
    replace b10 := b10.below hb
    replace H0 := H0.trans (hb.mono H0.size)
    clear hb
    go_wp2_with fail
    refine hK.out _ _ (b4.and6 (b7.and6 (b10.all6))) (fun hHeld => ?_)
    clear hK K
    (try simp only [getElem_toArray, getElem_cons_succ, getElem_cons_zero, Act.put, setIfInBounds_toArray, set_cons_zero, set_cons_succ])
    refine rd1 4 (by kernel_rfl) rfl (fun K hK => ?_)
    go_simp
    go_at_call 28
    refine (lside_v (g18.more (by decide)) (g19.more (by decide)) (g20.more (by decide)) V0.out x0 x1 (by decide) HS1.out).mono ?_
    rintro e w524 ⟨rfl, hb⟩
    replace g18 := g18.below hb
    replace g19 := g19.below hb
    replace g20 := g20.below hb
    replace f0 := f0.below hb
    replace f1 := f1.below hb
    replace k0 := k0.below hb
    replace k1 := k1.below hb
    replace k2 := k2.below hb
    replace k3 := k3.below hb
    replace d0 := d0.below hb
    replace d1 := d1.below hb
    replace u2 := u2.below hb
    replace x0 := x0.below hb
    replace x1 := x1.below hb
    replace b4 := b4.below hb
    replace b5 := b5.below hb
    replace b6 := b6.below hb
    replace b7 := b7.below hb
    replace b8 := b8.below hb
    replace b9 := b9.below hb
    replace b10 := b10.below hb
    replace H0 := H0.trans (hb.mono H0.size)
    clear hb
    clear x0
    clear x1
    go_wp2_with fail
    refine hK.out _ _ (b4.and6 (b7.and6 (b10.all6))) (fun hHeld => ?_)
    clear hK K
    (try simp only [getElem_toArray, getElem_cons_succ, getElem_cons_zero, Act.put, setIfInBounds_toArray, set_cons_zero, set_cons_succ])
    refine tk 5 ?_ rfl (by kernel_rfl) (by kernel_rfl) (by kernel_rfl) (fun _ _ _ h => h) (by rfl) ?_ (by assumption) ?_
    rotate_left
    · (intro w hSw; (try dsimp only at hSw); go_simp; (try with_reducible rfl))
    (try simp only [getElem_toArray, getElem_cons_succ, getElem_cons_zero, Act.put, setIfInBounds_toArray, set_cons_zero, set_cons_succ])
    refine tk 6 ?_ rfl (by kernel_rfl) (by kernel_rfl) (by kernel_rfl) (fun _ _ _ h => h) (by rfl) ?_ (by assumption) ?_
    rotate_left
    · (intro w hSw; (try dsimp only at hSw); go_simp; (try with_reducible rfl))
    (try simp only [getElem_toArray, getElem_cons_succ, getElem_cons_zero, Act.put, setIfInBounds_toArray, set_cons_zero, set_cons_succ])
    refine tk 7 ?_ rfl (by kernel_rfl) (by kernel_rfl) (by kernel_rfl) (fun _ _ _ h => h) (by rfl) ?_ (by assumption) ?_
    rotate_left
    · (intro w hSw; (try dsimp only at hSw); go_simp; (try with_reducible rfl))
    (try simp only [getElem_toArray, getElem_cons_succ, getElem_cons_zero, Act.put, setIfInBounds_toArray, set_cons_zero, set_cons_succ])
    refine tk 9 ?_ rfl (by kernel_rfl) (by kernel_rfl) (by kernel_rfl) (fun _ _ _ h => h) (by rfl) ?_ (by assumption) ?_
    rotate_left
    · (intro w hSw; (try dsimp only at hSw); go_simp; (try with_reducible rfl))
    (try simp only [getElem_toArray, getElem_cons_succ, getElem_cons_zero, Act.put, setIfInBounds_toArray, set_cons_zero, set_cons_succ])
    refine tk 10 ?_ rfl (by kernel_rfl) (by kernel_rfl) (by kernel_rfl) (fun _ _ _ h => h) (by rfl) ?_ (by assumption) ?_
    rotate_left
    · (intro w hSw; (try dsimp only at hSw); go_simp; (try with_reducible rfl))
    (try simp only [getElem_toArray, getElem_cons_succ, getElem_cons_zero, Act.put, setIfInBounds_toArray, set_cons_zero, set_cons_succ])
    refine rd1 8 (by kernel_rfl) rfl (fun K hK => ?_)
    go_simp
    go_at_call 54
    refine (lreverse_v g18 g19 g20 V0.out (by decide)).mono ?_
    rintro e w525 ⟨s3, A3, n3, c3, s4, A4, n4, c4, s5, A5, n5, c5, rfl, g3, g4, g5, hb⟩
    replace g18 := g18.below hb
    replace g19 := g19.below hb
    replace g20 := g20.below hb
    replace f0 := f0.below hb
    replace f1 := f1.below hb
    replace k0 := k0.below hb
    replace k1 := k1.below hb
    replace k2 := k2.below hb
    replace k3 := k3.below hb
    replace d0 := d0.below hb
    replace d1 := d1.below hb
    replace u2 := u2.below hb
    replace b4 := b4.below hb
    replace b5 := b5.below hb
    replace b6 := b6.below hb
    replace b7 := b7.below hb
    replace b8 := b8.below hb
    replace b9 := b9.below hb
    replace b10 := b10.below hb
    replace H0 := H0.trans (hb.mono H0.size)
    clear hb
    go_wp2_with fail
    refine hK.out _ _ (b4.and6 (b7.and6 (b10.all6))) (fun hHeld => ?_)
    clear hK K
    (try simp only [getElem_toArray, getElem_cons_succ, getElem_cons_zero, Act.put, setIfInBounds_toArray, set_cons_zero, set_cons_succ])
    refine rd1 11 (by kernel_rfl) rfl (fun K hK => ?_)
    go_simp
    go_at_call 53
    refine (padd_v k0.rq k1.rq u2.rq (d0.more (by decide)).rq (by decide) (by decide)).mono ?_
    rintro e w526 ⟨s0, A0, n0, c0, D0, m0, e0, s1, A1, n1, c1, D1, m1, e1, rfl, x0, x1, hb⟩
    replace g18 := g18.below hb
    replace g19 := g19.below hb
    replace g20 := g20.below hb
    replace f0 := f0.below hb
    replace f1 := f1.below hb
    replace k0 := k0.below hb
    replace k1 := k1.below hb
    replace k2 := k2.below hb
    replace k3 := k3.below hb
    replace d0 := d0.below hb
    replace d1 := d1.below hb
    replace u2 := u2.below hb
    replace g3 := g3.below hb
    replace g4 := g4.below hb
    replace g5 := g5.below hb
    replace b4 := b4.below hb
    replace b5 := b5.below hb
    replace b6 := b6.below hb
    replace b7 := b7.below hb
    replace b8 := b8.below hb
    replace b9 := b9.below hb
    replace b10 := b10.below hb
    replace H0 := H0.trans (hb.mono H0.size)
    clear hb
    go_wp2_with fail
    refine hK.out _ _ (b4.and6 (b7.and6 (b10.all6))) (fun hHeld => ?_)
    clear hK K
    (try simp only [getElem_toArray, getElem_cons_succ, getElem_cons_zero, Act.put, setIfInBounds_toArray, set_cons_zero, set_cons_succ])
    refine rd1 12 (by kernel_rfl) rfl (fun K hK => ?_)
    go_simp
    go_at_call 28
    refine (lside_v (g3.more (by decide)) (g4.more (by decide)) (g5.more (by decide)) V2.out x0 x1 (by decide) HS2.out).mono ?_
    rintro e w527 ⟨rfl, hb⟩
    replace g18 := g18.below hb
    replace g19 := g19.below hb
    replace g20 := g20.below hb
    replace f0 := f0.below hb
    replace f1 := f1.below hb
    replace k0 := k0.below hb
    replace k1 := k1.below hb
    replace k2 := k2.below hb
    replace k3 := k3.below hb
    replace d0 := d0.below hb
    replace d1 := d1.below hb
    replace u2 := u2.below hb
    replace g3 := g3.below hb
    replace g4 := g4.below hb
    replace g5 := g5.below hb
    replace x0 := x0.below hb
    replace x1 := x1.below hb
    replace b4 := b4.below hb
    replace b5 := b5.below hb
    replace b6 := b6.below hb
    replace b7 := b7.below hb
    replace b8 := b8.below hb
    replace b9 := b9.below hb
    replace b10 := b10.below hb
    replace H0 := H0.trans (hb.mono H0.size)
    clear hb
    clear x0
    clear x1
    clear g3
    clear g4
    clear g5
    go_wp2_with fail
    refine hK.out _ _ (b4.and6 (b7.and6 (b10.all6))) (fun hHeld => ?_)
    clear hK K
    (try simp only [getElem_toArray, getElem_cons_succ, getElem_cons_zero, Act.put, setIfInBounds_toArray, set_cons_zero, set_cons_succ])
    refine tk 13 ?_ rfl (by kernel_rfl) (by kernel_rfl) (by kernel_rfl) (fun _ _ _ h => h) (by rfl) ?_ (by assumption) ?_
    rotate_left
    · (intro w hSw; (try dsimp only at hSw); go_simp; (try with_reducible rfl))
    (try simp only [getElem_toArray, getElem_cons_succ, getElem_cons_zero, Act.put, setIfInBounds_toArray, set_cons_zero, set_cons_succ])
    refine tk 14 ?_ rfl (by kernel_rfl) (by kernel_rfl) (by kernel_rfl) (fun _ _ _ h => h) (by rfl) ?_ (by assumption) ?_
    rotate_left
    · (intro w hSw; (try dsimp only at hSw); go_simp; (try with_reducible rfl))
    (try simp only [getElem_toArray, getElem_cons_succ, getElem_cons_zero, Act.put, setIfInBounds_toArray, set_cons_zero, set_cons_succ])
    refine wpAnyH_done (by kernel_rfl) ?_ _
    refine NoPanic.normal ?_
    clear HS1 HS2 V2
    clear d0
    clear d1
    clear u2
    clear b9
    clear b10
    obtain ⟨kc, hkc⟩ : ∃ k, rsg (q0 - q1) = k := ⟨_, rfl⟩
    have hc3 : kc = 1 ∨ kc = 0 ∨ kc = -1 := by rw [← hkc]; rcases rsg_cases (q0 - q1) with ⟨e, _⟩ | ⟨e, _⟩ | ⟨e, _⟩ <;> rw [e] <;> simp
    have HC := Lib.hid hkc
    clear hkc
    rcases hc3 with rfl | rfl | rfl
    · have HN := Lib.hid (show q0 ≠ q1 from fun h => by have := HC.out; rw [h, Rat.sub_self, rsg_zero_iff.2 rfl] at this; omega)
      obtain ⟨cb70, cb71, cb72, cb73, cb74, cb75⟩ := b7.cells6
      obtain ⟨cb80, cb81, cb82, cb83, cb84, cb85⟩ := b8.cells6
      go_wp2_with fail
      clear cb70 cb71 cb72 cb73 cb74 cb75 cb80 cb81 cb82 cb83 cb84 cb85
      refine (lthrough_v k0 k1 k2 k3 (fun h => HN.out ((at_inj z2 V0.out.1).1 h)) (by decide)).mono ?_
      rintro e w528 ⟨t0, t1, t2, s0, A0, n0, c0, s1, A1, n1, c1, s2, A2, n2, c2, rfl, ht, m0, m1, m2, hb⟩
      replace g18 := g18.below hb
      replace g19 := g19.below hb
      replace g20 := g20.below hb
      replace f0 := f0.below hb
      replace f1 := f1.below hb
      replace k0 := k0.below hb
      replace k1 := k1.below hb
      replace k2 := k2.below hb
      replace k3 := k3.below hb
      replace b4 := b4.below hb
      replace b5 := b5.below hb
      replace b6 := b6.below hb
      replace b7 := b7.below hb
      replace b8 := b8.below hb
      replace H0 := H0.trans (hb.mono H0.size)
      clear hb
      obtain ⟨e1, e2, e3⟩ := (thr_at V0.out ht).2 HC.out
      rw [e1] at m0
      rw [e2] at m1
      rw [e3] at m2
      clear e1 e2 e3 ht
      have lb4_529 := b4.lt
      have lb5_529 := b5.lt
      have lb6_529 := b6.lt
      have lb7_529 := b7.lt
      have lb8_529 := b8.lt
      obtain ⟨W529, hW, b11, hbW, hszW529⟩ := boxes1 w528 #[.bool s0, .slice A0 n0 c0, .bool s1, .slice A1 n1 c1, .bool s2, .slice A2 n2 c2] 30
      skip
      skip
      replace g18 := g18.below hbW
      replace g19 := g19.below hbW
      replace g20 := g20.below hbW
      replace f0 := f0.below hbW
      replace f1 := f1.below hbW
      replace k0 := k0.below hbW
      replace k1 := k1.below hbW
      replace k2 := k2.below hbW
      replace k3 := k3.below hbW
      replace m0 := m0.below hbW
      replace m1 := m1.below hbW
      replace m2 := m2.below hbW
      replace b4 := b4.below hbW
      replace b5 := b5.below hbW
      replace b6 := b6.below hbW
      replace b7 := b7.below hbW
      replace b8 := b8.below hbW
      replace H0 := H0.trans (hbW.mono H0.size)
      clear hbW
      obtain ⟨cb50, cb51, cb52⟩ := b5.cells3
      obtain ⟨cb60, cb61, cb62⟩ := b6.cells3
      go_wp2_with fail
      clear hW
      clear cb50 cb51 cb52 cb60 cb61 cb62
      have hD := drawn_below W529
      replace g18 := g18.below hD
      replace g19 := g19.below hD
      replace g20 := g20.below hD
      replace f0 := f0.below hD
      replace f1 := f1.below hD
      replace k0 := k0.below hD
      replace k1 := k1.below hD
      replace k2 := k2.below hD
      replace k3 := k3.below hD
      replace m0 := m0.below hD
      replace m1 := m1.below hD
      replace m2 := m2.below hD
      replace b4 := b4.below hD
      replace b5 := b5.below hD
      replace b6 := b6.below hD
      replace b7 := b7.below hD
      replace b8 := b8.below hD
      replace b11 := b11.below hD
      replace H0 := H0.trans (hD.mono H0.size)
      clear hD
      refine wp_region_noPanic ?_
      refine wp_region_held_drew (S := (fun V => V.cell? ⟨w8.heap.size, 0, none⟩ = some (.bool s10) ∧ V.cell? ⟨w8.heap.size, 1, none⟩ = some (.slice A10 n10 c10) ∧ V.cell? ⟨w8.heap.size, 2, none⟩ = some (.slice D10 m10 e10) ∧ V.cell? ⟨w8.heap.size + 1, 0, none⟩ = some (.bool s11) ∧ V.cell? ⟨w8.heap.size + 1, 1, none⟩ = some (.slice A11 n11 c11) ∧ V.cell? ⟨w8.heap.size + 1, 2, none⟩ = some (.slice D11 m11 e11))) (by kernel_rfl) (b5.and3 (b6.all3)) (fun hHeld => ?_)
      generalize W529.drew = v530 at H0 hHeld g18 g19 g20 f0 f1 k0 k1 k2 k3 m0 m1 m2 b4 b5 b6 b7 b8 b11 ⊢
      refine tk 0 ?_ rfl (by kernel_rfl) (by kernel_rfl) (by kernel_rfl) (fun _ _ _ h => h) (by rfl) ?_ (by assumption) ?_
      rotate_left
      · (intro w hSw; (try dsimp only at hSw); go_simp; (try with_reducible rfl))
      (try simp only [getElem_toArray, getElem_cons_zero, Act.put, setIfInBounds_toArray, set_cons_zero, set_cons_succ])
      refine tk 2 ?_ rfl (by kernel_rfl) (by kernel_rfl) (by kernel_rfl) (fun _ _ _ h => h) (by rfl) ?_ (by assumption) ?_
      rotate_left
      · (intro w hSw; (try dsimp only at hSw); go_simp; (try with_reducible rfl))
      (try simp only [getElem_toArray, getElem_cons_succ, getElem_cons_zero, Act.put, setIfInBounds_toArray, set_cons_zero, set_cons_succ])
      refine rd1 1 (by kernel_rfl) rfl (fun K hK => ?_)
      go_simp
      go_at_call 51
      refine (refq_v f0.rq (by decide)).mono ?_
      rintro e w531 ⟨s3, A3, n3, c3, D3, m3, e3, rfl, u3, hb⟩
      replace g18 := g18.below hb
      replace g19 := g19.below hb
      replace g20 := g20.below hb
      replace f0 := f0.below hb
      replace f1 := f1.below hb
      replace k0 := k0.below hb
      replace k1 := k1.below hb
      replace k2 := k2.below hb
      replace k3 := k3.below hb
      replace m0 := m0.below hb
      replace m1 := m1.below hb
      replace m2 := m2.below hb
      replace b4 := b4.below hb
      replace b5 := b5.below hb
      replace b6 := b6.below hb
      replace b7 := b7.below hb
      replace b8 := b8.below hb
      replace b11 := b11.below hb
      replace H0 := H0.trans (hb.mono H0.size)
      clear hb
      go_wp2_with fail
      refine hK.out _ _ (b5.and3 (b6.all3)) (fun hHeld => ?_)
      clear hK K
      (try simp only [getElem_toArray, getElem_cons_succ, getElem_cons_zero, Act.put, setIfInBounds_toArray, set_cons_zero, set_cons_succ])
      refine rd1 3 (by kernel_rfl) rfl (fun K hK => ?_)
      go_simp
      go_at_call 51
      refine (refq_v f1.rq (by decide)).mono ?_
      rintro e w532 ⟨s4, A4, n4, c4, D4, m4, e4, rfl, u4, hb⟩
      replace g18 := g18.below hb
      replace g19 := g19.below hb
      replace g20 := g20.below hb
      replace f0 := f0.below hb
      replace f1 := f1.below hb
      replace k0 := k0.below hb
      replace k1 := k1.below hb
      replace k2 := k2.below hb
      replace k3 := k3.below hb
      replace m0 := m0.below hb
      replace m1 := m1.below hb
      replace m2 := m2.below hb
      replace u3 := u3.below hb
      replace b4 := b4.below hb
      replace b5 := b5.below hb
      replace b6 := b6.below hb
      replace b7 := b7.below hb
      replace b8 := b8.below hb
      replace b11 := b11.below hb
      replace H0 := H0.trans (hb.mono H0.size)
      clear hb
      go_wp2_with fail
      refine hK.out _ _ (b5.and3 (b6.all3)) (fun hHeld => ?_)
      clear hK K
      (try simp only [getElem_toArray, getElem_cons_succ, getElem_cons_zero, Act.put, setIfInBounds_toArray, set_cons_zero, set_cons_succ])
      refine rd1 4 (by kernel_rfl) rfl (fun K hK => ?_)
      go_simp
      go_at_call 55
      refine (nqc_v u3 u4 (by decide) (by decide) HC.out).mono ?_
      rintro e w533 ⟨rfl, hb⟩
      replace g18 := g18.below hb
      replace g19 := g19.below hb
      replace g20 := g20.below hb
      replace f0 := f0.below hb
      replace f1 := f1.below hb
      replace k0 := k0.below hb
      replace k1 := k1.below hb
      replace k2 := k2.below hb
      replace k3 := k3.below hb
      replace m0 := m0.below hb
      replace m1 := m1.below hb
      replace m2 := m2.below hb
      replace u3 := u3.below hb
      replace u4 := u4.below hb
      replace b4 := b4.below hb
      replace b5 := b5.below hb
      replace b6 := b6.below hb
      replace b7 := b7.below hb
      replace b8 := b8.below hb
      replace b11 := b11.below hb
      replace H0 := H0.trans (hb.mono H0.size)
      clear hb
      clear u3
      clear u4
      go_wp2_with fail
      refine hK.out _ _ (b5.and3 (b6.all3)) (fun hHeld => ?_)
      clear hK K
      (try simp only [getElem_toArray, getElem_cons_succ, getElem_cons_zero, Act.put, setIfInBounds_toArray, set_cons_zero, set_cons_succ])
      refine wpAnyH_done (by kernel_rfl) ?_ _
      refine NoPanic.normal ?_
      go_wp2_with fail
      refine (known5_any).mono ?_
      rintro e w534 ⟨rfl, hb⟩
      replace g18 := g18.below hb
      replace g19 := g19.below hb
      replace g20 := g20.below hb
      replace f0 := f0.below hb
      replace f1 := f1.below hb
      replace k0 := k0.below hb
      replace k1 := k1.below hb
      replace k2 := k2.below hb
      replace k3 := k3.below hb
      replace m0 := m0.below hb
      replace m1 := m1.below hb
      replace m2 := m2.below hb
      replace b4 := b4.below hb
      replace b5 := b5.below hb
      replace b6 := b6.below hb
      replace b7 := b7.below hb
      replace b8 := b8.below hb
      replace b11 := b11.below hb
      replace H0 := H0.trans (hb.mono H0.size)
      clear hb
      obtain ⟨cb40, cb41, cb42, cb43, cb44, cb45⟩ := b4.cells6
      obtain ⟨cb110, cb111, cb112, cb113, cb114, cb115⟩ := b11.cells6
      go_wp2_with fail
      have HM : Hid (cmp3 (- -z0) (- -z1) (- -z2) z0 z1 z2 = 0) := Lib.hid (by rw [Int.neg_neg, Int.neg_neg, Int.neg_neg]; exact cmp3_self z0 z1 z2)
      have V2 := Lib.hid (vl_neg V0.out)
      clear cb40 cb41 cb42 cb43 cb44 cb45 cb110 cb111 cb112 cb113 cb114 cb115
      refine (lopp_v m0 m1 m2 V2.out (g18.more (by decide)) (g19.more (by decide)) (g20.more (by decide)) V0.out HM.out (by decide)).mono ?_
      rintro e w535 ⟨rfl, hb⟩
      replace g18 := g18.below hb
      replace g19 := g19.below hb
      replace g20 := g20.below hb
      replace f0 := f0.below hb
      replace f1 := f1.below hb
      replace k0 := k0.below hb
      replace k1 := k1.below hb
      replace k2 := k2.below hb
      replace k3 := k3.below hb
      replace m0 := m0.below hb
      replace m1 := m1.below hb
      replace m2 := m2.below hb
      replace b4 := b4.below hb
      replace b5 := b5.below hb
      replace b6 := b6.below hb
      replace b7 := b7.below hb
      replace b8 := b8.below hb
      replace b11 := b11.below hb
      replace H0 := H0.trans (hb.mono H0.size)
      clear hb
      go_wp2_with fail
      go_returns
      exact ⟨rfl, H0⟩
    · have HE := Lib.hid ((at_inj z2 V0.out.1).2 (show q0 = q1 from by have := rsg_zero_iff.1 HC.out; grind))
      obtain ⟨cb70, cb71, cb72, cb73, cb74, cb75⟩ := b7.cells6
      obtain ⟨cb80, cb81, cb82, cb83, cb84, cb85⟩ := b8.cells6
      go_wp2_with fail
      clear cb70 cb71 cb72 cb73 cb74 cb75 cb80 cb81 cb82 cb83 cb84 cb85
      refine (lthrough_zo k0 k1 k2 k3 HE.out (by decide)).mono ?_
      rintro e w528 ⟨s0, A0, n0, c0, s1, A1, n1, c1, s2, A2, n2, c2, rfl, hb⟩
      replace g18 := g18.below hb
      replace g19 := g19.below hb
      replace g20 := g20.below hb
      replace f0 := f0.below hb
      replace f1 := f1.below hb
      replace k0 := k0.below hb
      replace k1 := k1.below hb
      replace k2 := k2.below hb
      replace k3 := k3.below hb
      replace b4 := b4.below hb
      replace b5 := b5.below hb
      replace b6 := b6.below hb
      replace b7 := b7.below hb
      replace b8 := b8.below hb
      replace H0 := H0.trans (hb.mono H0.size)
      clear hb
      have lb4_529 := b4.lt
      have lb5_529 := b5.lt
      have lb6_529 := b6.lt
      have lb7_529 := b7.lt
      have lb8_529 := b8.lt
      obtain ⟨W529, hW, b11, hbW, hszW529⟩ := boxes1 w528 #[.bool s0, .slice A0 n0 c0, .bool s1, .slice A1 n1 c1, .bool s2, .slice A2 n2 c2] 30
      skip
      skip
      replace g18 := g18.below hbW
      replace g19 := g19.below hbW
      replace g20 := g20.below hbW
      replace f0 := f0.below hbW
      replace f1 := f1.below hbW
      replace k0 := k0.below hbW
      replace k1 := k1.below hbW
      replace k2 := k2.below hbW
      replace k3 := k3.below hbW
      replace b4 := b4.below hbW
      replace b5 := b5.below hbW
      replace b6 := b6.below hbW
      replace b7 := b7.below hbW
      replace b8 := b8.below hbW
      replace H0 := H0.trans (hbW.mono H0.size)
      clear hbW
      obtain ⟨cb50, cb51, cb52⟩ := b5.cells3
      obtain ⟨cb60, cb61, cb62⟩ := b6.cells3
      go_wp2_with fail
      clear hW
      clear cb50 cb51 cb52 cb60 cb61 cb62
      have hD := drawn_below W529
      replace g18 := g18.below hD
      replace g19 := g19.below hD
      replace g20 := g20.below hD
      replace f0 := f0.below hD
      replace f1 := f1.below hD
      replace k0 := k0.below hD
      replace k1 := k1.below hD
      replace k2 := k2.below hD
      replace k3 := k3.below hD
      replace b4 := b4.below hD
      replace b5 := b5.below hD
      replace b6 := b6.below hD
      replace b7 := b7.below hD
      replace b8 := b8.below hD
      replace b11 := b11.below hD
      replace H0 := H0.trans (hD.mono H0.size)
      clear hD
      refine wp_region_noPanic ?_
      refine wp_region_held_drew (S := (fun V => V.cell? ⟨w8.heap.size, 0, none⟩ = some (.bool s10) ∧ V.cell? ⟨w8.heap.size, 1, none⟩ = some (.slice A10 n10 c10) ∧ V.cell? ⟨w8.heap.size, 2, none⟩ = some (.slice D10 m10 e10) ∧ V.cell? ⟨w8.heap.size + 1, 0, none⟩ = some (.bool s11) ∧ V.cell? ⟨w8.heap.size + 1, 1, none⟩ = some (.slice A11 n11 c11) ∧ V.cell? ⟨w8.heap.size + 1, 2, none⟩ = some (.slice D11 m11 e11))) (by kernel_rfl) (b5.and3 (b6.all3)) (fun hHeld => ?_)
      generalize W529.drew = v530 at H0 hHeld g18 g19 g20 f0 f1 k0 k1 k2 k3 b4 b5 b6 b7 b8 b11 ⊢
      refine tk 0 ?_ rfl (by kernel_rfl) (by kernel_rfl) (by kernel_rfl) (fun _ _ _ h => h) (by rfl) ?_ (by assumption) ?_
      rotate_left
      · (intro w hSw; (try dsimp only at hSw); go_simp; (try with_reducible rfl))
      (try simp only [getElem_toArray, getElem_cons_zero, Act.put, setIfInBounds_toArray, set_cons_zero, set_cons_succ])
      refine tk 2 ?_ rfl (by kernel_rfl) (by kernel_rfl) (by kernel_rfl) (fun _ _ _ h => h) (by rfl) ?_ (by assumption) ?_
      rotate_left
      · (intro w hSw; (try dsimp only at hSw); go_simp; (try with_reducible rfl))
      (try simp only [getElem_toArray, getElem_cons_succ, getElem_cons_zero, Act.put, setIfInBounds_toArray, set_cons_zero, set_cons_succ])
      refine rd1 1 (by kernel_rfl) rfl (fun K hK => ?_)
      go_simp
      go_at_call 51
      refine (refq_v f0.rq (by decide)).mono ?_
      rintro e w531 ⟨s3, A3, n3, c3, D3, m3, e3, rfl, u3, hb⟩
      replace g18 := g18.below hb
      replace g19 := g19.below hb
      replace g20 := g20.below hb
      replace f0 := f0.below hb
      replace f1 := f1.below hb
      replace k0 := k0.below hb
      replace k1 := k1.below hb
      replace k2 := k2.below hb
      replace k3 := k3.below hb
      replace b4 := b4.below hb
      replace b5 := b5.below hb
      replace b6 := b6.below hb
      replace b7 := b7.below hb
      replace b8 := b8.below hb
      replace b11 := b11.below hb
      replace H0 := H0.trans (hb.mono H0.size)
      clear hb
      go_wp2_with fail
      refine hK.out _ _ (b5.and3 (b6.all3)) (fun hHeld => ?_)
      clear hK K
      (try simp only [getElem_toArray, getElem_cons_succ, getElem_cons_zero, Act.put, setIfInBounds_toArray, set_cons_zero, set_cons_succ])
      refine rd1 3 (by kernel_rfl) rfl (fun K hK => ?_)
      go_simp
      go_at_call 51
      refine (refq_v f1.rq (by decide)).mono ?_
      rintro e w532 ⟨s4, A4, n4, c4, D4, m4, e4, rfl, u4, hb⟩
      replace g18 := g18.below hb
      replace g19 := g19.below hb
      replace g20 := g20.below hb
      replace f0 := f0.below hb
      replace f1 := f1.below hb
      replace k0 := k0.below hb
      replace k1 := k1.below hb
      replace k2 := k2.below hb
      replace k3 := k3.below hb
      replace u3 := u3.below hb
      replace b4 := b4.below hb
      replace b5 := b5.below hb
      replace b6 := b6.below hb
      replace b7 := b7.below hb
      replace b8 := b8.below hb
      replace b11 := b11.below hb
      replace H0 := H0.trans (hb.mono H0.size)
      clear hb
      go_wp2_with fail
      refine hK.out _ _ (b5.and3 (b6.all3)) (fun hHeld => ?_)
      clear hK K
      (try simp only [getElem_toArray, getElem_cons_succ, getElem_cons_zero, Act.put, setIfInBounds_toArray, set_cons_zero, set_cons_succ])
      refine rd1 4 (by kernel_rfl) rfl (fun K hK => ?_)
      go_simp
      go_at_call 55
      refine (nqc_v u3 u4 (by decide) (by decide) HC.out).mono ?_
      rintro e w533 ⟨rfl, hb⟩
      replace g18 := g18.below hb
      replace g19 := g19.below hb
      replace g20 := g20.below hb
      replace f0 := f0.below hb
      replace f1 := f1.below hb
      replace k0 := k0.below hb
      replace k1 := k1.below hb
      replace k2 := k2.below hb
      replace k3 := k3.below hb
      replace u3 := u3.below hb
      replace u4 := u4.below hb
      replace b4 := b4.below hb
      replace b5 := b5.below hb
      replace b6 := b6.below hb
      replace b7 := b7.below hb
      replace b8 := b8.below hb
      replace b11 := b11.below hb
      replace H0 := H0.trans (hb.mono H0.size)
      clear hb
      clear u3
      clear u4
      go_wp2_with fail
      refine hK.out _ _ (b5.and3 (b6.all3)) (fun hHeld => ?_)
      clear hK K
      (try simp only [getElem_toArray, getElem_cons_succ, getElem_cons_zero, Act.put, setIfInBounds_toArray, set_cons_zero, set_cons_succ])
      refine wpAnyH_done (by kernel_rfl) ?_ _
      refine NoPanic.normal ?_
      go_wp2_with fail
      refine (known5_any).mono ?_
      rintro e w534 ⟨rfl, hb⟩
      replace g18 := g18.below hb
      replace g19 := g19.below hb
      replace g20 := g20.below hb
      replace f0 := f0.below hb
      replace f1 := f1.below hb
      replace k0 := k0.below hb
      replace k1 := k1.below hb
      replace k2 := k2.below hb
      replace k3 := k3.below hb
      replace b4 := b4.below hb
      replace b5 := b5.below hb
      replace b6 := b6.below hb
      replace b7 := b7.below hb
      replace b8 := b8.below hb
      replace b11 := b11.below hb
      replace H0 := H0.trans (hb.mono H0.size)
      clear hb
      obtain ⟨cb40, cb41, cb42, cb43, cb44, cb45⟩ := b4.cells6
      obtain ⟨cb110, cb111, cb112, cb113, cb114, cb115⟩ := b11.cells6
      go_wp2_with fail
      go_returns
      exact ⟨rfl, H0⟩
    · have HN := Lib.hid (show q0 ≠ q1 from fun h => by have := HC.out; rw [h, Rat.sub_self, rsg_zero_iff.2 rfl] at this; omega)
      obtain ⟨cb70, cb71, cb72, cb73, cb74, cb75⟩ := b7.cells6
      obtain ⟨cb80, cb81, cb82, cb83, cb84, cb85⟩ := b8.cells6
      go_wp2_with fail
      clear cb70 cb71 cb72 cb73 cb74 cb75 cb80 cb81 cb82 cb83 cb84 cb85
      refine (lthrough_v k0 k1 k2 k3 (fun h => HN.out ((at_inj z2 V0.out.1).1 h)) (by decide)).mono ?_
      rintro e w528 ⟨t0, t1, t2, s0, A0, n0, c0, s1, A1, n1, c1, s2, A2, n2, c2, rfl, ht, m0, m1, m2, hb⟩
      replace g18 := g18.below hb
      replace g19 := g19.below hb
      replace g20 := g20.below hb
      replace f0 := f0.below hb
      replace f1 := f1.below hb
      replace k0 := k0.below hb
      replace k1 := k1.below hb
      replace k2 := k2.below hb
      replace k3 := k3.below hb
      replace b4 := b4.below hb
      replace b5 := b5.below hb
      replace b6 := b6.below hb
      replace b7 := b7.below hb
      replace b8 := b8.below hb
      replace H0 := H0.trans (hb.mono H0.size)
      clear hb
      obtain ⟨e1, e2, e3⟩ := (thr_at V0.out ht).1 HC.out
      rw [e1] at m0
      rw [e2] at m1
      rw [e3] at m2
      clear e1 e2 e3 ht
      have lb4_529 := b4.lt
      have lb5_529 := b5.lt
      have lb6_529 := b6.lt
      have lb7_529 := b7.lt
      have lb8_529 := b8.lt
      obtain ⟨W529, hW, b11, hbW, hszW529⟩ := boxes1 w528 #[.bool s0, .slice A0 n0 c0, .bool s1, .slice A1 n1 c1, .bool s2, .slice A2 n2 c2] 30
      skip
      skip
      replace g18 := g18.below hbW
      replace g19 := g19.below hbW
      replace g20 := g20.below hbW
      replace f0 := f0.below hbW
      replace f1 := f1.below hbW
      replace k0 := k0.below hbW
      replace k1 := k1.below hbW
      replace k2 := k2.below hbW
      replace k3 := k3.below hbW
      replace m0 := m0.below hbW
      replace m1 := m1.below hbW
      replace m2 := m2.below hbW
      replace b4 := b4.below hbW
      replace b5 := b5.below hbW
      replace b6 := b6.below hbW
      replace b7 := b7.below hbW
      replace b8 := b8.below hbW
      replace H0 := H0.trans (hbW.mono H0.size)
      clear hbW
      obtain ⟨cb50, cb51, cb52⟩ := b5.cells3
      obtain ⟨cb60, cb61, cb62⟩ := b6.cells3
      go_wp2_with fail
      clear hW
      clear cb50 cb51 cb52 cb60 cb61 cb62
      have hD := drawn_below W529
      replace g18 := g18.below hD
      replace g19 := g19.below hD
      replace g20 := g20.below hD
      replace f0 := f0.below hD
      replace f1 := f1.below hD
      replace k0 := k0.below hD
      replace k1 := k1.below hD
      replace k2 := k2.below hD
      replace k3 := k3.below hD
      replace m0 := m0.below hD
      replace m1 := m1.below hD
      replace m2 := m2.below hD
      replace b4 := b4.below hD
      replace b5 := b5.below hD
      replace b6 := b6.below hD
      replace b7 := b7.below hD
      replace b8 := b8.below hD
      replace b11 := b11.below hD
      replace H0 := H0.trans (hD.mono H0.size)
      clear hD
      refine wp_region_noPanic ?_
      refine wp_region_held_drew (S := (fun V => V.cell? ⟨w8.heap.size, 0, none⟩ = some (.bool s10) ∧ V.cell? ⟨w8.heap.size, 1, none⟩ = some (.slice A10 n10 c10) ∧ V.cell? ⟨w8.heap.size, 2, none⟩ = some (.slice D10 m10 e10) ∧ V.cell? ⟨w8.heap.size + 1, 0, none⟩ = some (.bool s11) ∧ V.cell? ⟨w8.heap.size + 1, 1, none⟩ = some (.slice A11 n11 c11) ∧ V.cell? ⟨w8.heap.size + 1, 2, none⟩ = some (.slice D11 m11 e11))) (by kernel_rfl) (b5.and3 (b6.all3)) (fun hHeld => ?_)
      generalize W529.drew = v530 at H0 hHeld g18 g19 g20 f0 f1 k0 k1 k2 k3 m0 m1 m2 b4 b5 b6 b7 b8 b11 ⊢
      refine tk 0 ?_ rfl (by kernel_rfl) (by kernel_rfl) (by kernel_rfl) (fun _ _ _ h => h) (by rfl) ?_ (by assumption) ?_
      rotate_left
      · (intro w hSw; (try dsimp only at hSw); go_simp; (try with_reducible rfl))
      (try simp only [getElem_toArray, getElem_cons_zero, Act.put, setIfInBounds_toArray, set_cons_zero, set_cons_succ])
      refine tk 2 ?_ rfl (by kernel_rfl) (by kernel_rfl) (by kernel_rfl) (fun _ _ _ h => h) (by rfl) ?_ (by assumption) ?_
      rotate_left
      · (intro w hSw; (try dsimp only at hSw); go_simp; (try with_reducible rfl))
      (try simp only [getElem_toArray, getElem_cons_succ, getElem_cons_zero, Act.put, setIfInBounds_toArray, set_cons_zero, set_cons_succ])
      refine rd1 1 (by kernel_rfl) rfl (fun K hK => ?_)
      go_simp
      go_at_call 51
      refine (refq_v f0.rq (by decide)).mono ?_
      rintro e w531 ⟨s3, A3, n3, c3, D3, m3, e3, rfl, u3, hb⟩
      replace g18 := g18.below hb
      replace g19 := g19.below hb
      replace g20 := g20.below hb
      replace f0 := f0.below hb
      replace f1 := f1.below hb
      replace k0 := k0.below hb
      replace k1 := k1.below hb
      replace k2 := k2.below hb
      replace k3 := k3.below hb
      replace m0 := m0.below hb
      replace m1 := m1.below hb
      replace m2 := m2.below hb
      replace b4 := b4.below hb
      replace b5 := b5.below hb
      replace b6 := b6.below hb
      replace b7 := b7.below hb
      replace b8 := b8.below hb
      replace b11 := b11.below hb
      replace H0 := H0.trans (hb.mono H0.size)
      clear hb
      go_wp2_with fail
      refine hK.out _ _ (b5.and3 (b6.all3)) (fun hHeld => ?_)
      clear hK K
      (try simp only [getElem_toArray, getElem_cons_succ, getElem_cons_zero, Act.put, setIfInBounds_toArray, set_cons_zero, set_cons_succ])
      refine rd1 3 (by kernel_rfl) rfl (fun K hK => ?_)
      go_simp
      go_at_call 51
      refine (refq_v f1.rq (by decide)).mono ?_
      rintro e w532 ⟨s4, A4, n4, c4, D4, m4, e4, rfl, u4, hb⟩
      replace g18 := g18.below hb
      replace g19 := g19.below hb
      replace g20 := g20.below hb
      replace f0 := f0.below hb
      replace f1 := f1.below hb
      replace k0 := k0.below hb
      replace k1 := k1.below hb
      replace k2 := k2.below hb
      replace k3 := k3.below hb
      replace m0 := m0.below hb
      replace m1 := m1.below hb
      replace m2 := m2.below hb
      replace u3 := u3.below hb
      replace b4 := b4.below hb
      replace b5 := b5.below hb
      replace b6 := b6.below hb
      replace b7 := b7.below hb
      replace b8 := b8.below hb
      replace b11 := b11.below hb
      replace H0 := H0.trans (hb.mono H0.size)
      clear hb
      go_wp2_with fail
      refine hK.out _ _ (b5.and3 (b6.all3)) (fun hHeld => ?_)
      clear hK K
      (try simp only [getElem_toArray, getElem_cons_succ, getElem_cons_zero, Act.put, setIfInBounds_toArray, set_cons_zero, set_cons_succ])
      refine rd1 4 (by kernel_rfl) rfl (fun K hK => ?_)
      go_simp
      go_at_call 55
      refine (nqc_v u3 u4 (by decide) (by decide) HC.out).mono ?_
      rintro e w533 ⟨rfl, hb⟩
      replace g18 := g18.below hb
      replace g19 := g19.below hb
      replace g20 := g20.below hb
      replace f0 := f0.below hb
      replace f1 := f1.below hb
      replace k0 := k0.below hb
      replace k1 := k1.below hb
      replace k2 := k2.below hb
      replace k3 := k3.below hb
      replace m0 := m0.below hb
      replace m1 := m1.below hb
      replace m2 := m2.below hb
      replace u3 := u3.below hb
      replace u4 := u4.below hb
      replace b4 := b4.below hb
      replace b5 := b5.below hb
      replace b6 := b6.below hb
      replace b7 := b7.below hb
      replace b8 := b8.below hb
      replace b11 := b11.below hb
      replace H0 := H0.trans (hb.mono H0.size)
      clear hb
      clear u3
      clear u4
      go_wp2_with fail
      refine hK.out _ _ (b5.and3 (b6.all3)) (fun hHeld => ?_)
      clear hK K
      (try simp only [getElem_toArray, getElem_cons_succ, getElem_cons_zero, Act.put, setIfInBounds_toArray, set_cons_zero, set_cons_succ])
      refine wpAnyH_done (by kernel_rfl) ?_ _
      refine NoPanic.normal ?_
      go_wp2_with fail
      refine (known5_any).mono ?_
      rintro e w534 ⟨rfl, hb⟩
      replace g18 := g18.below hb
      replace g19 := g19.below hb
      replace g20 := g20.below hb
      replace f0 := f0.below hb
      replace f1 := f1.below hb
      replace k0 := k0.below hb
      replace k1 := k1.below hb
      replace k2 := k2.below hb
      replace k3 := k3.below hb
      replace m0 := m0.below hb
      replace m1 := m1.below hb
      replace m2 := m2.below hb
      replace b4 := b4.below hb
      replace b5 := b5.below hb
      replace b6 := b6.below hb
      replace b7 := b7.below hb
      replace b8 := b8.below hb
      replace b11 := b11.below hb
      replace H0 := H0.trans (hb.mono H0.size)
      clear hb
      obtain ⟨cb40, cb41, cb42, cb43, cb44, cb45⟩ := b4.cells6
      obtain ⟨cb110, cb111, cb112, cb113, cb114, cb115⟩ := b11.cells6
      go_wp2_with fail
      have HM : Hid (cmp3 z0 z1 z2 z0 z1 z2 = 0) := Lib.hid (cmp3_self z0 z1 z2)
      clear cb40 cb41 cb42 cb43 cb44 cb45 cb110 cb111 cb112 cb113 cb114 cb115
      refine (lsame_v m0 m1 m2 V0.out (g18.more (by decide)) (g19.more (by decide)) (g20.more (by decide)) V0.out HM.out (by decide)).mono ?_
      rintro e w535 ⟨rfl, hb⟩
      replace g18 := g18.below hb
      replace g19 := g19.below hb
      replace g20 := g20.below hb
      replace f0 := f0.below hb
      replace f1 := f1.below hb
      replace k0 := k0.below hb
      replace k1 := k1.below hb
      replace k2 := k2.below hb
      replace k3 := k3.below hb
      replace m0 := m0.below hb
      replace m1 := m1.below hb
      replace m2 := m2.below hb
      replace b4 := b4.below hb
      replace b5 := b5.below hb
      replace b6 := b6.below hb
      replace b7 := b7.below hb
      replace b8 := b8.below hb
      replace b11 := b11.below hb
      replace H0 := H0.trans (hb.mono H0.size)
      clear hb
      go_wp2_with fail
      go_returns
      exact ⟨rfl, H0⟩
end
end Go.Proofs.YtancgkmkbgkncaaGreat
