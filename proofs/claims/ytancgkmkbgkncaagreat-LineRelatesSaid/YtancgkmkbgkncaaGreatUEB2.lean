/-
  What some of the statements need.
-/
import Derived.Test.YtancgkmkbgkncaaGreatUSq
import Derived.Test.YtancgkmkbgkncaaGreatUBox
import Derived.Test.YtancgkmkbgkncaaGreatUDivLong
import Derived.Test.YtancgkmkbgkncaaGreatUEB
import Derived.Test.YtancgkmkbgkncaaGreatUFormI
import Derived.Test.YtancgkmkbgkncaaGreatUIGcd
import Derived.Test.YtancgkmkbgkncaaGreatUK1
import Derived.Test.YtancgkmkbgkncaaGreatUK2
import Derived.Test.YtancgkmkbgkncaaGreatUK3
import Derived.Test.YtancgkmkbgkncaaGreatUK4
import Derived.Test.YtancgkmkbgkncaaGreatUK5
import Derived.Test.YtancgkmkbgkncaaGreatUK6
import Derived.Test.YtancgkmkbgkncaaGreatUK7
import Derived.Test.YtancgkmkbgkncaaGreatUK8
import Derived.Test.YtancgkmkbgkncaaGreatUK9
import Derived.Test.YtancgkmkbgkncaaGreatULnA
import Derived.Test.YtancgkmkbgkncaaGreatULnB
import Derived.Test.YtancgkmkbgkncaaGreatULnD
import Derived.Test.YtancgkmkbgkncaaGreatULnG
import Derived.Test.YtancgkmkbgkncaaGreatULnM
import Derived.Test.YtancgkmkbgkncaaGreatULnQ
import Derived.Test.YtancgkmkbgkncaaGreatUN1
import Derived.Test.YtancgkmkbgkncaaGreatUOrd
import Derived.Test.YtancgkmkbgkncaaGreatUPhase
import Derived.Test.YtancgkmkbgkncaaGreatUPtA
import Derived.Test.YtancgkmkbgkncaaGreatUPtG
import Derived.Test.YtancgkmkbgkncaaGreatUR1
import Derived.Test.YtancgkmkbgkncaaGreatURatA
import Derived.Test.YtancgkmkbgkncaaGreatURatC
import Derived.Test.YtancgkmkbgkncaaGreatURatD
import Derived.Test.YtancgkmkbgkncaaGreatURatR
import Derived.Test.YtancgkmkbgkncaaGreatURatS
import Derived.Test.YtancgkmkbgkncaaGreatUS1
import Derived.Test.YtancgkmkbgkncaaGreatUShelf
import Derived.Deep.Cut
namespace Go.Proofs.YtancgkmkbgkncaaGreat
open List (getElem_toArray getElem_cons_succ getElem_cons_zero setIfInBounds_toArray set_cons_zero set_cons_succ)
open Go.RowKit

section
variable {A0 A1 A2 A3 A4 A5 A6 A7 A8 A9 A10 A11 A12 A13 A14 A15 A16 A17 A18 A19 A20 A21 A22 A23 D6 D7 D8 D9 D10 D11 D12 D13 D14 D15 D16 D17 D18 D19 D20 D21 D22 D23 : Option Addr} {n0 n1 n2 n3 n4 n5 n6 n7 n8 n9 n10 n11 n12 n13 n14 n15 n16 n17 n18 n19 n20 n21 n22 n23 c0 c1 c2 c3 c4 c5 c6 c7 c8 c9 c10 c11 c12 c13 c14 c15 c16 c17 c18 c19 c20 c21 c22 c23 m0 m1 m2 m3 m4 m5 m6 m7 m8 m9 m10 m11 m12 m13 m14 m15 m16 m17 m18 m19 m20 m21 m22 m23 e2 e5 e6 e7 e8 e9 e10 e11 e12 e13 e14 e15 e16 e17 e18 e19 e20 e21 e22 e23 : Nat} {s0 s1 s2 s3 s4 s5 s6 s7 s8 s9 s10 s11 s12 s13 s14 s15 s16 s17 s18 s19 s20 s21 s22 s23 : Bool} {q0 q1 q2 q3 q4 q5 q6 q7 : Rat} {z0 z1 z2 z3 z4 z5 z6 z7 z8 z9 z10 z11 : Int} {L L0 L1 x y : Nat} {k : Int} {b : Bool} {w : World}
theorem meet_d (z0 z1 z3 z4 : Int) : (z0 : Rat) * (z4 : Rat) - (z3 : Rat) * (z1 : Rat) = ((z0 * z4 - z1 * z3 : Int) : Rat) := by rw [Rat.intCast_sub, Rat.intCast_mul, Rat.intCast_mul]; grind
theorem meet_x (z0 z1 z2 z3 z4 z5 : Int) : ((z1 : Rat) * (z5 : Rat) - (z4 : Rat) * (z2 : Rat)) / ((z0 : Rat) * (z4 : Rat) - (z3 : Rat) * (z1 : Rat)) = ((z1 * z5 - z2 * z4 : Int) : Rat) / ((z0 * z4 - z1 * z3 : Int) : Rat) := by
  rw [meet_d z0 z1 z3 z4, show (z1 : Rat) * (z5 : Rat) - (z4 : Rat) * (z2 : Rat) = ((z1 * z5 - z2 * z4 : Int) : Rat) by rw [Rat.intCast_sub, Rat.intCast_mul, Rat.intCast_mul]; grind]
theorem meet_y (z0 z1 z2 z3 z4 z5 : Int) : ((z3 : Rat) * (z2 : Rat) - (z0 : Rat) * (z5 : Rat)) / ((z0 : Rat) * (z4 : Rat) - (z3 : Rat) * (z1 : Rat)) = ((z2 * z3 - z0 * z5 : Int) : Rat) / ((z0 * z4 - z1 * z3 : Int) : Rat) := by
  rw [meet_d z0 z1 z3 z4, show (z3 : Rat) * (z2 : Rat) - (z0 : Rat) * (z5 : Rat) = ((z2 * z3 - z0 * z5 : Int) : Rat) by rw [Rat.intCast_sub, Rat.intCast_mul, Rat.intCast_mul]; grind]
set_option maxRecDepth 100000 in
set_option maxHeartbeats 4000000 in
theorem gmeet_v (h0 : NI w s0 (.slice A0 n0 c0) z0 4) (h1 : NI w s1 (.slice A1 n1 c1) z1 4) (h2 : NI w s2 (.slice A2 n2 c2) z2 4) (h3 : NI w s3 (.slice A3 n3 c3) z3 4) (h4 : NI w s4 (.slice A4 n4 c4) z4 4) (h5 : NI w s5 (.slice A5 n5 c5) z5 4) (hz : z0 * z4 - z1 * z3 ≠ 0) :
    Calls Tryz.prog 42 #[.agg #[.bool s0, .slice A0 n0 c0, .bool s1, .slice A1 n1 c1, .bool s2, .slice A2 n2 c2], .agg #[.bool s3, .slice A3 n3 c3, .bool s4, .slice A4 n4 c4, .bool s5, .slice A5 n5 c5]] w fun e w' => ∃ s22 A22 n22 c22 D22 m22 e22 s23 A23 n23 c23 D23 m23 e23, e = .returned (.tuple #[.agg #[.bool s22, .slice A22 n22 c22, .slice D22 m22 e22, .bool s23, .slice A23 n23 c23, .slice D23 m23 e23], .bool true]) ∧ PQ w' s22 (.slice A22 n22 c22) (.slice D22 m22 e22) (((z1 * z5 - z2 * z4 : Int) : Rat) / ((z0 * z4 - z1 * z3 : Int) : Rat)) 60 ∧ PQ w' s23 (.slice A23 n23 c23) (.slice D23 m23 e23) (((z2 * z3 - z0 * z5 : Int) : Rat) / ((z0 * z4 - z1 * z3 : Int) : Rat)) 60 ∧ Below w.heap.size w w' := by
  have HN : Hid ((z0 : Rat) * (z4 : Rat) - (z3 : Rat) * (z1 : Rat) ≠ 0) := Lib.hid (by rw [meet_d]; exact int_ne hz)
  obtain ⟨ks, hks⟩ : ∃ k, rsg ((z0 : Rat) * (z4 : Rat) - (z3 : Rat) * (z1 : Rat)) = k := ⟨_, rfl⟩
  have hk1 : ((ks : Int) == 0) = false := by rw [beq_eq_false_iff_ne]; rintro rfl; exact HN.out (rsg_zero_iff.1 hks)
  have HD := Lib.hid hks
  clear hks hz
  go_enter Tryz.func42, Tryz.ntmps42
  go_wp2_with fail
  obtain ⟨W0, hW, b0, b1, b9, hbW, hszW0⟩ := boxes3 w #[.bool s0, .slice A0 n0 c0, .bool s1, .slice A1 n1 c1, .bool s2, .slice A2 n2 c2] #[.bool s3, .slice A3 n3 c3, .bool s4, .slice A4 n4 c4, .bool s5, .slice A5 n5 c5] #[.bool false, .slice none 0 0, .slice none 0 0, .bool false, .slice none 0 0, .slice none 0 0] 37 37 48
  rw [hW]
  clear hW
  replace h0 := h0.below hbW
  replace h1 := h1.below hbW
  replace h2 := h2.below hbW
  replace h3 := h3.below hbW
  replace h4 := h4.below hbW
  replace h5 := h5.below hbW
  have H0 := hbW
  clear hbW
  have lkb0 := b0.lt
  have lkb1 := b1.lt
  have lkb9 := b9.lt
  go_cut [6] from 7 (fun s_6 wx => ∃ g70 s12 A12 n12 c12 D12 m12 e12, s_6 = .pointer (some ⟨g70, 0, none⟩) ∧ PQ wx s12 (.slice A12 n12 c12) (.slice D12 m12 e12) ((z0 : Rat) * (z4 : Rat) - (z3 : Rat) * (z1 : Rat)) (max (max 4 1 + max 4 1 + 1) 1 + max (max 4 1 + max 4 1 + 1) 1 + 1) ∧ Box wx g70 #[.bool s12, .slice A12 n12 c12, .slice D12 m12 e12] 46 ∧ W0.heap.size ≤ g70 ∧ Below W0.heap.size W0 wx)
  case first =>
    have lcb0_1 := b0.lt
    have lcb1_1 := b1.lt
    have lcb9_1 := b9.lt
    have hG := drawn_below W0
    refine wp_region_noPanic ?_
    refine wp_region_anyd (by kernel_rfl) ?_
    generalize W0.drew = v1 at hG ⊢
    refine wpAny_take (i := 0) (v := ?_) rfl (by kernel_rfl) (by kernel_rfl) (by kernel_rfl) (fun _ _ _ h => h) (Or.inl ⟨by rfl, ?_⟩) ?_
    rotate_left
    · (intro w; go_simp; (try with_reducible rfl))
    (try simp only [getElem_toArray, getElem_cons_zero, Act.put, setIfInBounds_toArray, set_cons_zero, set_cons_succ])
    refine wpAny_take (i := 3) (v := ?_) rfl (by kernel_rfl) (by kernel_rfl) (by kernel_rfl) (fun _ _ _ h => h) (Or.inl ⟨by rfl, ?_⟩) ?_
    rotate_left
    · (intro w; go_simp; (try with_reducible rfl))
    (try simp only [getElem_toArray, getElem_cons_succ, getElem_cons_zero, Act.put, setIfInBounds_toArray, set_cons_zero, set_cons_succ])
    refine wpAny_take (i := 7) (v := ?_) rfl (by kernel_rfl) (by kernel_rfl) (by kernel_rfl) (fun _ _ _ h => h) (Or.inl ⟨by rfl, ?_⟩) ?_
    rotate_left
    · (intro w; go_simp; (try with_reducible rfl))
    (try simp only [getElem_toArray, getElem_cons_succ, getElem_cons_zero, Act.put, setIfInBounds_toArray, set_cons_zero, set_cons_succ])
    refine wpAny_take (i := 10) (v := ?_) rfl (by kernel_rfl) (by kernel_rfl) (by kernel_rfl) (fun _ _ _ h => h) (Or.inl ⟨by rfl, ?_⟩) ?_
    rotate_left
    · (intro w; go_simp; (try with_reducible rfl))
    (try simp only [getElem_toArray, getElem_cons_succ, getElem_cons_zero, Act.put, setIfInBounds_toArray, set_cons_zero, set_cons_succ])
    refine wpAny_of_F (S := (fun V => V.cell? ⟨w.heap.size, 0, none⟩ = some (.bool s0) ∧ V.cell? ⟨w.heap.size, 1, none⟩ = some (.slice A0 n0 c0) ∧ V.cell? ⟨w.heap.size, 2, none⟩ = some (.bool s1) ∧ V.cell? ⟨w.heap.size, 3, none⟩ = some (.slice A1 n1 c1) ∧ V.cell? ⟨w.heap.size, 4, none⟩ = some (.bool s2) ∧ V.cell? ⟨w.heap.size, 5, none⟩ = some (.slice A2 n2 c2) ∧ V.cell? ⟨w.heap.size + 1, 0, none⟩ = some (.bool s3) ∧ V.cell? ⟨w.heap.size + 1, 1, none⟩ = some (.slice A3 n3 c3) ∧ V.cell? ⟨w.heap.size + 1, 2, none⟩ = some (.bool s4) ∧ V.cell? ⟨w.heap.size + 1, 3, none⟩ = some (.slice A4 n4 c4) ∧ V.cell? ⟨w.heap.size + 1, 4, none⟩ = some (.bool s5) ∧ V.cell? ⟨w.heap.size + 1, 5, none⟩ = some (.slice A5 n5 c5))) (F := (fun j => j == 16)) _ _ _ _ ?_
    refine wpAnyF_take (i := 1) (v := ?_) (fun j => j == 2 || j == 5 || j == 6 || j == 9 || j == 12 || j == 13 || j == 14 || j == 16) rfl (by kernel_rfl) (by kernel_rfl) (by kernel_rfl) (by kernel_rfl) (fun j hj => by have h6 : 17 ≤ j := hj; simp; omega) (fun _ _ _ h => h) (Or.inl ⟨by rfl, ?_⟩) ((b0.below hG).and6 ((b1.below hG).all6)) ?_
    rotate_left
    · (intro w hSw; (try dsimp only at hSw); go_simp; (try with_reducible rfl))
    (try simp only [getElem_toArray, getElem_cons_succ, getElem_cons_zero, Act.put, setIfInBounds_toArray, set_cons_zero, set_cons_succ])
    refine wpAnyF_take (i := 4) (v := ?_) (fun j => j == 5 || j == 6 || j == 9 || j == 12 || j == 13 || j == 14 || j == 16) rfl (by kernel_rfl) (by kernel_rfl) (by kernel_rfl) (by kernel_rfl) (fun j hj => by have h6 : 17 ≤ j := hj; simp; omega) (fun _ _ _ h => h) (Or.inl ⟨by rfl, ?_⟩) ((b0.below hG).and6 ((b1.below hG).all6)) ?_
    rotate_left
    · (intro w hSw; (try dsimp only at hSw); go_simp; (try with_reducible rfl))
    (try simp only [getElem_toArray, getElem_cons_succ, getElem_cons_zero, Act.put, setIfInBounds_toArray, set_cons_zero, set_cons_succ])
    refine wpAnyF_take (i := 8) (v := ?_) (fun j => j == 9 || j == 12 || j == 13 || j == 14 || j == 16) rfl (by kernel_rfl) (by kernel_rfl) (by kernel_rfl) (by kernel_rfl) (fun j hj => by have h6 : 17 ≤ j := hj; simp; omega) (fun _ _ _ h => h) (Or.inl ⟨by rfl, ?_⟩) ((b0.below hG).and6 ((b1.below hG).all6)) ?_
    rotate_left
    · (intro w hSw; (try dsimp only at hSw); go_simp; (try with_reducible rfl))
    (try simp only [getElem_toArray, getElem_cons_succ, getElem_cons_zero, Act.put, setIfInBounds_toArray, set_cons_zero, set_cons_succ])
    refine wpAnyF_take (i := 11) (v := ?_) (fun j => j == 12 || j == 13 || j == 14 || j == 16) rfl (by kernel_rfl) (by kernel_rfl) (by kernel_rfl) (by kernel_rfl) (fun j hj => by have h6 : 17 ≤ j := hj; simp; omega) (fun _ _ _ h => h) (Or.inl ⟨by rfl, ?_⟩) ((b0.below hG).and6 ((b1.below hG).all6)) ?_
    rotate_left
    · (intro w hSw; (try dsimp only at hSw); go_simp; (try with_reducible rfl))
    (try simp only [getElem_toArray, getElem_cons_succ, getElem_cons_zero, Act.put, setIfInBounds_toArray, set_cons_zero, set_cons_succ])
    refine wpAnyF_name (n' := 9) (l' := #[true, true, false, true, true, false, false, true, true, false, true, true, false, false, false, false, false]) (by kernel_rfl) (by kernel_rfl) (fun Ac_ hA => ?_)
    refine wpAnyF_phase (rs := [2, 5, 6, 9, 12, 13, 14, 15]) (full := #[true, true, true, true, true, true, true, true, true, true, true, true, true, true, true, true, false]) (states := [#[true, true, false, true, true, false, false, true, true, false, true, true, false, false, false, false, false], #[true, true, true, true, true, false, false, true, true, false, true, true, false, false, false, false, false], #[true, true, false, true, true, false, false, true, true, false, true, true, false, false, false, true, false], #[true, true, true, true, true, false, false, true, true, false, true, true, false, false, false, true, false], #[true, true, true, true, true, true, false, true, true, false, true, true, false, false, false, true, false], #[true, true, true, true, true, true, true, true, true, false, true, true, false, false, false, true, false], #[true, true, true, true, true, true, true, true, true, true, true, true, false, false, false, true, false], #[true, true, true, true, true, true, true, true, true, true, true, true, true, false, false, true, false], #[true, true, true, true, true, true, true, true, true, true, true, true, true, true, false, true, false], #[true, true, true, true, true, true, true, true, true, true, true, true, true, true, true, true, false], #[true, true, true, true, true, true, false, true, true, false, true, true, false, false, false, false, false], #[true, true, true, true, true, true, true, true, true, false, true, true, false, false, false, false, false], #[true, true, true, true, true, true, true, true, true, true, true, true, false, false, false, false, false], #[true, true, true, true, true, true, true, true, true, true, true, true, true, false, false, false, false], #[true, true, true, true, true, true, true, true, true, true, true, true, true, true, false, false, false], #[true, true, true, true, true, true, true, true, true, true, true, true, true, true, true, false, false]]) (k := 1) (I := fun listed a w => ∃ (y2_ y5_ y6_ y9_ y12_ y13_ y14_ y15_ : Value), a = ((((((((Ac_.put (some 11) y2_).put (some 14) y5_).put (some 15) y6_).put (some 18) y9_).put (some 21) y12_).put (some 22) y13_).put (some 23) y14_).put (some 6) y15_) ∧ Below W0.heap.size W0 w ∧ (listed.getD 2 false = true → ∃ s6 A6 n6 c6 D6 m6 e6, y2_ = .agg #[.bool s6, .slice A6 n6 c6, .slice D6 m6 e6] ∧ PQ w s6 (.slice A6 n6 c6) (.slice D6 m6 e6) (z0 : Rat) 4) ∧ (listed.getD 5 false = true → ∃ s7 A7 n7 c7 D7 m7 e7, y5_ = .agg #[.bool s7, .slice A7 n7 c7, .slice D7 m7 e7] ∧ PQ w s7 (.slice A7 n7 c7) (.slice D7 m7 e7) (z4 : Rat) 4) ∧ (listed.getD 6 false = true → ∃ s8 A8 n8 c8 D8 m8 e8, y6_ = .agg #[.bool s8, .slice A8 n8 c8, .slice D8 m8 e8] ∧ PQ w s8 (.slice A8 n8 c8) (.slice D8 m8 e8) ((z0 : Rat) * (z4 : Rat)) (max 4 1 + max 4 1 + 1)) ∧ (listed.getD 9 false = true → ∃ s9 A9 n9 c9 D9 m9 e9, y9_ = .agg #[.bool s9, .slice A9 n9 c9, .slice D9 m9 e9] ∧ PQ w s9 (.slice A9 n9 c9) (.slice D9 m9 e9) (z3 : Rat) 4) ∧ (listed.getD 12 false = true → ∃ s10 A10 n10 c10 D10 m10 e10, y12_ = .agg #[.bool s10, .slice A10 n10 c10, .slice D10 m10 e10] ∧ PQ w s10 (.slice A10 n10 c10) (.slice D10 m10 e10) (z1 : Rat) 4) ∧ (listed.getD 13 false = true → ∃ s11 A11 n11 c11 D11 m11 e11, y13_ = .agg #[.bool s11, .slice A11 n11 c11, .slice D11 m11 e11] ∧ PQ w s11 (.slice A11 n11 c11) (.slice D11 m11 e11) ((z3 : Rat) * (z1 : Rat)) (max 4 1 + max 4 1 + 1)) ∧ (listed.getD 14 false = true → ∃ s12 A12 n12 c12 D12 m12 e12, y14_ = .agg #[.bool s12, .slice A12 n12 c12, .slice D12 m12 e12] ∧ PQ w s12 (.slice A12 n12 c12) (.slice D12 m12 e12) ((z0 : Rat) * (z4 : Rat) - (z3 : Rat) * (z1 : Rat)) (max (max 4 1 + max 4 1 + 1) 1 + max (max 4 1 + max 4 1 + 1) 1 + 1)) ∧ (listed.getD 15 false = true → ∃ g0_, y15_ = .pointer (some ⟨g0_, 0, none⟩) ∧ Box w g0_ #[.bool false, .slice none 0 0, .slice none 0 0] 46 ∧ W0.heap.size ≤ g0_)) (by kernel_rfl) (by kernel_rfl) ?_ ?_ _ _ _ _ (by kernel_rfl) (by kernel_rfl) ⟨Ac_.tmps.getD 11 undef, Ac_.tmps.getD 14 undef, Ac_.tmps.getD 15 undef, Ac_.tmps.getD 18 undef, Ac_.tmps.getD 21 undef, Ac_.tmps.getD 22 undef, Ac_.tmps.getD 23 undef, Ac_.tmps.getD 6 undef, by subst hA; kernel_rfl, hG, fun h => (by cases h), fun h => (by cases h), fun h => (by cases h), fun h => (by cases h), fun h => (by cases h), fun h => (by cases h), fun h => (by cases h), fun h => (by cases h)⟩
    · refine (AllStepsF.cons (i := 2) (o := _) rfl rfl ?_ (AllStepsF.cons (i := 5) (o := _) rfl rfl ?_ (AllStepsF.cons (i := 6) (o := _) rfl rfl ?_ (AllStepsF.cons (i := 9) (o := _) rfl rfl ?_ (AllStepsF.cons (i := 12) (o := _) rfl rfl ?_ (AllStepsF.cons (i := 13) (o := _) rfl rfl ?_ (AllStepsF.cons (i := 14) (o := _) rfl rfl ?_ (AllStepsF.cons (i := 15) (o := _) rfl rfl ?_ AllStepsF.nil))))))))
      · rintro listed a wx ⟨y2_, y5_, y6_, y9_, y12_, y13_, y14_, y15_, rfl, hG, H2_, H5_, H6_, H9_, H12_, H13_, H14_, H15_⟩ hi K hK
        subst hA
        (try simp only [Act.put, List.setIfInBounds_toArray, List.set_cons_zero, List.set_cons_succ])
        go_simp
        go_at_call 84
        refine (gq_v (h0.below hG)).mono ?_
        rintro e X ⟨s6, A6, n6, c6, D6, m6, e6, rfl, m0, hb9⟩
        go_wp2_with fail
        have hG9 := hG.trans (hb9.mono hG.size)
        refine hK.out _ _ ((b0.below hG9).and6 ((b1.below hG9).all6)) ?_
        clear hK K
        exact ⟨_, y5_, y6_, y9_, y12_, y13_, y14_, y15_, by kernel_rfl, hG9, fun _ => ⟨s6, A6, n6, c6, D6, m6, e6, rfl, m0⟩, fun h => by obtain ⟨s7, A7, n7, c7, D7, m7, e7, e_, m1'⟩ := H5_ (set_dep (by decide) h); exact ⟨s7, A7, n7, c7, D7, m7, e7, e_, m1'.below hb9⟩, fun h => by obtain ⟨s8, A8, n8, c8, D8, m8, e8, e_, m2'⟩ := H6_ (set_dep (by decide) h); exact ⟨s8, A8, n8, c8, D8, m8, e8, e_, m2'.below hb9⟩, fun h => by obtain ⟨s9, A9, n9, c9, D9, m9, e9, e_, m3'⟩ := H9_ (set_dep (by decide) h); exact ⟨s9, A9, n9, c9, D9, m9, e9, e_, m3'.below hb9⟩, fun h => by obtain ⟨s10, A10, n10, c10, D10, m10, e10, e_, m4'⟩ := H12_ (set_dep (by decide) h); exact ⟨s10, A10, n10, c10, D10, m10, e10, e_, m4'.below hb9⟩, fun h => by obtain ⟨s11, A11, n11, c11, D11, m11, e11, e_, m5'⟩ := H13_ (set_dep (by decide) h); exact ⟨s11, A11, n11, c11, D11, m11, e11, e_, m5'.below hb9⟩, fun h => by obtain ⟨s12, A12, n12, c12, D12, m12, e12, e_, gD'⟩ := H14_ (set_dep (by decide) h); exact ⟨s12, A12, n12, c12, D12, m12, e12, e_, gD'.below hb9⟩, fun h => by obtain ⟨g0_, e_, bx0', hl0'⟩ := H15_ (set_dep (by decide) h); exact ⟨g0_, e_, bx0'.below hb9, hl0'⟩⟩
      · rintro listed a wx ⟨y2_, y5_, y6_, y9_, y12_, y13_, y14_, y15_, rfl, hG, H2_, H5_, H6_, H9_, H12_, H13_, H14_, H15_⟩ hi K hK
        subst hA
        (try simp only [Act.put, List.setIfInBounds_toArray, List.set_cons_zero, List.set_cons_succ])
        go_simp
        go_at_call 84
        refine (gq_v (h4.below hG)).mono ?_
        rintro e X ⟨s7, A7, n7, c7, D7, m7, e7, rfl, m1, hb9⟩
        go_wp2_with fail
        have hG9 := hG.trans (hb9.mono hG.size)
        refine hK.out _ _ ((b0.below hG9).and6 ((b1.below hG9).all6)) ?_
        clear hK K
        exact ⟨y2_, _, y6_, y9_, y12_, y13_, y14_, y15_, by kernel_rfl, hG9, fun h => by obtain ⟨s6, A6, n6, c6, D6, m6, e6, e_, m0'⟩ := H2_ (set_dep (by decide) h); exact ⟨s6, A6, n6, c6, D6, m6, e6, e_, m0'.below hb9⟩, fun _ => ⟨s7, A7, n7, c7, D7, m7, e7, rfl, m1⟩, fun h => by obtain ⟨s8, A8, n8, c8, D8, m8, e8, e_, m2'⟩ := H6_ (set_dep (by decide) h); exact ⟨s8, A8, n8, c8, D8, m8, e8, e_, m2'.below hb9⟩, fun h => by obtain ⟨s9, A9, n9, c9, D9, m9, e9, e_, m3'⟩ := H9_ (set_dep (by decide) h); exact ⟨s9, A9, n9, c9, D9, m9, e9, e_, m3'.below hb9⟩, fun h => by obtain ⟨s10, A10, n10, c10, D10, m10, e10, e_, m4'⟩ := H12_ (set_dep (by decide) h); exact ⟨s10, A10, n10, c10, D10, m10, e10, e_, m4'.below hb9⟩, fun h => by obtain ⟨s11, A11, n11, c11, D11, m11, e11, e_, m5'⟩ := H13_ (set_dep (by decide) h); exact ⟨s11, A11, n11, c11, D11, m11, e11, e_, m5'.below hb9⟩, fun h => by obtain ⟨s12, A12, n12, c12, D12, m12, e12, e_, gD'⟩ := H14_ (set_dep (by decide) h); exact ⟨s12, A12, n12, c12, D12, m12, e12, e_, gD'.below hb9⟩, fun h => by obtain ⟨g0_, e_, bx0', hl0'⟩ := H15_ (set_dep (by decide) h); exact ⟨g0_, e_, bx0'.below hb9, hl0'⟩⟩
      · rintro listed a wx ⟨y2_, y5_, y6_, y9_, y12_, y13_, y14_, y15_, rfl, hG, H2_, H5_, H6_, H9_, H12_, H13_, H14_, H15_⟩ hi K hK
        have e2_ : listed.getD 2 false = true := ready_dep hi rfl 2 (by kernel_rfl)
        obtain ⟨s6, A6, n6, c6, D6, m6, e6, rfl, m0⟩ := H2_ e2_
        have e5_ : listed.getD 5 false = true := ready_dep hi rfl 5 (by kernel_rfl)
        obtain ⟨s7, A7, n7, c7, D7, m7, e7, rfl, m1⟩ := H5_ e5_
        subst hA
        (try simp only [Act.put, List.setIfInBounds_toArray, List.set_cons_zero, List.set_cons_succ])
        go_simp
        go_at_call 70
        refine (ntimes_v m0 m1 (by decide) (by decide)).mono ?_
        rintro e X ⟨s8, A8, n8, c8, D8, m8, e8, rfl, m2, hb9⟩
        go_wp2_with fail
        have hG9 := hG.trans (hb9.mono hG.size)
        refine hK.out _ _ ((b0.below hG9).and6 ((b1.below hG9).all6)) ?_
        clear hK K
        exact ⟨_, _, _, y9_, y12_, y13_, y14_, y15_, by kernel_rfl, hG9, fun _ => ⟨s6, A6, n6, c6, D6, m6, e6, rfl, m0.below hb9⟩, fun _ => ⟨s7, A7, n7, c7, D7, m7, e7, rfl, m1.below hb9⟩, fun _ => ⟨s8, A8, n8, c8, D8, m8, e8, rfl, m2⟩, fun h => by obtain ⟨s9, A9, n9, c9, D9, m9, e9, e_, m3'⟩ := H9_ (set_dep (by decide) h); exact ⟨s9, A9, n9, c9, D9, m9, e9, e_, m3'.below hb9⟩, fun h => by obtain ⟨s10, A10, n10, c10, D10, m10, e10, e_, m4'⟩ := H12_ (set_dep (by decide) h); exact ⟨s10, A10, n10, c10, D10, m10, e10, e_, m4'.below hb9⟩, fun h => by obtain ⟨s11, A11, n11, c11, D11, m11, e11, e_, m5'⟩ := H13_ (set_dep (by decide) h); exact ⟨s11, A11, n11, c11, D11, m11, e11, e_, m5'.below hb9⟩, fun h => by obtain ⟨s12, A12, n12, c12, D12, m12, e12, e_, gD'⟩ := H14_ (set_dep (by decide) h); exact ⟨s12, A12, n12, c12, D12, m12, e12, e_, gD'.below hb9⟩, fun h => by obtain ⟨g0_, e_, bx0', hl0'⟩ := H15_ (set_dep (by decide) h); exact ⟨g0_, e_, bx0'.below hb9, hl0'⟩⟩
      · rintro listed a wx ⟨y2_, y5_, y6_, y9_, y12_, y13_, y14_, y15_, rfl, hG, H2_, H5_, H6_, H9_, H12_, H13_, H14_, H15_⟩ hi K hK
        subst hA
        (try simp only [Act.put, List.setIfInBounds_toArray, List.set_cons_zero, List.set_cons_succ])
        go_simp
        go_at_call 84
        refine (gq_v (h3.below hG)).mono ?_
        rintro e X ⟨s9, A9, n9, c9, D9, m9, e9, rfl, m3, hb9⟩
        go_wp2_with fail
        have hG9 := hG.trans (hb9.mono hG.size)
        refine hK.out _ _ ((b0.below hG9).and6 ((b1.below hG9).all6)) ?_
        clear hK K
        exact ⟨y2_, y5_, y6_, _, y12_, y13_, y14_, y15_, by kernel_rfl, hG9, fun h => by obtain ⟨s6, A6, n6, c6, D6, m6, e6, e_, m0'⟩ := H2_ (set_dep (by decide) h); exact ⟨s6, A6, n6, c6, D6, m6, e6, e_, m0'.below hb9⟩, fun h => by obtain ⟨s7, A7, n7, c7, D7, m7, e7, e_, m1'⟩ := H5_ (set_dep (by decide) h); exact ⟨s7, A7, n7, c7, D7, m7, e7, e_, m1'.below hb9⟩, fun h => by obtain ⟨s8, A8, n8, c8, D8, m8, e8, e_, m2'⟩ := H6_ (set_dep (by decide) h); exact ⟨s8, A8, n8, c8, D8, m8, e8, e_, m2'.below hb9⟩, fun _ => ⟨s9, A9, n9, c9, D9, m9, e9, rfl, m3⟩, fun h => by obtain ⟨s10, A10, n10, c10, D10, m10, e10, e_, m4'⟩ := H12_ (set_dep (by decide) h); exact ⟨s10, A10, n10, c10, D10, m10, e10, e_, m4'.below hb9⟩, fun h => by obtain ⟨s11, A11, n11, c11, D11, m11, e11, e_, m5'⟩ := H13_ (set_dep (by decide) h); exact ⟨s11, A11, n11, c11, D11, m11, e11, e_, m5'.below hb9⟩, fun h => by obtain ⟨s12, A12, n12, c12, D12, m12, e12, e_, gD'⟩ := H14_ (set_dep (by decide) h); exact ⟨s12, A12, n12, c12, D12, m12, e12, e_, gD'.below hb9⟩, fun h => by obtain ⟨g0_, e_, bx0', hl0'⟩ := H15_ (set_dep (by decide) h); exact ⟨g0_, e_, bx0'.below hb9, hl0'⟩⟩
      · rintro listed a wx ⟨y2_, y5_, y6_, y9_, y12_, y13_, y14_, y15_, rfl, hG, H2_, H5_, H6_, H9_, H12_, H13_, H14_, H15_⟩ hi K hK
        subst hA
        (try simp only [Act.put, List.setIfInBounds_toArray, List.set_cons_zero, List.set_cons_succ])
        go_simp
        go_at_call 84
        refine (gq_v (h1.below hG)).mono ?_
        rintro e X ⟨s10, A10, n10, c10, D10, m10, e10, rfl, m4, hb9⟩
        go_wp2_with fail
        have hG9 := hG.trans (hb9.mono hG.size)
        refine hK.out _ _ ((b0.below hG9).and6 ((b1.below hG9).all6)) ?_
        clear hK K
        exact ⟨y2_, y5_, y6_, y9_, _, y13_, y14_, y15_, by kernel_rfl, hG9, fun h => by obtain ⟨s6, A6, n6, c6, D6, m6, e6, e_, m0'⟩ := H2_ (set_dep (by decide) h); exact ⟨s6, A6, n6, c6, D6, m6, e6, e_, m0'.below hb9⟩, fun h => by obtain ⟨s7, A7, n7, c7, D7, m7, e7, e_, m1'⟩ := H5_ (set_dep (by decide) h); exact ⟨s7, A7, n7, c7, D7, m7, e7, e_, m1'.below hb9⟩, fun h => by obtain ⟨s8, A8, n8, c8, D8, m8, e8, e_, m2'⟩ := H6_ (set_dep (by decide) h); exact ⟨s8, A8, n8, c8, D8, m8, e8, e_, m2'.below hb9⟩, fun h => by obtain ⟨s9, A9, n9, c9, D9, m9, e9, e_, m3'⟩ := H9_ (set_dep (by decide) h); exact ⟨s9, A9, n9, c9, D9, m9, e9, e_, m3'.below hb9⟩, fun _ => ⟨s10, A10, n10, c10, D10, m10, e10, rfl, m4⟩, fun h => by obtain ⟨s11, A11, n11, c11, D11, m11, e11, e_, m5'⟩ := H13_ (set_dep (by decide) h); exact ⟨s11, A11, n11, c11, D11, m11, e11, e_, m5'.below hb9⟩, fun h => by obtain ⟨s12, A12, n12, c12, D12, m12, e12, e_, gD'⟩ := H14_ (set_dep (by decide) h); exact ⟨s12, A12, n12, c12, D12, m12, e12, e_, gD'.below hb9⟩, fun h => by obtain ⟨g0_, e_, bx0', hl0'⟩ := H15_ (set_dep (by decide) h); exact ⟨g0_, e_, bx0'.below hb9, hl0'⟩⟩
      · rintro listed a wx ⟨y2_, y5_, y6_, y9_, y12_, y13_, y14_, y15_, rfl, hG, H2_, H5_, H6_, H9_, H12_, H13_, H14_, H15_⟩ hi K hK
        have e9_ : listed.getD 9 false = true := ready_dep hi rfl 9 (by kernel_rfl)
        obtain ⟨s9, A9, n9, c9, D9, m9, e9, rfl, m3⟩ := H9_ e9_
        have e12_ : listed.getD 12 false = true := ready_dep hi rfl 12 (by kernel_rfl)
        obtain ⟨s10, A10, n10, c10, D10, m10, e10, rfl, m4⟩ := H12_ e12_
        subst hA
        (try simp only [Act.put, List.setIfInBounds_toArray, List.set_cons_zero, List.set_cons_succ])
        go_simp
        go_at_call 70
        refine (ntimes_v m3 m4 (by decide) (by decide)).mono ?_
        rintro e X ⟨s11, A11, n11, c11, D11, m11, e11, rfl, m5, hb9⟩
        go_wp2_with fail
        have hG9 := hG.trans (hb9.mono hG.size)
        refine hK.out _ _ ((b0.below hG9).and6 ((b1.below hG9).all6)) ?_
        clear hK K
        exact ⟨y2_, y5_, y6_, _, _, _, y14_, y15_, by kernel_rfl, hG9, fun h => by obtain ⟨s6, A6, n6, c6, D6, m6, e6, e_, m0'⟩ := H2_ (set_dep (by decide) h); exact ⟨s6, A6, n6, c6, D6, m6, e6, e_, m0'.below hb9⟩, fun h => by obtain ⟨s7, A7, n7, c7, D7, m7, e7, e_, m1'⟩ := H5_ (set_dep (by decide) h); exact ⟨s7, A7, n7, c7, D7, m7, e7, e_, m1'.below hb9⟩, fun h => by obtain ⟨s8, A8, n8, c8, D8, m8, e8, e_, m2'⟩ := H6_ (set_dep (by decide) h); exact ⟨s8, A8, n8, c8, D8, m8, e8, e_, m2'.below hb9⟩, fun _ => ⟨s9, A9, n9, c9, D9, m9, e9, rfl, m3.below hb9⟩, fun _ => ⟨s10, A10, n10, c10, D10, m10, e10, rfl, m4.below hb9⟩, fun _ => ⟨s11, A11, n11, c11, D11, m11, e11, rfl, m5⟩, fun h => by obtain ⟨s12, A12, n12, c12, D12, m12, e12, e_, gD'⟩ := H14_ (set_dep (by decide) h); exact ⟨s12, A12, n12, c12, D12, m12, e12, e_, gD'.below hb9⟩, fun h => by obtain ⟨g0_, e_, bx0', hl0'⟩ := H15_ (set_dep (by decide) h); exact ⟨g0_, e_, bx0'.below hb9, hl0'⟩⟩
      · rintro listed a wx ⟨y2_, y5_, y6_, y9_, y12_, y13_, y14_, y15_, rfl, hG, H2_, H5_, H6_, H9_, H12_, H13_, H14_, H15_⟩ hi K hK
        have e6_ : listed.getD 6 false = true := ready_dep hi rfl 6 (by kernel_rfl)
        obtain ⟨s8, A8, n8, c8, D8, m8, e8, rfl, m2⟩ := H6_ e6_
        have e13_ : listed.getD 13 false = true := ready_dep hi rfl 13 (by kernel_rfl)
        obtain ⟨s11, A11, n11, c11, D11, m11, e11, rfl, m5⟩ := H13_ e13_
        subst hA
        (try simp only [Act.put, List.setIfInBounds_toArray, List.set_cons_zero, List.set_cons_succ])
        go_simp
        go_at_call 99
        refine (nqsub_v m2 m5 (by decide) (by decide)).mono ?_
        rintro e X ⟨s12, A12, n12, c12, D12, m12, e12, rfl, gD, hb9⟩
        go_wp2_with fail
        have hG9 := hG.trans (hb9.mono hG.size)
        refine hK.out _ _ ((b0.below hG9).and6 ((b1.below hG9).all6)) ?_
        clear hK K
        exact ⟨y2_, y5_, _, y9_, y12_, _, _, y15_, by kernel_rfl, hG9, fun h => by obtain ⟨s6, A6, n6, c6, D6, m6, e6, e_, m0'⟩ := H2_ (set_dep (by decide) h); exact ⟨s6, A6, n6, c6, D6, m6, e6, e_, m0'.below hb9⟩, fun h => by obtain ⟨s7, A7, n7, c7, D7, m7, e7, e_, m1'⟩ := H5_ (set_dep (by decide) h); exact ⟨s7, A7, n7, c7, D7, m7, e7, e_, m1'.below hb9⟩, fun _ => ⟨s8, A8, n8, c8, D8, m8, e8, rfl, m2.below hb9⟩, fun h => by obtain ⟨s9, A9, n9, c9, D9, m9, e9, e_, m3'⟩ := H9_ (set_dep (by decide) h); exact ⟨s9, A9, n9, c9, D9, m9, e9, e_, m3'.below hb9⟩, fun h => by obtain ⟨s10, A10, n10, c10, D10, m10, e10, e_, m4'⟩ := H12_ (set_dep (by decide) h); exact ⟨s10, A10, n10, c10, D10, m10, e10, e_, m4'.below hb9⟩, fun _ => ⟨s11, A11, n11, c11, D11, m11, e11, rfl, m5.below hb9⟩, fun _ => ⟨s12, A12, n12, c12, D12, m12, e12, rfl, gD⟩, fun h => by obtain ⟨g0_, e_, bx0', hl0'⟩ := H15_ (set_dep (by decide) h); exact ⟨g0_, e_, bx0'.below hb9, hl0'⟩⟩
      · rintro listed a wx ⟨y2_, y5_, y6_, y9_, y12_, y13_, y14_, y15_, rfl, hG, H2_, H5_, H6_, H9_, H12_, H13_, H14_, H15_⟩ hi K hK
        subst hA
        (try simp only [Act.put, List.setIfInBounds_toArray, List.set_cons_zero, List.set_cons_succ])
        go_simp
        obtain ⟨X, hV, bx0, hb9, sz9⟩ := boxes1 wx #[.bool false, .slice none 0 0, .slice none 0 0] 46
        rw [hV]
        clear hV
        have hl0 : W0.heap.size ≤ wx.heap.size := hG.size
        have hG9 := hG.trans (hb9.mono hG.size)
        refine hK.out _ _ ((b0.below hG9).and6 ((b1.below hG9).all6)) ?_
        clear hK K
        exact ⟨y2_, y5_, y6_, y9_, y12_, y13_, y14_, _, by kernel_rfl, hG9, fun h => by obtain ⟨s6, A6, n6, c6, D6, m6, e6, e_, m0'⟩ := H2_ (set_dep (by decide) h); exact ⟨s6, A6, n6, c6, D6, m6, e6, e_, m0'.below hb9⟩, fun h => by obtain ⟨s7, A7, n7, c7, D7, m7, e7, e_, m1'⟩ := H5_ (set_dep (by decide) h); exact ⟨s7, A7, n7, c7, D7, m7, e7, e_, m1'.below hb9⟩, fun h => by obtain ⟨s8, A8, n8, c8, D8, m8, e8, e_, m2'⟩ := H6_ (set_dep (by decide) h); exact ⟨s8, A8, n8, c8, D8, m8, e8, e_, m2'.below hb9⟩, fun h => by obtain ⟨s9, A9, n9, c9, D9, m9, e9, e_, m3'⟩ := H9_ (set_dep (by decide) h); exact ⟨s9, A9, n9, c9, D9, m9, e9, e_, m3'.below hb9⟩, fun h => by obtain ⟨s10, A10, n10, c10, D10, m10, e10, e_, m4'⟩ := H12_ (set_dep (by decide) h); exact ⟨s10, A10, n10, c10, D10, m10, e10, e_, m4'.below hb9⟩, fun h => by obtain ⟨s11, A11, n11, c11, D11, m11, e11, e_, m5'⟩ := H13_ (set_dep (by decide) h); exact ⟨s11, A11, n11, c11, D11, m11, e11, e_, m5'.below hb9⟩, fun h => by obtain ⟨s12, A12, n12, c12, D12, m12, e12, e_, gD'⟩ := H14_ (set_dep (by decide) h); exact ⟨s12, A12, n12, c12, D12, m12, e12, e_, gD'.below hb9⟩, fun _ => ⟨_, rfl, bx0, hl0⟩⟩
    · rintro a wf ⟨y2_, y5_, y6_, y9_, y12_, y13_, y14_, y15_, rfl, hG, H2_, H5_, H6_, H9_, H12_, H13_, H14_, H15_⟩
      obtain ⟨s6, A6, n6, c6, D6, m6, e6, rfl, m0⟩ := H2_ rfl
      obtain ⟨s7, A7, n7, c7, D7, m7, e7, rfl, m1⟩ := H5_ rfl
      obtain ⟨s8, A8, n8, c8, D8, m8, e8, rfl, m2⟩ := H6_ rfl
      obtain ⟨s9, A9, n9, c9, D9, m9, e9, rfl, m3⟩ := H9_ rfl
      obtain ⟨s10, A10, n10, c10, D10, m10, e10, rfl, m4⟩ := H12_ rfl
      obtain ⟨s11, A11, n11, c11, D11, m11, e11, rfl, m5⟩ := H13_ rfl
      obtain ⟨s12, A12, n12, c12, D12, m12, e12, rfl, gD⟩ := H14_ rfl
      obtain ⟨g0_, rfl, bx0, hl0⟩ := H15_ rfl
      subst hA
      (try simp only [Act.put, List.setIfInBounds_toArray, List.set_cons_zero, List.set_cons_succ])
      have H0 := hG
      obtain ⟨cbx00, ybx00, cbx01, ybx01, cbx02, ybx02⟩ := bx0.cf3
      refine wpAnyF_last (i := 16) (by kernel_rfl) rfl rfl (fun K hK => ?_)
      go_simp
      refine hK.out _ _ ?_
      clear hK K
      (try simp only [List.setIfInBounds_toArray, List.set_cons_zero, List.set_cons_succ])
      clear cbx00 ybx00 cbx01 ybx01 cbx02 ybx02
      have hg := only_store3 wf (g0_) (.bool s12) (.slice A12 n12 c12) (.slice D12 m12 e12)
      have hB := bx0.stored3 (.bool s12) (.slice A12 n12 c12) (.slice D12 m12 e12)
      generalize hX : (((wf.setCell ⟨g0_, 0, none⟩ (.bool s12)).setCell ⟨g0_, 1, none⟩ (.slice A12 n12 c12)).setCell ⟨g0_, 2, none⟩ (.slice D12 m12 e12)) = X52 at hg hB ⊢
      clear hX
      replace gD := gD.kept bx0 (by simp [notInt]) hg
      replace bx0 := hB
      replace H0 := below_only H0 hg (by omega) H0.size
      clear hg hB
      refine wpAny_done (by kernel_rfl) ?_ _
      refine NoPanic.normal ?_
      go_wp2_with fail
      go_meet
      exact ⟨g0_, s12, A12, n12, c12, D12, m12, e12, rfl, gD, bx0, hl0, H0⟩
  case rest =>
    obtain ⟨g70, s12, A12, n12, c12, D12, m12, e12, rfl, gD, b6, ml0, hG⟩ := hcut
    replace h0 := h0.below hG
    replace h1 := h1.below hG
    replace h2 := h2.below hG
    replace h3 := h3.below hG
    replace h4 := h4.below hG
    replace h5 := h5.below hG
    replace b0 := b0.below hG
    replace b1 := b1.below hG
    replace b9 := b9.below hG
    replace H0 := H0.trans (hG.mono H0.size)
    clear hG
    obtain ⟨cb60, cb61, cb62⟩ := b6.cells3
    go_wp2_with fail
    clear cb60 cb61 cb62
    refine (nqs_v gD HD.out).mono ?_
    rintro e w501 ⟨rfl, hb⟩
    replace h0 := h0.below hb
    replace h1 := h1.below hb
    replace h2 := h2.below hb
    replace h3 := h3.below hb
    replace h4 := h4.below hb
    replace h5 := h5.below hb
    replace gD := gD.below hb
    replace b0 := b0.below hb
    replace b1 := b1.below hb
    replace b9 := b9.below hb
    replace b6 := b6.below hb
    replace H0 := H0.trans (hb.mono H0.size)
    clear hb
    go_wp2_with fail
    have lkb0 := b0.lt
    have lkb1 := b1.lt
    have lkb9 := b9.lt
    have lkb6 := b6.lt
    go_cut [7] from 8 (fun s_7 wx => ∃ g80 s19 A19 n19 c19 D19 m19 e19, s_7 = .pointer (some ⟨g80, 0, none⟩) ∧ PQ wx s19 (.slice A19 n19 c19) (.slice D19 m19 e19) ((z1 : Rat) * (z5 : Rat) - (z4 : Rat) * (z2 : Rat)) (max (max 4 1 + max 4 1 + 1) 1 + max (max 4 1 + max 4 1 + 1) 1 + 1) ∧ Box wx g80 #[.bool s19, .slice A19 n19 c19, .slice D19 m19 e19] 46 ∧ w501.heap.size ≤ g80 ∧ Below w501.heap.size w501 wx)
    case first =>
      have lcb0_502 := b0.lt
      have lcb1_502 := b1.lt
      have lcb9_502 := b9.lt
      have lcb6_502 := b6.lt
      have hG := drawn_below w501
      refine wp_region_noPanic ?_
      refine wp_region_anyd (by kernel_rfl) ?_
      generalize w501.drew = v502 at hG ⊢
      refine wpAny_take (i := 0) (v := ?_) rfl (by kernel_rfl) (by kernel_rfl) (by kernel_rfl) (fun _ _ _ h => h) (Or.inl ⟨by rfl, ?_⟩) ?_
      rotate_left
      · (intro w; go_simp; (try with_reducible rfl))
      (try simp only [getElem_toArray, getElem_cons_zero, Act.put, setIfInBounds_toArray, set_cons_zero, set_cons_succ])
      refine wpAny_take (i := 3) (v := ?_) rfl (by kernel_rfl) (by kernel_rfl) (by kernel_rfl) (fun _ _ _ h => h) (Or.inl ⟨by rfl, ?_⟩) ?_
      rotate_left
      · (intro w; go_simp; (try with_reducible rfl))
      (try simp only [getElem_toArray, getElem_cons_succ, getElem_cons_zero, Act.put, setIfInBounds_toArray, set_cons_zero, set_cons_succ])
      refine wpAny_take (i := 7) (v := ?_) rfl (by kernel_rfl) (by kernel_rfl) (by kernel_rfl) (fun _ _ _ h => h) (Or.inl ⟨by rfl, ?_⟩) ?_
      rotate_left
      · (intro w; go_simp; (try with_reducible rfl))
      (try simp only [getElem_toArray, getElem_cons_succ, getElem_cons_zero, Act.put, setIfInBounds_toArray, set_cons_zero, set_cons_succ])
      refine wpAny_take (i := 10) (v := ?_) rfl (by kernel_rfl) (by kernel_rfl) (by kernel_rfl) (fun _ _ _ h => h) (Or.inl ⟨by rfl, ?_⟩) ?_
      rotate_left
      · (intro w; go_simp; (try with_reducible rfl))
      (try simp only [getElem_toArray, getElem_cons_succ, getElem_cons_zero, Act.put, setIfInBounds_toArray, set_cons_zero, set_cons_succ])
      refine wpAny_of_F (S := (fun V => V.cell? ⟨w.heap.size, 0, none⟩ = some (.bool s0) ∧ V.cell? ⟨w.heap.size, 1, none⟩ = some (.slice A0 n0 c0) ∧ V.cell? ⟨w.heap.size, 2, none⟩ = some (.bool s1) ∧ V.cell? ⟨w.heap.size, 3, none⟩ = some (.slice A1 n1 c1) ∧ V.cell? ⟨w.heap.size, 4, none⟩ = some (.bool s2) ∧ V.cell? ⟨w.heap.size, 5, none⟩ = some (.slice A2 n2 c2) ∧ V.cell? ⟨w.heap.size + 1, 0, none⟩ = some (.bool s3) ∧ V.cell? ⟨w.heap.size + 1, 1, none⟩ = some (.slice A3 n3 c3) ∧ V.cell? ⟨w.heap.size + 1, 2, none⟩ = some (.bool s4) ∧ V.cell? ⟨w.heap.size + 1, 3, none⟩ = some (.slice A4 n4 c4) ∧ V.cell? ⟨w.heap.size + 1, 4, none⟩ = some (.bool s5) ∧ V.cell? ⟨w.heap.size + 1, 5, none⟩ = some (.slice A5 n5 c5))) (F := (fun j => j == 16)) _ _ _ _ ?_
      refine wpAnyF_take (i := 1) (v := ?_) (fun j => j == 2 || j == 5 || j == 6 || j == 9 || j == 12 || j == 13 || j == 14 || j == 16) rfl (by kernel_rfl) (by kernel_rfl) (by kernel_rfl) (by kernel_rfl) (fun j hj => by have h6 : 17 ≤ j := hj; simp; omega) (fun _ _ _ h => h) (Or.inl ⟨by rfl, ?_⟩) ((b0.below hG).and6 ((b1.below hG).all6)) ?_
      rotate_left
      · (intro w hSw; (try dsimp only at hSw); go_simp; (try with_reducible rfl))
      (try simp only [getElem_toArray, getElem_cons_succ, getElem_cons_zero, Act.put, setIfInBounds_toArray, set_cons_zero, set_cons_succ])
      refine wpAnyF_take (i := 4) (v := ?_) (fun j => j == 5 || j == 6 || j == 9 || j == 12 || j == 13 || j == 14 || j == 16) rfl (by kernel_rfl) (by kernel_rfl) (by kernel_rfl) (by kernel_rfl) (fun j hj => by have h6 : 17 ≤ j := hj; simp; omega) (fun _ _ _ h => h) (Or.inl ⟨by rfl, ?_⟩) ((b0.below hG).and6 ((b1.below hG).all6)) ?_
      rotate_left
      · (intro w hSw; (try dsimp only at hSw); go_simp; (try with_reducible rfl))
      (try simp only [getElem_toArray, getElem_cons_succ, getElem_cons_zero, Act.put, setIfInBounds_toArray, set_cons_zero, set_cons_succ])
      refine wpAnyF_take (i := 8) (v := ?_) (fun j => j == 9 || j == 12 || j == 13 || j == 14 || j == 16) rfl (by kernel_rfl) (by kernel_rfl) (by kernel_rfl) (by kernel_rfl) (fun j hj => by have h6 : 17 ≤ j := hj; simp; omega) (fun _ _ _ h => h) (Or.inl ⟨by rfl, ?_⟩) ((b0.below hG).and6 ((b1.below hG).all6)) ?_
      rotate_left
      · (intro w hSw; (try dsimp only at hSw); go_simp; (try with_reducible rfl))
      (try simp only [getElem_toArray, getElem_cons_succ, getElem_cons_zero, Act.put, setIfInBounds_toArray, set_cons_zero, set_cons_succ])
      refine wpAnyF_take (i := 11) (v := ?_) (fun j => j == 12 || j == 13 || j == 14 || j == 16) rfl (by kernel_rfl) (by kernel_rfl) (by kernel_rfl) (by kernel_rfl) (fun j hj => by have h6 : 17 ≤ j := hj; simp; omega) (fun _ _ _ h => h) (Or.inl ⟨by rfl, ?_⟩) ((b0.below hG).and6 ((b1.below hG).all6)) ?_
      rotate_left
      · (intro w hSw; (try dsimp only at hSw); go_simp; (try with_reducible rfl))
      (try simp only [getElem_toArray, getElem_cons_succ, getElem_cons_zero, Act.put, setIfInBounds_toArray, set_cons_zero, set_cons_succ])
      refine wpAnyF_name (n' := 9) (l' := #[true, true, false, true, true, false, false, true, true, false, true, true, false, false, false, false, false]) (by kernel_rfl) (by kernel_rfl) (fun Ac_ hA => ?_)
      refine wpAnyF_phase (rs := [2, 5, 6, 9, 12, 13, 14, 15]) (full := #[true, true, true, true, true, true, true, true, true, true, true, true, true, true, true, true, false]) (states := [#[true, true, false, true, true, false, false, true, true, false, true, true, false, false, false, false, false], #[true, true, true, true, true, false, false, true, true, false, true, true, false, false, false, false, false], #[true, true, false, true, true, false, false, true, true, false, true, true, false, false, false, true, false], #[true, true, true, true, true, false, false, true, true, false, true, true, false, false, false, true, false], #[true, true, true, true, true, true, false, true, true, false, true, true, false, false, false, true, false], #[true, true, true, true, true, true, true, true, true, false, true, true, false, false, false, true, false], #[true, true, true, true, true, true, true, true, true, true, true, true, false, false, false, true, false], #[true, true, true, true, true, true, true, true, true, true, true, true, true, false, false, true, false], #[true, true, true, true, true, true, true, true, true, true, true, true, true, true, false, true, false], #[true, true, true, true, true, true, true, true, true, true, true, true, true, true, true, true, false], #[true, true, true, true, true, true, false, true, true, false, true, true, false, false, false, false, false], #[true, true, true, true, true, true, true, true, true, false, true, true, false, false, false, false, false], #[true, true, true, true, true, true, true, true, true, true, true, true, false, false, false, false, false], #[true, true, true, true, true, true, true, true, true, true, true, true, true, false, false, false, false], #[true, true, true, true, true, true, true, true, true, true, true, true, true, true, false, false, false], #[true, true, true, true, true, true, true, true, true, true, true, true, true, true, true, false, false]]) (k := 1) (I := fun listed a w => ∃ (y2_ y5_ y6_ y9_ y12_ y13_ y14_ y15_ : Value), a = ((((((((Ac_.put (some 30) y2_).put (some 33) y5_).put (some 34) y6_).put (some 37) y9_).put (some 40) y12_).put (some 41) y13_).put (some 42) y14_).put (some 7) y15_) ∧ Below w501.heap.size w501 w ∧ (listed.getD 2 false = true → ∃ s13 A13 n13 c13 D13 m13 e13, y2_ = .agg #[.bool s13, .slice A13 n13 c13, .slice D13 m13 e13] ∧ PQ w s13 (.slice A13 n13 c13) (.slice D13 m13 e13) (z1 : Rat) 4) ∧ (listed.getD 5 false = true → ∃ s14 A14 n14 c14 D14 m14 e14, y5_ = .agg #[.bool s14, .slice A14 n14 c14, .slice D14 m14 e14] ∧ PQ w s14 (.slice A14 n14 c14) (.slice D14 m14 e14) (z5 : Rat) 4) ∧ (listed.getD 6 false = true → ∃ s15 A15 n15 c15 D15 m15 e15, y6_ = .agg #[.bool s15, .slice A15 n15 c15, .slice D15 m15 e15] ∧ PQ w s15 (.slice A15 n15 c15) (.slice D15 m15 e15) ((z1 : Rat) * (z5 : Rat)) (max 4 1 + max 4 1 + 1)) ∧ (listed.getD 9 false = true → ∃ s16 A16 n16 c16 D16 m16 e16, y9_ = .agg #[.bool s16, .slice A16 n16 c16, .slice D16 m16 e16] ∧ PQ w s16 (.slice A16 n16 c16) (.slice D16 m16 e16) (z4 : Rat) 4) ∧ (listed.getD 12 false = true → ∃ s17 A17 n17 c17 D17 m17 e17, y12_ = .agg #[.bool s17, .slice A17 n17 c17, .slice D17 m17 e17] ∧ PQ w s17 (.slice A17 n17 c17) (.slice D17 m17 e17) (z2 : Rat) 4) ∧ (listed.getD 13 false = true → ∃ s18 A18 n18 c18 D18 m18 e18, y13_ = .agg #[.bool s18, .slice A18 n18 c18, .slice D18 m18 e18] ∧ PQ w s18 (.slice A18 n18 c18) (.slice D18 m18 e18) ((z4 : Rat) * (z2 : Rat)) (max 4 1 + max 4 1 + 1)) ∧ (listed.getD 14 false = true → ∃ s19 A19 n19 c19 D19 m19 e19, y14_ = .agg #[.bool s19, .slice A19 n19 c19, .slice D19 m19 e19] ∧ PQ w s19 (.slice A19 n19 c19) (.slice D19 m19 e19) ((z1 : Rat) * (z5 : Rat) - (z4 : Rat) * (z2 : Rat)) (max (max 4 1 + max 4 1 + 1) 1 + max (max 4 1 + max 4 1 + 1) 1 + 1)) ∧ (listed.getD 15 false = true → ∃ g0_, y15_ = .pointer (some ⟨g0_, 0, none⟩) ∧ Box w g0_ #[.bool false, .slice none 0 0, .slice none 0 0] 46 ∧ w501.heap.size ≤ g0_)) (by kernel_rfl) (by kernel_rfl) ?_ ?_ _ _ _ _ (by kernel_rfl) (by kernel_rfl) ⟨Ac_.tmps.getD 30 undef, Ac_.tmps.getD 33 undef, Ac_.tmps.getD 34 undef, Ac_.tmps.getD 37 undef, Ac_.tmps.getD 40 undef, Ac_.tmps.getD 41 undef, Ac_.tmps.getD 42 undef, Ac_.tmps.getD 7 undef, by subst hA; kernel_rfl, hG, fun h => (by cases h), fun h => (by cases h), fun h => (by cases h), fun h => (by cases h), fun h => (by cases h), fun h => (by cases h), fun h => (by cases h), fun h => (by cases h)⟩
      · refine (AllStepsF.cons (i := 2) (o := _) rfl rfl ?_ (AllStepsF.cons (i := 5) (o := _) rfl rfl ?_ (AllStepsF.cons (i := 6) (o := _) rfl rfl ?_ (AllStepsF.cons (i := 9) (o := _) rfl rfl ?_ (AllStepsF.cons (i := 12) (o := _) rfl rfl ?_ (AllStepsF.cons (i := 13) (o := _) rfl rfl ?_ (AllStepsF.cons (i := 14) (o := _) rfl rfl ?_ (AllStepsF.cons (i := 15) (o := _) rfl rfl ?_ AllStepsF.nil))))))))
        · rintro listed a wx ⟨y2_, y5_, y6_, y9_, y12_, y13_, y14_, y15_, rfl, hG, H2_, H5_, H6_, H9_, H12_, H13_, H14_, H15_⟩ hi K hK
          subst hA
          (try simp only [Act.put, List.setIfInBounds_toArray, List.set_cons_zero, List.set_cons_succ])
          go_simp
          go_at_call 84
          refine (gq_v (h1.below hG)).mono ?_
          rintro e X ⟨s13, A13, n13, c13, D13, m13, e13, rfl, m0, hb9⟩
          go_wp2_with fail
          have hG9 := hG.trans (hb9.mono hG.size)
          refine hK.out _ _ ((b0.below hG9).and6 ((b1.below hG9).all6)) ?_
          clear hK K
          exact ⟨_, y5_, y6_, y9_, y12_, y13_, y14_, y15_, by kernel_rfl, hG9, fun _ => ⟨s13, A13, n13, c13, D13, m13, e13, rfl, m0⟩, fun h => by obtain ⟨s14, A14, n14, c14, D14, m14, e14, e_, m1'⟩ := H5_ (set_dep (by decide) h); exact ⟨s14, A14, n14, c14, D14, m14, e14, e_, m1'.below hb9⟩, fun h => by obtain ⟨s15, A15, n15, c15, D15, m15, e15, e_, m2'⟩ := H6_ (set_dep (by decide) h); exact ⟨s15, A15, n15, c15, D15, m15, e15, e_, m2'.below hb9⟩, fun h => by obtain ⟨s16, A16, n16, c16, D16, m16, e16, e_, m3'⟩ := H9_ (set_dep (by decide) h); exact ⟨s16, A16, n16, c16, D16, m16, e16, e_, m3'.below hb9⟩, fun h => by obtain ⟨s17, A17, n17, c17, D17, m17, e17, e_, m4'⟩ := H12_ (set_dep (by decide) h); exact ⟨s17, A17, n17, c17, D17, m17, e17, e_, m4'.below hb9⟩, fun h => by obtain ⟨s18, A18, n18, c18, D18, m18, e18, e_, m5'⟩ := H13_ (set_dep (by decide) h); exact ⟨s18, A18, n18, c18, D18, m18, e18, e_, m5'.below hb9⟩, fun h => by obtain ⟨s19, A19, n19, c19, D19, m19, e19, e_, gX'⟩ := H14_ (set_dep (by decide) h); exact ⟨s19, A19, n19, c19, D19, m19, e19, e_, gX'.below hb9⟩, fun h => by obtain ⟨g0_, e_, bx0', hl0'⟩ := H15_ (set_dep (by decide) h); exact ⟨g0_, e_, bx0'.below hb9, hl0'⟩⟩
        · rintro listed a wx ⟨y2_, y5_, y6_, y9_, y12_, y13_, y14_, y15_, rfl, hG, H2_, H5_, H6_, H9_, H12_, H13_, H14_, H15_⟩ hi K hK
          subst hA
          (try simp only [Act.put, List.setIfInBounds_toArray, List.set_cons_zero, List.set_cons_succ])
          go_simp
          go_at_call 84
          refine (gq_v (h5.below hG)).mono ?_
          rintro e X ⟨s14, A14, n14, c14, D14, m14, e14, rfl, m1, hb9⟩
          go_wp2_with fail
          have hG9 := hG.trans (hb9.mono hG.size)
          refine hK.out _ _ ((b0.below hG9).and6 ((b1.below hG9).all6)) ?_
          clear hK K
          exact ⟨y2_, _, y6_, y9_, y12_, y13_, y14_, y15_, by kernel_rfl, hG9, fun h => by obtain ⟨s13, A13, n13, c13, D13, m13, e13, e_, m0'⟩ := H2_ (set_dep (by decide) h); exact ⟨s13, A13, n13, c13, D13, m13, e13, e_, m0'.below hb9⟩, fun _ => ⟨s14, A14, n14, c14, D14, m14, e14, rfl, m1⟩, fun h => by obtain ⟨s15, A15, n15, c15, D15, m15, e15, e_, m2'⟩ := H6_ (set_dep (by decide) h); exact ⟨s15, A15, n15, c15, D15, m15, e15, e_, m2'.below hb9⟩, fun h => by obtain ⟨s16, A16, n16, c16, D16, m16, e16, e_, m3'⟩ := H9_ (set_dep (by decide) h); exact ⟨s16, A16, n16, c16, D16, m16, e16, e_, m3'.below hb9⟩, fun h => by obtain ⟨s17, A17, n17, c17, D17, m17, e17, e_, m4'⟩ := H12_ (set_dep (by decide) h); exact ⟨s17, A17, n17, c17, D17, m17, e17, e_, m4'.below hb9⟩, fun h => by obtain ⟨s18, A18, n18, c18, D18, m18, e18, e_, m5'⟩ := H13_ (set_dep (by decide) h); exact ⟨s18, A18, n18, c18, D18, m18, e18, e_, m5'.below hb9⟩, fun h => by obtain ⟨s19, A19, n19, c19, D19, m19, e19, e_, gX'⟩ := H14_ (set_dep (by decide) h); exact ⟨s19, A19, n19, c19, D19, m19, e19, e_, gX'.below hb9⟩, fun h => by obtain ⟨g0_, e_, bx0', hl0'⟩ := H15_ (set_dep (by decide) h); exact ⟨g0_, e_, bx0'.below hb9, hl0'⟩⟩
        · rintro listed a wx ⟨y2_, y5_, y6_, y9_, y12_, y13_, y14_, y15_, rfl, hG, H2_, H5_, H6_, H9_, H12_, H13_, H14_, H15_⟩ hi K hK
          have e2_ : listed.getD 2 false = true := ready_dep hi rfl 2 (by kernel_rfl)
          obtain ⟨s13, A13, n13, c13, D13, m13, e13, rfl, m0⟩ := H2_ e2_
          have e5_ : listed.getD 5 false = true := ready_dep hi rfl 5 (by kernel_rfl)
          obtain ⟨s14, A14, n14, c14, D14, m14, e14, rfl, m1⟩ := H5_ e5_
          subst hA
          (try simp only [Act.put, List.setIfInBounds_toArray, List.set_cons_zero, List.set_cons_succ])
          go_simp
          go_at_call 70
          refine (ntimes_v m0 m1 (by decide) (by decide)).mono ?_
          rintro e X ⟨s15, A15, n15, c15, D15, m15, e15, rfl, m2, hb9⟩
          go_wp2_with fail
          have hG9 := hG.trans (hb9.mono hG.size)
          refine hK.out _ _ ((b0.below hG9).and6 ((b1.below hG9).all6)) ?_
          clear hK K
          exact ⟨_, _, _, y9_, y12_, y13_, y14_, y15_, by kernel_rfl, hG9, fun _ => ⟨s13, A13, n13, c13, D13, m13, e13, rfl, m0.below hb9⟩, fun _ => ⟨s14, A14, n14, c14, D14, m14, e14, rfl, m1.below hb9⟩, fun _ => ⟨s15, A15, n15, c15, D15, m15, e15, rfl, m2⟩, fun h => by obtain ⟨s16, A16, n16, c16, D16, m16, e16, e_, m3'⟩ := H9_ (set_dep (by decide) h); exact ⟨s16, A16, n16, c16, D16, m16, e16, e_, m3'.below hb9⟩, fun h => by obtain ⟨s17, A17, n17, c17, D17, m17, e17, e_, m4'⟩ := H12_ (set_dep (by decide) h); exact ⟨s17, A17, n17, c17, D17, m17, e17, e_, m4'.below hb9⟩, fun h => by obtain ⟨s18, A18, n18, c18, D18, m18, e18, e_, m5'⟩ := H13_ (set_dep (by decide) h); exact ⟨s18, A18, n18, c18, D18, m18, e18, e_, m5'.below hb9⟩, fun h => by obtain ⟨s19, A19, n19, c19, D19, m19, e19, e_, gX'⟩ := H14_ (set_dep (by decide) h); exact ⟨s19, A19, n19, c19, D19, m19, e19, e_, gX'.below hb9⟩, fun h => by obtain ⟨g0_, e_, bx0', hl0'⟩ := H15_ (set_dep (by decide) h); exact ⟨g0_, e_, bx0'.below hb9, hl0'⟩⟩
        · rintro listed a wx ⟨y2_, y5_, y6_, y9_, y12_, y13_, y14_, y15_, rfl, hG, H2_, H5_, H6_, H9_, H12_, H13_, H14_, H15_⟩ hi K hK
          subst hA
          (try simp only [Act.put, List.setIfInBounds_toArray, List.set_cons_zero, List.set_cons_succ])
          go_simp
          go_at_call 84
          refine (gq_v (h4.below hG)).mono ?_
          rintro e X ⟨s16, A16, n16, c16, D16, m16, e16, rfl, m3, hb9⟩
          go_wp2_with fail
          have hG9 := hG.trans (hb9.mono hG.size)
          refine hK.out _ _ ((b0.below hG9).and6 ((b1.below hG9).all6)) ?_
          clear hK K
          exact ⟨y2_, y5_, y6_, _, y12_, y13_, y14_, y15_, by kernel_rfl, hG9, fun h => by obtain ⟨s13, A13, n13, c13, D13, m13, e13, e_, m0'⟩ := H2_ (set_dep (by decide) h); exact ⟨s13, A13, n13, c13, D13, m13, e13, e_, m0'.below hb9⟩, fun h => by obtain ⟨s14, A14, n14, c14, D14, m14, e14, e_, m1'⟩ := H5_ (set_dep (by decide) h); exact ⟨s14, A14, n14, c14, D14, m14, e14, e_, m1'.below hb9⟩, fun h => by obtain ⟨s15, A15, n15, c15, D15, m15, e15, e_, m2'⟩ := H6_ (set_dep (by decide) h); exact ⟨s15, A15, n15, c15, D15, m15, e15, e_, m2'.below hb9⟩, fun _ => ⟨s16, A16, n16, c16, D16, m16, e16, rfl, m3⟩, fun h => by obtain ⟨s17, A17, n17, c17, D17, m17, e17, e_, m4'⟩ := H12_ (set_dep (by decide) h); exact ⟨s17, A17, n17, c17, D17, m17, e17, e_, m4'.below hb9⟩, fun h => by obtain ⟨s18, A18, n18, c18, D18, m18, e18, e_, m5'⟩ := H13_ (set_dep (by decide) h); exact ⟨s18, A18, n18, c18, D18, m18, e18, e_, m5'.below hb9⟩, fun h => by obtain ⟨s19, A19, n19, c19, D19, m19, e19, e_, gX'⟩ := H14_ (set_dep (by decide) h); exact ⟨s19, A19, n19, c19, D19, m19, e19, e_, gX'.below hb9⟩, fun h => by obtain ⟨g0_, e_, bx0', hl0'⟩ := H15_ (set_dep (by decide) h); exact ⟨g0_, e_, bx0'.below hb9, hl0'⟩⟩
        · rintro listed a wx ⟨y2_, y5_, y6_, y9_, y12_, y13_, y14_, y15_, rfl, hG, H2_, H5_, H6_, H9_, H12_, H13_, H14_, H15_⟩ hi K hK
          subst hA
          (try simp only [Act.put, List.setIfInBounds_toArray, List.set_cons_zero, List.set_cons_succ])
          go_simp
          go_at_call 84
          refine (gq_v (h2.below hG)).mono ?_
          rintro e X ⟨s17, A17, n17, c17, D17, m17, e17, rfl, m4, hb9⟩
          go_wp2_with fail
          have hG9 := hG.trans (hb9.mono hG.size)
          refine hK.out _ _ ((b0.below hG9).and6 ((b1.below hG9).all6)) ?_
          clear hK K
          exact ⟨y2_, y5_, y6_, y9_, _, y13_, y14_, y15_, by kernel_rfl, hG9, fun h => by obtain ⟨s13, A13, n13, c13, D13, m13, e13, e_, m0'⟩ := H2_ (set_dep (by decide) h); exact ⟨s13, A13, n13, c13, D13, m13, e13, e_, m0'.below hb9⟩, fun h => by obtain ⟨s14, A14, n14, c14, D14, m14, e14, e_, m1'⟩ := H5_ (set_dep (by decide) h); exact ⟨s14, A14, n14, c14, D14, m14, e14, e_, m1'.below hb9⟩, fun h => by obtain ⟨s15, A15, n15, c15, D15, m15, e15, e_, m2'⟩ := H6_ (set_dep (by decide) h); exact ⟨s15, A15, n15, c15, D15, m15, e15, e_, m2'.below hb9⟩, fun h => by obtain ⟨s16, A16, n16, c16, D16, m16, e16, e_, m3'⟩ := H9_ (set_dep (by decide) h); exact ⟨s16, A16, n16, c16, D16, m16, e16, e_, m3'.below hb9⟩, fun _ => ⟨s17, A17, n17, c17, D17, m17, e17, rfl, m4⟩, fun h => by obtain ⟨s18, A18, n18, c18, D18, m18, e18, e_, m5'⟩ := H13_ (set_dep (by decide) h); exact ⟨s18, A18, n18, c18, D18, m18, e18, e_, m5'.below hb9⟩, fun h => by obtain ⟨s19, A19, n19, c19, D19, m19, e19, e_, gX'⟩ := H14_ (set_dep (by decide) h); exact ⟨s19, A19, n19, c19, D19, m19, e19, e_, gX'.below hb9⟩, fun h => by obtain ⟨g0_, e_, bx0', hl0'⟩ := H15_ (set_dep (by decide) h); exact ⟨g0_, e_, bx0'.below hb9, hl0'⟩⟩
        · rintro listed a wx ⟨y2_, y5_, y6_, y9_, y12_, y13_, y14_, y15_, rfl, hG, H2_, H5_, H6_, H9_, H12_, H13_, H14_, H15_⟩ hi K hK
          have e9_ : listed.getD 9 false = true := ready_dep hi rfl 9 (by kernel_rfl)
          obtain ⟨s16, A16, n16, c16, D16, m16, e16, rfl, m3⟩ := H9_ e9_
          have e12_ : listed.getD 12 false = true := ready_dep hi rfl 12 (by kernel_rfl)
          obtain ⟨s17, A17, n17, c17, D17, m17, e17, rfl, m4⟩ := H12_ e12_
          subst hA
          (try simp only [Act.put, List.setIfInBounds_toArray, List.set_cons_zero, List.set_cons_succ])
          go_simp
          go_at_call 70
          refine (ntimes_v m3 m4 (by decide) (by decide)).mono ?_
          rintro e X ⟨s18, A18, n18, c18, D18, m18, e18, rfl, m5, hb9⟩
          go_wp2_with fail
          have hG9 := hG.trans (hb9.mono hG.size)
          refine hK.out _ _ ((b0.below hG9).and6 ((b1.below hG9).all6)) ?_
          clear hK K
          exact ⟨y2_, y5_, y6_, _, _, _, y14_, y15_, by kernel_rfl, hG9, fun h => by obtain ⟨s13, A13, n13, c13, D13, m13, e13, e_, m0'⟩ := H2_ (set_dep (by decide) h); exact ⟨s13, A13, n13, c13, D13, m13, e13, e_, m0'.below hb9⟩, fun h => by obtain ⟨s14, A14, n14, c14, D14, m14, e14, e_, m1'⟩ := H5_ (set_dep (by decide) h); exact ⟨s14, A14, n14, c14, D14, m14, e14, e_, m1'.below hb9⟩, fun h => by obtain ⟨s15, A15, n15, c15, D15, m15, e15, e_, m2'⟩ := H6_ (set_dep (by decide) h); exact ⟨s15, A15, n15, c15, D15, m15, e15, e_, m2'.below hb9⟩, fun _ => ⟨s16, A16, n16, c16, D16, m16, e16, rfl, m3.below hb9⟩, fun _ => ⟨s17, A17, n17, c17, D17, m17, e17, rfl, m4.below hb9⟩, fun _ => ⟨s18, A18, n18, c18, D18, m18, e18, rfl, m5⟩, fun h => by obtain ⟨s19, A19, n19, c19, D19, m19, e19, e_, gX'⟩ := H14_ (set_dep (by decide) h); exact ⟨s19, A19, n19, c19, D19, m19, e19, e_, gX'.below hb9⟩, fun h => by obtain ⟨g0_, e_, bx0', hl0'⟩ := H15_ (set_dep (by decide) h); exact ⟨g0_, e_, bx0'.below hb9, hl0'⟩⟩
        · rintro listed a wx ⟨y2_, y5_, y6_, y9_, y12_, y13_, y14_, y15_, rfl, hG, H2_, H5_, H6_, H9_, H12_, H13_, H14_, H15_⟩ hi K hK
          have e6_ : listed.getD 6 false = true := ready_dep hi rfl 6 (by kernel_rfl)
          obtain ⟨s15, A15, n15, c15, D15, m15, e15, rfl, m2⟩ := H6_ e6_
          have e13_ : listed.getD 13 false = true := ready_dep hi rfl 13 (by kernel_rfl)
          obtain ⟨s18, A18, n18, c18, D18, m18, e18, rfl, m5⟩ := H13_ e13_
          subst hA
          (try simp only [Act.put, List.setIfInBounds_toArray, List.set_cons_zero, List.set_cons_succ])
          go_simp
          go_at_call 99
          refine (nqsub_v m2 m5 (by decide) (by decide)).mono ?_
          rintro e X ⟨s19, A19, n19, c19, D19, m19, e19, rfl, gX, hb9⟩
          go_wp2_with fail
          have hG9 := hG.trans (hb9.mono hG.size)
          refine hK.out _ _ ((b0.below hG9).and6 ((b1.below hG9).all6)) ?_
          clear hK K
          exact ⟨y2_, y5_, _, y9_, y12_, _, _, y15_, by kernel_rfl, hG9, fun h => by obtain ⟨s13, A13, n13, c13, D13, m13, e13, e_, m0'⟩ := H2_ (set_dep (by decide) h); exact ⟨s13, A13, n13, c13, D13, m13, e13, e_, m0'.below hb9⟩, fun h => by obtain ⟨s14, A14, n14, c14, D14, m14, e14, e_, m1'⟩ := H5_ (set_dep (by decide) h); exact ⟨s14, A14, n14, c14, D14, m14, e14, e_, m1'.below hb9⟩, fun _ => ⟨s15, A15, n15, c15, D15, m15, e15, rfl, m2.below hb9⟩, fun h => by obtain ⟨s16, A16, n16, c16, D16, m16, e16, e_, m3'⟩ := H9_ (set_dep (by decide) h); exact ⟨s16, A16, n16, c16, D16, m16, e16, e_, m3'.below hb9⟩, fun h => by obtain ⟨s17, A17, n17, c17, D17, m17, e17, e_, m4'⟩ := H12_ (set_dep (by decide) h); exact ⟨s17, A17, n17, c17, D17, m17, e17, e_, m4'.below hb9⟩, fun _ => ⟨s18, A18, n18, c18, D18, m18, e18, rfl, m5.below hb9⟩, fun _ => ⟨s19, A19, n19, c19, D19, m19, e19, rfl, gX⟩, fun h => by obtain ⟨g0_, e_, bx0', hl0'⟩ := H15_ (set_dep (by decide) h); exact ⟨g0_, e_, bx0'.below hb9, hl0'⟩⟩
        · rintro listed a wx ⟨y2_, y5_, y6_, y9_, y12_, y13_, y14_, y15_, rfl, hG, H2_, H5_, H6_, H9_, H12_, H13_, H14_, H15_⟩ hi K hK
          subst hA
          (try simp only [Act.put, List.setIfInBounds_toArray, List.set_cons_zero, List.set_cons_succ])
          go_simp
          obtain ⟨X, hV, bx0, hb9, sz9⟩ := boxes1 wx #[.bool false, .slice none 0 0, .slice none 0 0] 46
          rw [hV]
          clear hV
          have hl0 : w501.heap.size ≤ wx.heap.size := hG.size
          have hG9 := hG.trans (hb9.mono hG.size)
          refine hK.out _ _ ((b0.below hG9).and6 ((b1.below hG9).all6)) ?_
          clear hK K
          exact ⟨y2_, y5_, y6_, y9_, y12_, y13_, y14_, _, by kernel_rfl, hG9, fun h => by obtain ⟨s13, A13, n13, c13, D13, m13, e13, e_, m0'⟩ := H2_ (set_dep (by decide) h); exact ⟨s13, A13, n13, c13, D13, m13, e13, e_, m0'.below hb9⟩, fun h => by obtain ⟨s14, A14, n14, c14, D14, m14, e14, e_, m1'⟩ := H5_ (set_dep (by decide) h); exact ⟨s14, A14, n14, c14, D14, m14, e14, e_, m1'.below hb9⟩, fun h => by obtain ⟨s15, A15, n15, c15, D15, m15, e15, e_, m2'⟩ := H6_ (set_dep (by decide) h); exact ⟨s15, A15, n15, c15, D15, m15, e15, e_, m2'.below hb9⟩, fun h => by obtain ⟨s16, A16, n16, c16, D16, m16, e16, e_, m3'⟩ := H9_ (set_dep (by decide) h); exact ⟨s16, A16, n16, c16, D16, m16, e16, e_, m3'.below hb9⟩, fun h => by obtain ⟨s17, A17, n17, c17, D17, m17, e17, e_, m4'⟩ := H12_ (set_dep (by decide) h); exact ⟨s17, A17, n17, c17, D17, m17, e17, e_, m4'.below hb9⟩, fun h => by obtain ⟨s18, A18, n18, c18, D18, m18, e18, e_, m5'⟩ := H13_ (set_dep (by decide) h); exact ⟨s18, A18, n18, c18, D18, m18, e18, e_, m5'.below hb9⟩, fun h => by obtain ⟨s19, A19, n19, c19, D19, m19, e19, e_, gX'⟩ := H14_ (set_dep (by decide) h); exact ⟨s19, A19, n19, c19, D19, m19, e19, e_, gX'.below hb9⟩, fun _ => ⟨_, rfl, bx0, hl0⟩⟩
      · rintro a wf ⟨y2_, y5_, y6_, y9_, y12_, y13_, y14_, y15_, rfl, hG, H2_, H5_, H6_, H9_, H12_, H13_, H14_, H15_⟩
        obtain ⟨s13, A13, n13, c13, D13, m13, e13, rfl, m0⟩ := H2_ rfl
        obtain ⟨s14, A14, n14, c14, D14, m14, e14, rfl, m1⟩ := H5_ rfl
        obtain ⟨s15, A15, n15, c15, D15, m15, e15, rfl, m2⟩ := H6_ rfl
        obtain ⟨s16, A16, n16, c16, D16, m16, e16, rfl, m3⟩ := H9_ rfl
        obtain ⟨s17, A17, n17, c17, D17, m17, e17, rfl, m4⟩ := H12_ rfl
        obtain ⟨s18, A18, n18, c18, D18, m18, e18, rfl, m5⟩ := H13_ rfl
        obtain ⟨s19, A19, n19, c19, D19, m19, e19, rfl, gX⟩ := H14_ rfl
        obtain ⟨g0_, rfl, bx0, hl0⟩ := H15_ rfl
        subst hA
        (try simp only [Act.put, List.setIfInBounds_toArray, List.set_cons_zero, List.set_cons_succ])
        have H0 := hG
        obtain ⟨cbx00, ybx00, cbx01, ybx01, cbx02, ybx02⟩ := bx0.cf3
        refine wpAnyF_last (i := 16) (by kernel_rfl) rfl rfl (fun K hK => ?_)
        go_simp
        refine hK.out _ _ ?_
        clear hK K
        (try simp only [List.setIfInBounds_toArray, List.set_cons_zero, List.set_cons_succ])
        clear cbx00 ybx00 cbx01 ybx01 cbx02 ybx02
        have hg := only_store3 wf (g0_) (.bool s19) (.slice A19 n19 c19) (.slice D19 m19 e19)
        have hB := bx0.stored3 (.bool s19) (.slice A19 n19 c19) (.slice D19 m19 e19)
        generalize hX : (((wf.setCell ⟨g0_, 0, none⟩ (.bool s19)).setCell ⟨g0_, 1, none⟩ (.slice A19 n19 c19)).setCell ⟨g0_, 2, none⟩ (.slice D19 m19 e19)) = X553 at hg hB ⊢
        clear hX
        replace gX := gX.kept bx0 (by simp [notInt]) hg
        replace bx0 := hB
        replace H0 := below_only H0 hg (by omega) H0.size
        clear hg hB
        refine wpAny_done (by kernel_rfl) ?_ _
        refine NoPanic.normal ?_
        go_wp2_with fail
        go_meet
        exact ⟨g0_, s19, A19, n19, c19, D19, m19, e19, rfl, gX, bx0, hl0, H0⟩
    case rest =>
      obtain ⟨g80, s19, A19, n19, c19, D19, m19, e19, rfl, gX, b7, ml0, hG⟩ := hcut
      replace h0 := h0.below hG
      replace h1 := h1.below hG
      replace h2 := h2.below hG
      replace h3 := h3.below hG
      replace h4 := h4.below hG
      replace h5 := h5.below hG
      replace gD := gD.below hG
      replace b0 := b0.below hG
      replace b1 := b1.below hG
      replace b9 := b9.below hG
      replace b6 := b6.below hG
      replace H0 := H0.trans (hG.mono H0.size)
      clear hG
      go_wp2_with fail
      have lkb0 := b0.lt
      have lkb1 := b1.lt
      have lkb9 := b9.lt
      have lkb6 := b6.lt
      have lkb7 := b7.lt
      go_cut [8] from 9 (fun s_8 wx => ∃ g90 s20 A20 n20 c20 D20 m20 e20, s_8 = .pointer (some ⟨g90, 0, none⟩) ∧ PQ wx s20 (.slice A20 n20 c20) (.slice D20 m20 e20) ((z3 : Rat) * (z2 : Rat) - (z0 : Rat) * (z5 : Rat)) (max (max 4 1 + max 4 1 + 1) 1 + max (max 4 1 + max 4 1 + 1) 1 + 1) ∧ Box wx g90 #[.bool s20, .slice A20 n20 c20, .slice D20 m20 e20] 46 ∧ wc.heap.size ≤ g90 ∧ Below wc.heap.size wc wx)
      case first =>
        have lcb0_1002 := b0.lt
        have lcb1_1002 := b1.lt
        have lcb9_1002 := b9.lt
        have lcb6_1002 := b6.lt
        have lcb7_1002 := b7.lt
        have hG := drawn_below wc
        refine wp_region_noPanic ?_
        refine wp_region_anyd (by kernel_rfl) ?_
        generalize wc.drew = v1002 at hG ⊢
        refine wpAny_take (i := 0) (v := ?_) rfl (by kernel_rfl) (by kernel_rfl) (by kernel_rfl) (fun _ _ _ h => h) (Or.inl ⟨by rfl, ?_⟩) ?_
        rotate_left
        · (intro w; go_simp; (try with_reducible rfl))
        (try simp only [getElem_toArray, getElem_cons_zero, Act.put, setIfInBounds_toArray, set_cons_zero, set_cons_succ])
        refine wpAny_take (i := 3) (v := ?_) rfl (by kernel_rfl) (by kernel_rfl) (by kernel_rfl) (fun _ _ _ h => h) (Or.inl ⟨by rfl, ?_⟩) ?_
        rotate_left
        · (intro w; go_simp; (try with_reducible rfl))
        (try simp only [getElem_toArray, getElem_cons_succ, getElem_cons_zero, Act.put, setIfInBounds_toArray, set_cons_zero, set_cons_succ])
        refine wpAny_take (i := 7) (v := ?_) rfl (by kernel_rfl) (by kernel_rfl) (by kernel_rfl) (fun _ _ _ h => h) (Or.inl ⟨by rfl, ?_⟩) ?_
        rotate_left
        · (intro w; go_simp; (try with_reducible rfl))
        (try simp only [getElem_toArray, getElem_cons_succ, getElem_cons_zero, Act.put, setIfInBounds_toArray, set_cons_zero, set_cons_succ])
        refine wpAny_take (i := 10) (v := ?_) rfl (by kernel_rfl) (by kernel_rfl) (by kernel_rfl) (fun _ _ _ h => h) (Or.inl ⟨by rfl, ?_⟩) ?_
        rotate_left
        · (intro w; go_simp; (try with_reducible rfl))
        (try simp only [getElem_toArray, getElem_cons_succ, getElem_cons_zero, Act.put, setIfInBounds_toArray, set_cons_zero, set_cons_succ])
        refine wpAny_of_F (S := (fun V => V.cell? ⟨w.heap.size, 0, none⟩ = some (.bool s0) ∧ V.cell? ⟨w.heap.size, 1, none⟩ = some (.slice A0 n0 c0) ∧ V.cell? ⟨w.heap.size, 2, none⟩ = some (.bool s1) ∧ V.cell? ⟨w.heap.size, 3, none⟩ = some (.slice A1 n1 c1) ∧ V.cell? ⟨w.heap.size, 4, none⟩ = some (.bool s2) ∧ V.cell? ⟨w.heap.size, 5, none⟩ = some (.slice A2 n2 c2) ∧ V.cell? ⟨w.heap.size + 1, 0, none⟩ = some (.bool s3) ∧ V.cell? ⟨w.heap.size + 1, 1, none⟩ = some (.slice A3 n3 c3) ∧ V.cell? ⟨w.heap.size + 1, 2, none⟩ = some (.bool s4) ∧ V.cell? ⟨w.heap.size + 1, 3, none⟩ = some (.slice A4 n4 c4) ∧ V.cell? ⟨w.heap.size + 1, 4, none⟩ = some (.bool s5) ∧ V.cell? ⟨w.heap.size + 1, 5, none⟩ = some (.slice A5 n5 c5))) (F := (fun j => j == 16)) _ _ _ _ ?_
        refine wpAnyF_take (i := 1) (v := ?_) (fun j => j == 2 || j == 5 || j == 6 || j == 9 || j == 12 || j == 13 || j == 14 || j == 16) rfl (by kernel_rfl) (by kernel_rfl) (by kernel_rfl) (by kernel_rfl) (fun j hj => by have h6 : 17 ≤ j := hj; simp; omega) (fun _ _ _ h => h) (Or.inl ⟨by rfl, ?_⟩) ((b0.below hG).and6 ((b1.below hG).all6)) ?_
        rotate_left
        · (intro w hSw; (try dsimp only at hSw); go_simp; (try with_reducible rfl))
        (try simp only [getElem_toArray, getElem_cons_succ, getElem_cons_zero, Act.put, setIfInBounds_toArray, set_cons_zero, set_cons_succ])
        refine wpAnyF_take (i := 4) (v := ?_) (fun j => j == 5 || j == 6 || j == 9 || j == 12 || j == 13 || j == 14 || j == 16) rfl (by kernel_rfl) (by kernel_rfl) (by kernel_rfl) (by kernel_rfl) (fun j hj => by have h6 : 17 ≤ j := hj; simp; omega) (fun _ _ _ h => h) (Or.inl ⟨by rfl, ?_⟩) ((b0.below hG).and6 ((b1.below hG).all6)) ?_
        rotate_left
        · (intro w hSw; (try dsimp only at hSw); go_simp; (try with_reducible rfl))
        (try simp only [getElem_toArray, getElem_cons_succ, getElem_cons_zero, Act.put, setIfInBounds_toArray, set_cons_zero, set_cons_succ])
        refine wpAnyF_take (i := 8) (v := ?_) (fun j => j == 9 || j == 12 || j == 13 || j == 14 || j == 16) rfl (by kernel_rfl) (by kernel_rfl) (by kernel_rfl) (by kernel_rfl) (fun j hj => by have h6 : 17 ≤ j := hj; simp; omega) (fun _ _ _ h => h) (Or.inl ⟨by rfl, ?_⟩) ((b0.below hG).and6 ((b1.below hG).all6)) ?_
        rotate_left
        · (intro w hSw; (try dsimp only at hSw); go_simp; (try with_reducible rfl))
        (try simp only [getElem_toArray, getElem_cons_succ, getElem_cons_zero, Act.put, setIfInBounds_toArray, set_cons_zero, set_cons_succ])
        refine wpAnyF_take (i := 11) (v := ?_) (fun j => j == 12 || j == 13 || j == 14 || j == 16) rfl (by kernel_rfl) (by kernel_rfl) (by kernel_rfl) (by kernel_rfl) (fun j hj => by have h6 : 17 ≤ j := hj; simp; omega) (fun _ _ _ h => h) (Or.inl ⟨by rfl, ?_⟩) ((b0.below hG).and6 ((b1.below hG).all6)) ?_
        rotate_left
        · (intro w hSw; (try dsimp only at hSw); go_simp; (try with_reducible rfl))
        (try simp only [getElem_toArray, getElem_cons_succ, getElem_cons_zero, Act.put, setIfInBounds_toArray, set_cons_zero, set_cons_succ])
        refine wpAnyF_name (n' := 9) (l' := #[true, true, false, true, true, false, false, true, true, false, true, true, false, false, false, false, false]) (by kernel_rfl) (by kernel_rfl) (fun Ac_ hA => ?_)
        refine wpAnyF_phase (rs := [2, 5, 6, 9, 12, 13, 14, 15]) (full := #[true, true, true, true, true, true, true, true, true, true, true, true, true, true, true, true, false]) (states := [#[true, true, false, true, true, false, false, true, true, false, true, true, false, false, false, false, false], #[true, true, true, true, true, false, false, true, true, false, true, true, false, false, false, false, false], #[true, true, false, true, true, false, false, true, true, false, true, true, false, false, false, true, false], #[true, true, true, true, true, false, false, true, true, false, true, true, false, false, false, true, false], #[true, true, true, true, true, true, false, true, true, false, true, true, false, false, false, true, false], #[true, true, true, true, true, true, true, true, true, false, true, true, false, false, false, true, false], #[true, true, true, true, true, true, true, true, true, true, true, true, false, false, false, true, false], #[true, true, true, true, true, true, true, true, true, true, true, true, true, false, false, true, false], #[true, true, true, true, true, true, true, true, true, true, true, true, true, true, false, true, false], #[true, true, true, true, true, true, true, true, true, true, true, true, true, true, true, true, false], #[true, true, true, true, true, true, false, true, true, false, true, true, false, false, false, false, false], #[true, true, true, true, true, true, true, true, true, false, true, true, false, false, false, false, false], #[true, true, true, true, true, true, true, true, true, true, true, true, false, false, false, false, false], #[true, true, true, true, true, true, true, true, true, true, true, true, true, false, false, false, false], #[true, true, true, true, true, true, true, true, true, true, true, true, true, true, false, false, false], #[true, true, true, true, true, true, true, true, true, true, true, true, true, true, true, false, false]]) (k := 1) (I := fun listed a w => ∃ (y2_ y5_ y6_ y9_ y12_ y13_ y14_ y15_ : Value), a = ((((((((Ac_.put (some 45) y2_).put (some 48) y5_).put (some 49) y6_).put (some 52) y9_).put (some 55) y12_).put (some 56) y13_).put (some 57) y14_).put (some 8) y15_) ∧ Below wc.heap.size wc w ∧ (listed.getD 2 false = true → ∃ s13 A13 n13 c13 D13 m13 e13, y2_ = .agg #[.bool s13, .slice A13 n13 c13, .slice D13 m13 e13] ∧ PQ w s13 (.slice A13 n13 c13) (.slice D13 m13 e13) (z3 : Rat) 4) ∧ (listed.getD 5 false = true → ∃ s14 A14 n14 c14 D14 m14 e14, y5_ = .agg #[.bool s14, .slice A14 n14 c14, .slice D14 m14 e14] ∧ PQ w s14 (.slice A14 n14 c14) (.slice D14 m14 e14) (z2 : Rat) 4) ∧ (listed.getD 6 false = true → ∃ s15 A15 n15 c15 D15 m15 e15, y6_ = .agg #[.bool s15, .slice A15 n15 c15, .slice D15 m15 e15] ∧ PQ w s15 (.slice A15 n15 c15) (.slice D15 m15 e15) ((z3 : Rat) * (z2 : Rat)) (max 4 1 + max 4 1 + 1)) ∧ (listed.getD 9 false = true → ∃ s16 A16 n16 c16 D16 m16 e16, y9_ = .agg #[.bool s16, .slice A16 n16 c16, .slice D16 m16 e16] ∧ PQ w s16 (.slice A16 n16 c16) (.slice D16 m16 e16) (z0 : Rat) 4) ∧ (listed.getD 12 false = true → ∃ s17 A17 n17 c17 D17 m17 e17, y12_ = .agg #[.bool s17, .slice A17 n17 c17, .slice D17 m17 e17] ∧ PQ w s17 (.slice A17 n17 c17) (.slice D17 m17 e17) (z5 : Rat) 4) ∧ (listed.getD 13 false = true → ∃ s18 A18 n18 c18 D18 m18 e18, y13_ = .agg #[.bool s18, .slice A18 n18 c18, .slice D18 m18 e18] ∧ PQ w s18 (.slice A18 n18 c18) (.slice D18 m18 e18) ((z0 : Rat) * (z5 : Rat)) (max 4 1 + max 4 1 + 1)) ∧ (listed.getD 14 false = true → ∃ s20 A20 n20 c20 D20 m20 e20, y14_ = .agg #[.bool s20, .slice A20 n20 c20, .slice D20 m20 e20] ∧ PQ w s20 (.slice A20 n20 c20) (.slice D20 m20 e20) ((z3 : Rat) * (z2 : Rat) - (z0 : Rat) * (z5 : Rat)) (max (max 4 1 + max 4 1 + 1) 1 + max (max 4 1 + max 4 1 + 1) 1 + 1)) ∧ (listed.getD 15 false = true → ∃ g0_, y15_ = .pointer (some ⟨g0_, 0, none⟩) ∧ Box w g0_ #[.bool false, .slice none 0 0, .slice none 0 0] 46 ∧ wc.heap.size ≤ g0_)) (by kernel_rfl) (by kernel_rfl) ?_ ?_ _ _ _ _ (by kernel_rfl) (by kernel_rfl) ⟨Ac_.tmps.getD 45 undef, Ac_.tmps.getD 48 undef, Ac_.tmps.getD 49 undef, Ac_.tmps.getD 52 undef, Ac_.tmps.getD 55 undef, Ac_.tmps.getD 56 undef, Ac_.tmps.getD 57 undef, Ac_.tmps.getD 8 undef, by subst hA; kernel_rfl, hG, fun h => (by cases h), fun h => (by cases h), fun h => (by cases h), fun h => (by cases h), fun h => (by cases h), fun h => (by cases h), fun h => (by cases h), fun h => (by cases h)⟩
        · refine (AllStepsF.cons (i := 2) (o := _) rfl rfl ?_ (AllStepsF.cons (i := 5) (o := _) rfl rfl ?_ (AllStepsF.cons (i := 6) (o := _) rfl rfl ?_ (AllStepsF.cons (i := 9) (o := _) rfl rfl ?_ (AllStepsF.cons (i := 12) (o := _) rfl rfl ?_ (AllStepsF.cons (i := 13) (o := _) rfl rfl ?_ (AllStepsF.cons (i := 14) (o := _) rfl rfl ?_ (AllStepsF.cons (i := 15) (o := _) rfl rfl ?_ AllStepsF.nil))))))))
          · rintro listed a wx ⟨y2_, y5_, y6_, y9_, y12_, y13_, y14_, y15_, rfl, hG, H2_, H5_, H6_, H9_, H12_, H13_, H14_, H15_⟩ hi K hK
            subst hA
            (try simp only [Act.put, List.setIfInBounds_toArray, List.set_cons_zero, List.set_cons_succ])
            go_simp
            go_at_call 84
            refine (gq_v (h3.below hG)).mono ?_
            rintro e X ⟨s13, A13, n13, c13, D13, m13, e13, rfl, m0, hb9⟩
            go_wp2_with fail
            have hG9 := hG.trans (hb9.mono hG.size)
            refine hK.out _ _ ((b0.below hG9).and6 ((b1.below hG9).all6)) ?_
            clear hK K
            exact ⟨_, y5_, y6_, y9_, y12_, y13_, y14_, y15_, by kernel_rfl, hG9, fun _ => ⟨s13, A13, n13, c13, D13, m13, e13, rfl, m0⟩, fun h => by obtain ⟨s14, A14, n14, c14, D14, m14, e14, e_, m1'⟩ := H5_ (set_dep (by decide) h); exact ⟨s14, A14, n14, c14, D14, m14, e14, e_, m1'.below hb9⟩, fun h => by obtain ⟨s15, A15, n15, c15, D15, m15, e15, e_, m2'⟩ := H6_ (set_dep (by decide) h); exact ⟨s15, A15, n15, c15, D15, m15, e15, e_, m2'.below hb9⟩, fun h => by obtain ⟨s16, A16, n16, c16, D16, m16, e16, e_, m3'⟩ := H9_ (set_dep (by decide) h); exact ⟨s16, A16, n16, c16, D16, m16, e16, e_, m3'.below hb9⟩, fun h => by obtain ⟨s17, A17, n17, c17, D17, m17, e17, e_, m4'⟩ := H12_ (set_dep (by decide) h); exact ⟨s17, A17, n17, c17, D17, m17, e17, e_, m4'.below hb9⟩, fun h => by obtain ⟨s18, A18, n18, c18, D18, m18, e18, e_, m5'⟩ := H13_ (set_dep (by decide) h); exact ⟨s18, A18, n18, c18, D18, m18, e18, e_, m5'.below hb9⟩, fun h => by obtain ⟨s20, A20, n20, c20, D20, m20, e20, e_, gY'⟩ := H14_ (set_dep (by decide) h); exact ⟨s20, A20, n20, c20, D20, m20, e20, e_, gY'.below hb9⟩, fun h => by obtain ⟨g0_, e_, bx0', hl0'⟩ := H15_ (set_dep (by decide) h); exact ⟨g0_, e_, bx0'.below hb9, hl0'⟩⟩
          · rintro listed a wx ⟨y2_, y5_, y6_, y9_, y12_, y13_, y14_, y15_, rfl, hG, H2_, H5_, H6_, H9_, H12_, H13_, H14_, H15_⟩ hi K hK
            subst hA
            (try simp only [Act.put, List.setIfInBounds_toArray, List.set_cons_zero, List.set_cons_succ])
            go_simp
            go_at_call 84
            refine (gq_v (h2.below hG)).mono ?_
            rintro e X ⟨s14, A14, n14, c14, D14, m14, e14, rfl, m1, hb9⟩
            go_wp2_with fail
            have hG9 := hG.trans (hb9.mono hG.size)
            refine hK.out _ _ ((b0.below hG9).and6 ((b1.below hG9).all6)) ?_
            clear hK K
            exact ⟨y2_, _, y6_, y9_, y12_, y13_, y14_, y15_, by kernel_rfl, hG9, fun h => by obtain ⟨s13, A13, n13, c13, D13, m13, e13, e_, m0'⟩ := H2_ (set_dep (by decide) h); exact ⟨s13, A13, n13, c13, D13, m13, e13, e_, m0'.below hb9⟩, fun _ => ⟨s14, A14, n14, c14, D14, m14, e14, rfl, m1⟩, fun h => by obtain ⟨s15, A15, n15, c15, D15, m15, e15, e_, m2'⟩ := H6_ (set_dep (by decide) h); exact ⟨s15, A15, n15, c15, D15, m15, e15, e_, m2'.below hb9⟩, fun h => by obtain ⟨s16, A16, n16, c16, D16, m16, e16, e_, m3'⟩ := H9_ (set_dep (by decide) h); exact ⟨s16, A16, n16, c16, D16, m16, e16, e_, m3'.below hb9⟩, fun h => by obtain ⟨s17, A17, n17, c17, D17, m17, e17, e_, m4'⟩ := H12_ (set_dep (by decide) h); exact ⟨s17, A17, n17, c17, D17, m17, e17, e_, m4'.below hb9⟩, fun h => by obtain ⟨s18, A18, n18, c18, D18, m18, e18, e_, m5'⟩ := H13_ (set_dep (by decide) h); exact ⟨s18, A18, n18, c18, D18, m18, e18, e_, m5'.below hb9⟩, fun h => by obtain ⟨s20, A20, n20, c20, D20, m20, e20, e_, gY'⟩ := H14_ (set_dep (by decide) h); exact ⟨s20, A20, n20, c20, D20, m20, e20, e_, gY'.below hb9⟩, fun h => by obtain ⟨g0_, e_, bx0', hl0'⟩ := H15_ (set_dep (by decide) h); exact ⟨g0_, e_, bx0'.below hb9, hl0'⟩⟩
          · rintro listed a wx ⟨y2_, y5_, y6_, y9_, y12_, y13_, y14_, y15_, rfl, hG, H2_, H5_, H6_, H9_, H12_, H13_, H14_, H15_⟩ hi K hK
            have e2_ : listed.getD 2 false = true := ready_dep hi rfl 2 (by kernel_rfl)
            obtain ⟨s13, A13, n13, c13, D13, m13, e13, rfl, m0⟩ := H2_ e2_
            have e5_ : listed.getD 5 false = true := ready_dep hi rfl 5 (by kernel_rfl)
            obtain ⟨s14, A14, n14, c14, D14, m14, e14, rfl, m1⟩ := H5_ e5_
            subst hA
            (try simp only [Act.put, List.setIfInBounds_toArray, List.set_cons_zero, List.set_cons_succ])
            go_simp
            go_at_call 70
            refine (ntimes_v m0 m1 (by decide) (by decide)).mono ?_
            rintro e X ⟨s15, A15, n15, c15, D15, m15, e15, rfl, m2, hb9⟩
            go_wp2_with fail
            have hG9 := hG.trans (hb9.mono hG.size)
            refine hK.out _ _ ((b0.below hG9).and6 ((b1.below hG9).all6)) ?_
            clear hK K
            exact ⟨_, _, _, y9_, y12_, y13_, y14_, y15_, by kernel_rfl, hG9, fun _ => ⟨s13, A13, n13, c13, D13, m13, e13, rfl, m0.below hb9⟩, fun _ => ⟨s14, A14, n14, c14, D14, m14, e14, rfl, m1.below hb9⟩, fun _ => ⟨s15, A15, n15, c15, D15, m15, e15, rfl, m2⟩, fun h => by obtain ⟨s16, A16, n16, c16, D16, m16, e16, e_, m3'⟩ := H9_ (set_dep (by decide) h); exact ⟨s16, A16, n16, c16, D16, m16, e16, e_, m3'.below hb9⟩, fun h => by obtain ⟨s17, A17, n17, c17, D17, m17, e17, e_, m4'⟩ := H12_ (set_dep (by decide) h); exact ⟨s17, A17, n17, c17, D17, m17, e17, e_, m4'.below hb9⟩, fun h => by obtain ⟨s18, A18, n18, c18, D18, m18, e18, e_, m5'⟩ := H13_ (set_dep (by decide) h); exact ⟨s18, A18, n18, c18, D18, m18, e18, e_, m5'.below hb9⟩, fun h => by obtain ⟨s20, A20, n20, c20, D20, m20, e20, e_, gY'⟩ := H14_ (set_dep (by decide) h); exact ⟨s20, A20, n20, c20, D20, m20, e20, e_, gY'.below hb9⟩, fun h => by obtain ⟨g0_, e_, bx0', hl0'⟩ := H15_ (set_dep (by decide) h); exact ⟨g0_, e_, bx0'.below hb9, hl0'⟩⟩
          · rintro listed a wx ⟨y2_, y5_, y6_, y9_, y12_, y13_, y14_, y15_, rfl, hG, H2_, H5_, H6_, H9_, H12_, H13_, H14_, H15_⟩ hi K hK
            subst hA
            (try simp only [Act.put, List.setIfInBounds_toArray, List.set_cons_zero, List.set_cons_succ])
            go_simp
            go_at_call 84
            refine (gq_v (h0.below hG)).mono ?_
            rintro e X ⟨s16, A16, n16, c16, D16, m16, e16, rfl, m3, hb9⟩
            go_wp2_with fail
            have hG9 := hG.trans (hb9.mono hG.size)
            refine hK.out _ _ ((b0.below hG9).and6 ((b1.below hG9).all6)) ?_
            clear hK K
            exact ⟨y2_, y5_, y6_, _, y12_, y13_, y14_, y15_, by kernel_rfl, hG9, fun h => by obtain ⟨s13, A13, n13, c13, D13, m13, e13, e_, m0'⟩ := H2_ (set_dep (by decide) h); exact ⟨s13, A13, n13, c13, D13, m13, e13, e_, m0'.below hb9⟩, fun h => by obtain ⟨s14, A14, n14, c14, D14, m14, e14, e_, m1'⟩ := H5_ (set_dep (by decide) h); exact ⟨s14, A14, n14, c14, D14, m14, e14, e_, m1'.below hb9⟩, fun h => by obtain ⟨s15, A15, n15, c15, D15, m15, e15, e_, m2'⟩ := H6_ (set_dep (by decide) h); exact ⟨s15, A15, n15, c15, D15, m15, e15, e_, m2'.below hb9⟩, fun _ => ⟨s16, A16, n16, c16, D16, m16, e16, rfl, m3⟩, fun h => by obtain ⟨s17, A17, n17, c17, D17, m17, e17, e_, m4'⟩ := H12_ (set_dep (by decide) h); exact ⟨s17, A17, n17, c17, D17, m17, e17, e_, m4'.below hb9⟩, fun h => by obtain ⟨s18, A18, n18, c18, D18, m18, e18, e_, m5'⟩ := H13_ (set_dep (by decide) h); exact ⟨s18, A18, n18, c18, D18, m18, e18, e_, m5'.below hb9⟩, fun h => by obtain ⟨s20, A20, n20, c20, D20, m20, e20, e_, gY'⟩ := H14_ (set_dep (by decide) h); exact ⟨s20, A20, n20, c20, D20, m20, e20, e_, gY'.below hb9⟩, fun h => by obtain ⟨g0_, e_, bx0', hl0'⟩ := H15_ (set_dep (by decide) h); exact ⟨g0_, e_, bx0'.below hb9, hl0'⟩⟩
          · rintro listed a wx ⟨y2_, y5_, y6_, y9_, y12_, y13_, y14_, y15_, rfl, hG, H2_, H5_, H6_, H9_, H12_, H13_, H14_, H15_⟩ hi K hK
            subst hA
            (try simp only [Act.put, List.setIfInBounds_toArray, List.set_cons_zero, List.set_cons_succ])
            go_simp
            go_at_call 84
            refine (gq_v (h5.below hG)).mono ?_
            rintro e X ⟨s17, A17, n17, c17, D17, m17, e17, rfl, m4, hb9⟩
            go_wp2_with fail
            have hG9 := hG.trans (hb9.mono hG.size)
            refine hK.out _ _ ((b0.below hG9).and6 ((b1.below hG9).all6)) ?_
            clear hK K
            exact ⟨y2_, y5_, y6_, y9_, _, y13_, y14_, y15_, by kernel_rfl, hG9, fun h => by obtain ⟨s13, A13, n13, c13, D13, m13, e13, e_, m0'⟩ := H2_ (set_dep (by decide) h); exact ⟨s13, A13, n13, c13, D13, m13, e13, e_, m0'.below hb9⟩, fun h => by obtain ⟨s14, A14, n14, c14, D14, m14, e14, e_, m1'⟩ := H5_ (set_dep (by decide) h); exact ⟨s14, A14, n14, c14, D14, m14, e14, e_, m1'.below hb9⟩, fun h => by obtain ⟨s15, A15, n15, c15, D15, m15, e15, e_, m2'⟩ := H6_ (set_dep (by decide) h); exact ⟨s15, A15, n15, c15, D15, m15, e15, e_, m2'.below hb9⟩, fun h => by obtain ⟨s16, A16, n16, c16, D16, m16, e16, e_, m3'⟩ := H9_ (set_dep (by decide) h); exact ⟨s16, A16, n16, c16, D16, m16, e16, e_, m3'.below hb9⟩, fun _ => ⟨s17, A17, n17, c17, D17, m17, e17, rfl, m4⟩, fun h => by obtain ⟨s18, A18, n18, c18, D18, m18, e18, e_, m5'⟩ := H13_ (set_dep (by decide) h); exact ⟨s18, A18, n18, c18, D18, m18, e18, e_, m5'.below hb9⟩, fun h => by obtain ⟨s20, A20, n20, c20, D20, m20, e20, e_, gY'⟩ := H14_ (set_dep (by decide) h); exact ⟨s20, A20, n20, c20, D20, m20, e20, e_, gY'.below hb9⟩, fun h => by obtain ⟨g0_, e_, bx0', hl0'⟩ := H15_ (set_dep (by decide) h); exact ⟨g0_, e_, bx0'.below hb9, hl0'⟩⟩
          · rintro listed a wx ⟨y2_, y5_, y6_, y9_, y12_, y13_, y14_, y15_, rfl, hG, H2_, H5_, H6_, H9_, H12_, H13_, H14_, H15_⟩ hi K hK
            have e9_ : listed.getD 9 false = true := ready_dep hi rfl 9 (by kernel_rfl)
            obtain ⟨s16, A16, n16, c16, D16, m16, e16, rfl, m3⟩ := H9_ e9_
            have e12_ : listed.getD 12 false = true := ready_dep hi rfl 12 (by kernel_rfl)
            obtain ⟨s17, A17, n17, c17, D17, m17, e17, rfl, m4⟩ := H12_ e12_
            subst hA
            (try simp only [Act.put, List.setIfInBounds_toArray, List.set_cons_zero, List.set_cons_succ])
            go_simp
            go_at_call 70
            refine (ntimes_v m3 m4 (by decide) (by decide)).mono ?_
            rintro e X ⟨s18, A18, n18, c18, D18, m18, e18, rfl, m5, hb9⟩
            go_wp2_with fail
            have hG9 := hG.trans (hb9.mono hG.size)
            refine hK.out _ _ ((b0.below hG9).and6 ((b1.below hG9).all6)) ?_
            clear hK K
            exact ⟨y2_, y5_, y6_, _, _, _, y14_, y15_, by kernel_rfl, hG9, fun h => by obtain ⟨s13, A13, n13, c13, D13, m13, e13, e_, m0'⟩ := H2_ (set_dep (by decide) h); exact ⟨s13, A13, n13, c13, D13, m13, e13, e_, m0'.below hb9⟩, fun h => by obtain ⟨s14, A14, n14, c14, D14, m14, e14, e_, m1'⟩ := H5_ (set_dep (by decide) h); exact ⟨s14, A14, n14, c14, D14, m14, e14, e_, m1'.below hb9⟩, fun h => by obtain ⟨s15, A15, n15, c15, D15, m15, e15, e_, m2'⟩ := H6_ (set_dep (by decide) h); exact ⟨s15, A15, n15, c15, D15, m15, e15, e_, m2'.below hb9⟩, fun _ => ⟨s16, A16, n16, c16, D16, m16, e16, rfl, m3.below hb9⟩, fun _ => ⟨s17, A17, n17, c17, D17, m17, e17, rfl, m4.below hb9⟩, fun _ => ⟨s18, A18, n18, c18, D18, m18, e18, rfl, m5⟩, fun h => by obtain ⟨s20, A20, n20, c20, D20, m20, e20, e_, gY'⟩ := H14_ (set_dep (by decide) h); exact ⟨s20, A20, n20, c20, D20, m20, e20, e_, gY'.below hb9⟩, fun h => by obtain ⟨g0_, e_, bx0', hl0'⟩ := H15_ (set_dep (by decide) h); exact ⟨g0_, e_, bx0'.below hb9, hl0'⟩⟩
          · rintro listed a wx ⟨y2_, y5_, y6_, y9_, y12_, y13_, y14_, y15_, rfl, hG, H2_, H5_, H6_, H9_, H12_, H13_, H14_, H15_⟩ hi K hK
            have e6_ : listed.getD 6 false = true := ready_dep hi rfl 6 (by kernel_rfl)
            obtain ⟨s15, A15, n15, c15, D15, m15, e15, rfl, m2⟩ := H6_ e6_
            have e13_ : listed.getD 13 false = true := ready_dep hi rfl 13 (by kernel_rfl)
            obtain ⟨s18, A18, n18, c18, D18, m18, e18, rfl, m5⟩ := H13_ e13_
            subst hA
            (try simp only [Act.put, List.setIfInBounds_toArray, List.set_cons_zero, List.set_cons_succ])
            go_simp
            go_at_call 99
            refine (nqsub_v m2 m5 (by decide) (by decide)).mono ?_
            rintro e X ⟨s20, A20, n20, c20, D20, m20, e20, rfl, gY, hb9⟩
            go_wp2_with fail
            have hG9 := hG.trans (hb9.mono hG.size)
            refine hK.out _ _ ((b0.below hG9).and6 ((b1.below hG9).all6)) ?_
            clear hK K
            exact ⟨y2_, y5_, _, y9_, y12_, _, _, y15_, by kernel_rfl, hG9, fun h => by obtain ⟨s13, A13, n13, c13, D13, m13, e13, e_, m0'⟩ := H2_ (set_dep (by decide) h); exact ⟨s13, A13, n13, c13, D13, m13, e13, e_, m0'.below hb9⟩, fun h => by obtain ⟨s14, A14, n14, c14, D14, m14, e14, e_, m1'⟩ := H5_ (set_dep (by decide) h); exact ⟨s14, A14, n14, c14, D14, m14, e14, e_, m1'.below hb9⟩, fun _ => ⟨s15, A15, n15, c15, D15, m15, e15, rfl, m2.below hb9⟩, fun h => by obtain ⟨s16, A16, n16, c16, D16, m16, e16, e_, m3'⟩ := H9_ (set_dep (by decide) h); exact ⟨s16, A16, n16, c16, D16, m16, e16, e_, m3'.below hb9⟩, fun h => by obtain ⟨s17, A17, n17, c17, D17, m17, e17, e_, m4'⟩ := H12_ (set_dep (by decide) h); exact ⟨s17, A17, n17, c17, D17, m17, e17, e_, m4'.below hb9⟩, fun _ => ⟨s18, A18, n18, c18, D18, m18, e18, rfl, m5.below hb9⟩, fun _ => ⟨s20, A20, n20, c20, D20, m20, e20, rfl, gY⟩, fun h => by obtain ⟨g0_, e_, bx0', hl0'⟩ := H15_ (set_dep (by decide) h); exact ⟨g0_, e_, bx0'.below hb9, hl0'⟩⟩
          · rintro listed a wx ⟨y2_, y5_, y6_, y9_, y12_, y13_, y14_, y15_, rfl, hG, H2_, H5_, H6_, H9_, H12_, H13_, H14_, H15_⟩ hi K hK
            subst hA
            (try simp only [Act.put, List.setIfInBounds_toArray, List.set_cons_zero, List.set_cons_succ])
            go_simp
            obtain ⟨X, hV, bx0, hb9, sz9⟩ := boxes1 wx #[.bool false, .slice none 0 0, .slice none 0 0] 46
            rw [hV]
            clear hV
            have hl0 : wc.heap.size ≤ wx.heap.size := hG.size
            have hG9 := hG.trans (hb9.mono hG.size)
            refine hK.out _ _ ((b0.below hG9).and6 ((b1.below hG9).all6)) ?_
            clear hK K
            exact ⟨y2_, y5_, y6_, y9_, y12_, y13_, y14_, _, by kernel_rfl, hG9, fun h => by obtain ⟨s13, A13, n13, c13, D13, m13, e13, e_, m0'⟩ := H2_ (set_dep (by decide) h); exact ⟨s13, A13, n13, c13, D13, m13, e13, e_, m0'.below hb9⟩, fun h => by obtain ⟨s14, A14, n14, c14, D14, m14, e14, e_, m1'⟩ := H5_ (set_dep (by decide) h); exact ⟨s14, A14, n14, c14, D14, m14, e14, e_, m1'.below hb9⟩, fun h => by obtain ⟨s15, A15, n15, c15, D15, m15, e15, e_, m2'⟩ := H6_ (set_dep (by decide) h); exact ⟨s15, A15, n15, c15, D15, m15, e15, e_, m2'.below hb9⟩, fun h => by obtain ⟨s16, A16, n16, c16, D16, m16, e16, e_, m3'⟩ := H9_ (set_dep (by decide) h); exact ⟨s16, A16, n16, c16, D16, m16, e16, e_, m3'.below hb9⟩, fun h => by obtain ⟨s17, A17, n17, c17, D17, m17, e17, e_, m4'⟩ := H12_ (set_dep (by decide) h); exact ⟨s17, A17, n17, c17, D17, m17, e17, e_, m4'.below hb9⟩, fun h => by obtain ⟨s18, A18, n18, c18, D18, m18, e18, e_, m5'⟩ := H13_ (set_dep (by decide) h); exact ⟨s18, A18, n18, c18, D18, m18, e18, e_, m5'.below hb9⟩, fun h => by obtain ⟨s20, A20, n20, c20, D20, m20, e20, e_, gY'⟩ := H14_ (set_dep (by decide) h); exact ⟨s20, A20, n20, c20, D20, m20, e20, e_, gY'.below hb9⟩, fun _ => ⟨_, rfl, bx0, hl0⟩⟩
        · rintro a wf ⟨y2_, y5_, y6_, y9_, y12_, y13_, y14_, y15_, rfl, hG, H2_, H5_, H6_, H9_, H12_, H13_, H14_, H15_⟩
          obtain ⟨s13, A13, n13, c13, D13, m13, e13, rfl, m0⟩ := H2_ rfl
          obtain ⟨s14, A14, n14, c14, D14, m14, e14, rfl, m1⟩ := H5_ rfl
          obtain ⟨s15, A15, n15, c15, D15, m15, e15, rfl, m2⟩ := H6_ rfl
          obtain ⟨s16, A16, n16, c16, D16, m16, e16, rfl, m3⟩ := H9_ rfl
          obtain ⟨s17, A17, n17, c17, D17, m17, e17, rfl, m4⟩ := H12_ rfl
          obtain ⟨s18, A18, n18, c18, D18, m18, e18, rfl, m5⟩ := H13_ rfl
          obtain ⟨s20, A20, n20, c20, D20, m20, e20, rfl, gY⟩ := H14_ rfl
          obtain ⟨g0_, rfl, bx0, hl0⟩ := H15_ rfl
          subst hA
          (try simp only [Act.put, List.setIfInBounds_toArray, List.set_cons_zero, List.set_cons_succ])
          have H0 := hG
          obtain ⟨cbx00, ybx00, cbx01, ybx01, cbx02, ybx02⟩ := bx0.cf3
          refine wpAnyF_last (i := 16) (by kernel_rfl) rfl rfl (fun K hK => ?_)
          go_simp
          refine hK.out _ _ ?_
          clear hK K
          (try simp only [List.setIfInBounds_toArray, List.set_cons_zero, List.set_cons_succ])
          clear cbx00 ybx00 cbx01 ybx01 cbx02 ybx02
          have hg := only_store3 wf (g0_) (.bool s20) (.slice A20 n20 c20) (.slice D20 m20 e20)
          have hB := bx0.stored3 (.bool s20) (.slice A20 n20 c20) (.slice D20 m20 e20)
          generalize hX : (((wf.setCell ⟨g0_, 0, none⟩ (.bool s20)).setCell ⟨g0_, 1, none⟩ (.slice A20 n20 c20)).setCell ⟨g0_, 2, none⟩ (.slice D20 m20 e20)) = X1053 at hg hB ⊢
          clear hX
          replace gY := gY.kept bx0 (by simp [notInt]) hg
          replace bx0 := hB
          replace H0 := below_only H0 hg (by omega) H0.size
          clear hg hB
          refine wpAny_done (by kernel_rfl) ?_ _
          refine NoPanic.normal ?_
          go_wp2_with fail
          go_meet
          exact ⟨g0_, s20, A20, n20, c20, D20, m20, e20, rfl, gY, bx0, hl0, H0⟩
      case rest =>
        obtain ⟨g90, s20, A20, n20, c20, D20, m20, e20, rfl, gY, b8, ml0, hG⟩ := hcut
        replace h0 := h0.below hG
        replace h1 := h1.below hG
        replace h2 := h2.below hG
        replace h3 := h3.below hG
        replace h4 := h4.below hG
        replace h5 := h5.below hG
        replace gD := gD.below hG
        replace gX := gX.below hG
        replace b0 := b0.below hG
        replace b1 := b1.below hG
        replace b9 := b9.below hG
        replace b6 := b6.below hG
        replace b7 := b7.below hG
        replace H0 := H0.trans (hG.mono H0.size)
        clear hG
        go_wp2_with fail
        have hD := drawn_below wc
        replace h0 := h0.below hD
        replace h1 := h1.below hD
        replace h2 := h2.below hD
        replace h3 := h3.below hD
        replace h4 := h4.below hD
        replace h5 := h5.below hD
        replace gD := gD.below hD
        replace gX := gX.below hD
        replace gY := gY.below hD
        replace b0 := b0.below hD
        replace b1 := b1.below hD
        replace b9 := b9.below hD
        replace b6 := b6.below hD
        replace b7 := b7.below hD
        replace b8 := b8.below hD
        replace H0 := H0.trans (hD.mono H0.size)
        clear hD
        refine wp_region_noPanic ?_
        refine wp_region_held_drew (S := (fun V => V.cell? ⟨g70, 0, none⟩ = some (.bool s12) ∧ V.cell? ⟨g70, 1, none⟩ = some (.slice A12 n12 c12) ∧ V.cell? ⟨g70, 2, none⟩ = some (.slice D12 m12 e12) ∧ V.cell? ⟨g80, 0, none⟩ = some (.bool s19) ∧ V.cell? ⟨g80, 1, none⟩ = some (.slice A19 n19 c19) ∧ V.cell? ⟨g80, 2, none⟩ = some (.slice D19 m19 e19) ∧ V.cell? ⟨g90, 0, none⟩ = some (.bool s20) ∧ V.cell? ⟨g90, 1, none⟩ = some (.slice A20 n20 c20) ∧ V.cell? ⟨g90, 2, none⟩ = some (.slice D20 m20 e20))) (by kernel_rfl) (b6.and3 (b7.and3 (b8.all3))) (fun hHeld => ?_)
        generalize wc.drew = v1502 at H0 hHeld h0 h1 h2 h3 h4 h5 gD gX gY b0 b1 b9 b6 b7 b8 ⊢
        refine tk 0 ?_ rfl (by kernel_rfl) (by kernel_rfl) (by kernel_rfl) (fun _ _ _ h => h) (by rfl) ?_ (by assumption) ?_
        rotate_left
        · (intro w hSw; (try dsimp only at hSw); go_simp; (try with_reducible rfl))
        (try simp only [getElem_toArray, getElem_cons_zero, Act.put, setIfInBounds_toArray, set_cons_zero, set_cons_succ])
        refine tk 1 ?_ rfl (by kernel_rfl) (by kernel_rfl) (by kernel_rfl) (fun _ _ _ h => h) (by rfl) ?_ (by assumption) ?_
        rotate_left
        · (intro w hSw; (try dsimp only at hSw); go_simp; (try with_reducible rfl))
        (try simp only [getElem_toArray, getElem_cons_succ, getElem_cons_zero, Act.put, setIfInBounds_toArray, set_cons_zero, set_cons_succ])
        refine tk 3 ?_ rfl (by kernel_rfl) (by kernel_rfl) (by kernel_rfl) (fun _ _ _ h => h) (by rfl) ?_ (by assumption) ?_
        rotate_left
        · (intro w hSw; (try dsimp only at hSw); go_simp; (try with_reducible rfl))
        (try simp only [getElem_toArray, getElem_cons_succ, getElem_cons_zero, Act.put, setIfInBounds_toArray, set_cons_zero, set_cons_succ])
        refine tk 4 ?_ rfl (by kernel_rfl) (by kernel_rfl) (by kernel_rfl) (fun _ _ _ h => h) (by rfl) ?_ (by assumption) ?_
        rotate_left
        · (intro w hSw; (try dsimp only at hSw); go_simp; (try with_reducible rfl))
        (try simp only [getElem_toArray, getElem_cons_succ, getElem_cons_zero, Act.put, setIfInBounds_toArray, set_cons_zero, set_cons_succ])
        refine rd1 2 (by kernel_rfl) rfl (fun K hK => ?_)
        go_simp
        go_at_call 89
        refine (nover_v gX gD (by decide) (by decide) HN.out).mono ?_
        rintro e w1503 ⟨s21, A21, n21, c21, D21, m21, e21, rfl, u0, hb⟩
        replace h0 := h0.below hb
        replace h1 := h1.below hb
        replace h2 := h2.below hb
        replace h3 := h3.below hb
        replace h4 := h4.below hb
        replace h5 := h5.below hb
        replace gD := gD.below hb
        replace gX := gX.below hb
        replace gY := gY.below hb
        replace b0 := b0.below hb
        replace b1 := b1.below hb
        replace b9 := b9.below hb
        replace b6 := b6.below hb
        replace b7 := b7.below hb
        replace b8 := b8.below hb
        replace H0 := H0.trans (hb.mono H0.size)
        clear hb
        go_wp2_with fail
        refine hK.out _ _ (b6.and3 (b7.and3 (b8.all3))) (fun hHeld => ?_)
        clear hK K
        (try simp only [getElem_toArray, getElem_cons_succ, getElem_cons_zero, Act.put, setIfInBounds_toArray, set_cons_zero, set_cons_succ])
        refine rd1 5 (by kernel_rfl) rfl (fun K hK => ?_)
        go_simp
        go_at_call 89
        refine (nover_v gY gD (by decide) (by decide) HN.out).mono ?_
        rintro e w1504 ⟨s22, A22, n22, c22, D22, m22, e22, rfl, u1, hb⟩
        replace h0 := h0.below hb
        replace h1 := h1.below hb
        replace h2 := h2.below hb
        replace h3 := h3.below hb
        replace h4 := h4.below hb
        replace h5 := h5.below hb
        replace gD := gD.below hb
        replace gX := gX.below hb
        replace gY := gY.below hb
        replace u0 := u0.below hb
        replace b0 := b0.below hb
        replace b1 := b1.below hb
        replace b9 := b9.below hb
        replace b6 := b6.below hb
        replace b7 := b7.below hb
        replace b8 := b8.below hb
        replace H0 := H0.trans (hb.mono H0.size)
        clear hb
        go_wp2_with fail
        refine hK.out _ _ (b6.and3 (b7.and3 (b8.all3))) (fun hHeld => ?_)
        clear hK K
        (try simp only [getElem_toArray, getElem_cons_succ, getElem_cons_zero, Act.put, setIfInBounds_toArray, set_cons_zero, set_cons_succ])
        refine tk 6 ?_ rfl (by kernel_rfl) (by kernel_rfl) (by kernel_rfl) (fun _ _ _ h => h) (by rfl) ?_ (by assumption) ?_
        rotate_left
        · (intro w hSw; (try dsimp only at hSw); go_simp; (try with_reducible rfl))
        (try simp only [getElem_toArray, getElem_cons_succ, getElem_cons_zero, Act.put, setIfInBounds_toArray, set_cons_zero, set_cons_succ])
        obtain ⟨cb90, yb90, cb91, yb91, cb92, yb92, cb93, yb93, cb94, yb94, cb95, yb95⟩ := b9.cf6
        refine rd1 7 (by kernel_rfl) rfl (fun K hK => ?_)
        go_simp
        clear cb90 yb90 cb91 yb91 cb92 yb92 cb93 yb93 cb94 yb94 cb95 yb95
        have hg := only_store6 w1504 (w.heap.size + 1 + 1) (.bool s21) (.slice A21 n21 c21) (.slice D21 m21 e21) (.bool s22) (.slice A22 n22 c22) (.slice D22 m22 e22)
        have hB := b9.stored6 (.bool s21) (.slice A21 n21 c21) (.slice D21 m21 e21) (.bool s22) (.slice A22 n22 c22) (.slice D22 m22 e22)
        generalize hX : ((((((w1504.setCell ⟨w.heap.size + 1 + 1, 0, none⟩ (.bool s21)).setCell ⟨w.heap.size + 1 + 1, 1, none⟩ (.slice A21 n21 c21)).setCell ⟨w.heap.size + 1 + 1, 2, none⟩ (.slice D21 m21 e21)).setCell ⟨w.heap.size + 1 + 1, 3, none⟩ (.bool s22)).setCell ⟨w.heap.size + 1 + 1, 4, none⟩ (.slice A22 n22 c22)).setCell ⟨w.heap.size + 1 + 1, 5, none⟩ (.slice D22 m22 e22)) = X1505 at hg hB ⊢
        clear hX
        replace h0 := h0.kept b9 (by simp [notInt]) hg
        replace h1 := h1.kept b9 (by simp [notInt]) hg
        replace h2 := h2.kept b9 (by simp [notInt]) hg
        replace h3 := h3.kept b9 (by simp [notInt]) hg
        replace h4 := h4.kept b9 (by simp [notInt]) hg
        replace h5 := h5.kept b9 (by simp [notInt]) hg
        replace gD := gD.kept b9 (by simp [notInt]) hg
        replace gX := gX.kept b9 (by simp [notInt]) hg
        replace gY := gY.kept b9 (by simp [notInt]) hg
        replace u0 := u0.kept b9 (by simp [notInt]) hg
        replace u1 := u1.kept b9 (by simp [notInt]) hg
        replace b0 := b0.other hg (by omega)
        replace b1 := b1.other hg (by omega)
        replace b6 := b6.other hg (by omega)
        replace b7 := b7.other hg (by omega)
        replace b8 := b8.other hg (by omega)
        replace b9 := hB
        replace H0 := below_only H0 hg (by omega) H0.size
        clear hg hB
        refine hK.out _ _ (b6.and3 (b7.and3 (b8.all3))) (fun hHeld => ?_)
        clear hK K
        (try simp only [getElem_toArray, getElem_cons_succ, getElem_cons_zero, Act.put, setIfInBounds_toArray, set_cons_zero, set_cons_succ])
        refine tk 8 ?_ rfl (by kernel_rfl) (by kernel_rfl) (by kernel_rfl) (fun _ _ _ h => h) (by rfl) ?_ (by assumption) ?_
        rotate_left
        · (intro w hSw; (try dsimp only at hSw); go_simp; (try with_reducible rfl))
        (try simp only [getElem_toArray, getElem_cons_succ, getElem_cons_zero, Act.put, setIfInBounds_toArray, set_cons_zero, set_cons_succ])
        refine wpAnyH_done (by kernel_rfl) ?_ _
        refine NoPanic.normal ?_
        go_wp2_with fail
        refine bodyPost_ret (ret_geopb_b rfl rfl b9) rfl ?_
        exact ⟨_, _, _, _, _, _, _, _, _, _, _, _, _, _, rfl, by rw [← meet_x]; exact u0.more (by decide), by rw [← meet_y]; exact u1.more (by decide), H0⟩
set_option maxRecDepth 100000 in
set_option maxHeartbeats 4000000 in
theorem gmeet_z (h0 : NI w s0 (.slice A0 n0 c0) z0 4) (h1 : NI w s1 (.slice A1 n1 c1) z1 4) (h2 : NI w s2 (.slice A2 n2 c2) z2 4) (h3 : NI w s3 (.slice A3 n3 c3) z3 4) (h4 : NI w s4 (.slice A4 n4 c4) z4 4) (h5 : NI w s5 (.slice A5 n5 c5) z5 4) (hz : z0 * z4 - z1 * z3 = 0) :
    Calls Tryz.prog 42 #[.agg #[.bool s0, .slice A0 n0 c0, .bool s1, .slice A1 n1 c1, .bool s2, .slice A2 n2 c2], .agg #[.bool s3, .slice A3 n3 c3, .bool s4, .slice A4 n4 c4, .bool s5, .slice A5 n5 c5]] w fun e w' => e = .returned (.tuple #[.agg #[.bool false, .slice none 0 0, .slice none 0 0, .bool false, .slice none 0 0, .slice none 0 0], .bool false]) ∧ Below w.heap.size w w' := by
  have HD : Hid (rsg ((z0 : Rat) * (z4 : Rat) - (z3 : Rat) * (z1 : Rat)) = 0) := Lib.hid (by rw [meet_d, hz]; rfl)
  clear hz
  go_enter Tryz.func42, Tryz.ntmps42
  go_wp2_with fail
  obtain ⟨W0, hW, b0, b1, b9, hbW, hszW0⟩ := boxes3 w #[.bool s0, .slice A0 n0 c0, .bool s1, .slice A1 n1 c1, .bool s2, .slice A2 n2 c2] #[.bool s3, .slice A3 n3 c3, .bool s4, .slice A4 n4 c4, .bool s5, .slice A5 n5 c5] #[.bool false, .slice none 0 0, .slice none 0 0, .bool false, .slice none 0 0, .slice none 0 0] 37 37 48
  rw [hW]
  clear hW
  replace h0 := h0.below hbW
  replace h1 := h1.below hbW
  replace h2 := h2.below hbW
  replace h3 := h3.below hbW
  replace h4 := h4.below hbW
  replace h5 := h5.below hbW
  have H0 := hbW
  clear hbW
  have lkb0 := b0.lt
  have lkb1 := b1.lt
  have lkb9 := b9.lt
  go_cut [6] from 7 (fun s_6 wx => ∃ g70 s12 A12 n12 c12 D12 m12 e12, s_6 = .pointer (some ⟨g70, 0, none⟩) ∧ PQ wx s12 (.slice A12 n12 c12) (.slice D12 m12 e12) ((z0 : Rat) * (z4 : Rat) - (z3 : Rat) * (z1 : Rat)) (max (max 4 1 + max 4 1 + 1) 1 + max (max 4 1 + max 4 1 + 1) 1 + 1) ∧ Box wx g70 #[.bool s12, .slice A12 n12 c12, .slice D12 m12 e12] 46 ∧ W0.heap.size ≤ g70 ∧ Below W0.heap.size W0 wx)
  case first =>
    have lcb0_1 := b0.lt
    have lcb1_1 := b1.lt
    have lcb9_1 := b9.lt
    have hG := drawn_below W0
    refine wp_region_noPanic ?_
    refine wp_region_anyd (by kernel_rfl) ?_
    generalize W0.drew = v1 at hG ⊢
    refine wpAny_take (i := 0) (v := ?_) rfl (by kernel_rfl) (by kernel_rfl) (by kernel_rfl) (fun _ _ _ h => h) (Or.inl ⟨by rfl, ?_⟩) ?_
    rotate_left
    · (intro w; go_simp; (try with_reducible rfl))
    (try simp only [getElem_toArray, getElem_cons_zero, Act.put, setIfInBounds_toArray, set_cons_zero, set_cons_succ])
    refine wpAny_take (i := 3) (v := ?_) rfl (by kernel_rfl) (by kernel_rfl) (by kernel_rfl) (fun _ _ _ h => h) (Or.inl ⟨by rfl, ?_⟩) ?_
    rotate_left
    · (intro w; go_simp; (try with_reducible rfl))
    (try simp only [getElem_toArray, getElem_cons_succ, getElem_cons_zero, Act.put, setIfInBounds_toArray, set_cons_zero, set_cons_succ])
    refine wpAny_take (i := 7) (v := ?_) rfl (by kernel_rfl) (by kernel_rfl) (by kernel_rfl) (fun _ _ _ h => h) (Or.inl ⟨by rfl, ?_⟩) ?_
    rotate_left
    · (intro w; go_simp; (try with_reducible rfl))
    (try simp only [getElem_toArray, getElem_cons_succ, getElem_cons_zero, Act.put, setIfInBounds_toArray, set_cons_zero, set_cons_succ])
    refine wpAny_take (i := 10) (v := ?_) rfl (by kernel_rfl) (by kernel_rfl) (by kernel_rfl) (fun _ _ _ h => h) (Or.inl ⟨by rfl, ?_⟩) ?_
    rotate_left
    · (intro w; go_simp; (try with_reducible rfl))
    (try simp only [getElem_toArray, getElem_cons_succ, getElem_cons_zero, Act.put, setIfInBounds_toArray, set_cons_zero, set_cons_succ])
    refine wpAny_of_F (S := (fun V => V.cell? ⟨w.heap.size, 0, none⟩ = some (.bool s0) ∧ V.cell? ⟨w.heap.size, 1, none⟩ = some (.slice A0 n0 c0) ∧ V.cell? ⟨w.heap.size, 2, none⟩ = some (.bool s1) ∧ V.cell? ⟨w.heap.size, 3, none⟩ = some (.slice A1 n1 c1) ∧ V.cell? ⟨w.heap.size, 4, none⟩ = some (.bool s2) ∧ V.cell? ⟨w.heap.size, 5, none⟩ = some (.slice A2 n2 c2) ∧ V.cell? ⟨w.heap.size + 1, 0, none⟩ = some (.bool s3) ∧ V.cell? ⟨w.heap.size + 1, 1, none⟩ = some (.slice A3 n3 c3) ∧ V.cell? ⟨w.heap.size + 1, 2, none⟩ = some (.bool s4) ∧ V.cell? ⟨w.heap.size + 1, 3, none⟩ = some (.slice A4 n4 c4) ∧ V.cell? ⟨w.heap.size + 1, 4, none⟩ = some (.bool s5) ∧ V.cell? ⟨w.heap.size + 1, 5, none⟩ = some (.slice A5 n5 c5))) (F := (fun j => j == 16)) _ _ _ _ ?_
    refine wpAnyF_take (i := 1) (v := ?_) (fun j => j == 2 || j == 5 || j == 6 || j == 9 || j == 12 || j == 13 || j == 14 || j == 16) rfl (by kernel_rfl) (by kernel_rfl) (by kernel_rfl) (by kernel_rfl) (fun j hj => by have h6 : 17 ≤ j := hj; simp; omega) (fun _ _ _ h => h) (Or.inl ⟨by rfl, ?_⟩) ((b0.below hG).and6 ((b1.below hG).all6)) ?_
    rotate_left
    · (intro w hSw; (try dsimp only at hSw); go_simp; (try with_reducible rfl))
    (try simp only [getElem_toArray, getElem_cons_succ, getElem_cons_zero, Act.put, setIfInBounds_toArray, set_cons_zero, set_cons_succ])
    refine wpAnyF_take (i := 4) (v := ?_) (fun j => j == 5 || j == 6 || j == 9 || j == 12 || j == 13 || j == 14 || j == 16) rfl (by kernel_rfl) (by kernel_rfl) (by kernel_rfl) (by kernel_rfl) (fun j hj => by have h6 : 17 ≤ j := hj; simp; omega) (fun _ _ _ h => h) (Or.inl ⟨by rfl, ?_⟩) ((b0.below hG).and6 ((b1.below hG).all6)) ?_
    rotate_left
    · (intro w hSw; (try dsimp only at hSw); go_simp; (try with_reducible rfl))
    (try simp only [getElem_toArray, getElem_cons_succ, getElem_cons_zero, Act.put, setIfInBounds_toArray, set_cons_zero, set_cons_succ])
    refine wpAnyF_take (i := 8) (v := ?_) (fun j => j == 9 || j == 12 || j == 13 || j == 14 || j == 16) rfl (by kernel_rfl) (by kernel_rfl) (by kernel_rfl) (by kernel_rfl) (fun j hj => by have h6 : 17 ≤ j := hj; simp; omega) (fun _ _ _ h => h) (Or.inl ⟨by rfl, ?_⟩) ((b0.below hG).and6 ((b1.below hG).all6)) ?_
    rotate_left
    · (intro w hSw; (try dsimp only at hSw); go_simp; (try with_reducible rfl))
    (try simp only [getElem_toArray, getElem_cons_succ, getElem_cons_zero, Act.put, setIfInBounds_toArray, set_cons_zero, set_cons_succ])
    refine wpAnyF_take (i := 11) (v := ?_) (fun j => j == 12 || j == 13 || j == 14 || j == 16) rfl (by kernel_rfl) (by kernel_rfl) (by kernel_rfl) (by kernel_rfl) (fun j hj => by have h6 : 17 ≤ j := hj; simp; omega) (fun _ _ _ h => h) (Or.inl ⟨by rfl, ?_⟩) ((b0.below hG).and6 ((b1.below hG).all6)) ?_
    rotate_left
    · (intro w hSw; (try dsimp only at hSw); go_simp; (try with_reducible rfl))
    (try simp only [getElem_toArray, getElem_cons_succ, getElem_cons_zero, Act.put, setIfInBounds_toArray, set_cons_zero, set_cons_succ])
    refine wpAnyF_name (n' := 9) (l' := #[true, true, false, true, true, false, false, true, true, false, true, true, false, false, false, false, false]) (by kernel_rfl) (by kernel_rfl) (fun Ac_ hA => ?_)
    refine wpAnyF_phase (rs := [2, 5, 6, 9, 12, 13, 14, 15]) (full := #[true, true, true, true, true, true, true, true, true, true, true, true, true, true, true, true, false]) (states := [#[true, true, false, true, true, false, false, true, true, false, true, true, false, false, false, false, false], #[true, true, true, true, true, false, false, true, true, false, true, true, false, false, false, false, false], #[true, true, false, true, true, false, false, true, true, false, true, true, false, false, false, true, false], #[true, true, true, true, true, false, false, true, true, false, true, true, false, false, false, true, false], #[true, true, true, true, true, true, false, true, true, false, true, true, false, false, false, true, false], #[true, true, true, true, true, true, true, true, true, false, true, true, false, false, false, true, false], #[true, true, true, true, true, true, true, true, true, true, true, true, false, false, false, true, false], #[true, true, true, true, true, true, true, true, true, true, true, true, true, false, false, true, false], #[true, true, true, true, true, true, true, true, true, true, true, true, true, true, false, true, false], #[true, true, true, true, true, true, true, true, true, true, true, true, true, true, true, true, false], #[true, true, true, true, true, true, false, true, true, false, true, true, false, false, false, false, false], #[true, true, true, true, true, true, true, true, true, false, true, true, false, false, false, false, false], #[true, true, true, true, true, true, true, true, true, true, true, true, false, false, false, false, false], #[true, true, true, true, true, true, true, true, true, true, true, true, true, false, false, false, false], #[true, true, true, true, true, true, true, true, true, true, true, true, true, true, false, false, false], #[true, true, true, true, true, true, true, true, true, true, true, true, true, true, true, false, false]]) (k := 1) (I := fun listed a w => ∃ (y2_ y5_ y6_ y9_ y12_ y13_ y14_ y15_ : Value), a = ((((((((Ac_.put (some 11) y2_).put (some 14) y5_).put (some 15) y6_).put (some 18) y9_).put (some 21) y12_).put (some 22) y13_).put (some 23) y14_).put (some 6) y15_) ∧ Below W0.heap.size W0 w ∧ (listed.getD 2 false = true → ∃ s6 A6 n6 c6 D6 m6 e6, y2_ = .agg #[.bool s6, .slice A6 n6 c6, .slice D6 m6 e6] ∧ PQ w s6 (.slice A6 n6 c6) (.slice D6 m6 e6) (z0 : Rat) 4) ∧ (listed.getD 5 false = true → ∃ s7 A7 n7 c7 D7 m7 e7, y5_ = .agg #[.bool s7, .slice A7 n7 c7, .slice D7 m7 e7] ∧ PQ w s7 (.slice A7 n7 c7) (.slice D7 m7 e7) (z4 : Rat) 4) ∧ (listed.getD 6 false = true → ∃ s8 A8 n8 c8 D8 m8 e8, y6_ = .agg #[.bool s8, .slice A8 n8 c8, .slice D8 m8 e8] ∧ PQ w s8 (.slice A8 n8 c8) (.slice D8 m8 e8) ((z0 : Rat) * (z4 : Rat)) (max 4 1 + max 4 1 + 1)) ∧ (listed.getD 9 false = true → ∃ s9 A9 n9 c9 D9 m9 e9, y9_ = .agg #[.bool s9, .slice A9 n9 c9, .slice D9 m9 e9] ∧ PQ w s9 (.slice A9 n9 c9) (.slice D9 m9 e9) (z3 : Rat) 4) ∧ (listed.getD 12 false = true → ∃ s10 A10 n10 c10 D10 m10 e10, y12_ = .agg #[.bool s10, .slice A10 n10 c10, .slice D10 m10 e10] ∧ PQ w s10 (.slice A10 n10 c10) (.slice D10 m10 e10) (z1 : Rat) 4) ∧ (listed.getD 13 false = true → ∃ s11 A11 n11 c11 D11 m11 e11, y13_ = .agg #[.bool s11, .slice A11 n11 c11, .slice D11 m11 e11] ∧ PQ w s11 (.slice A11 n11 c11) (.slice D11 m11 e11) ((z3 : Rat) * (z1 : Rat)) (max 4 1 + max 4 1 + 1)) ∧ (listed.getD 14 false = true → ∃ s12 A12 n12 c12 D12 m12 e12, y14_ = .agg #[.bool s12, .slice A12 n12 c12, .slice D12 m12 e12] ∧ PQ w s12 (.slice A12 n12 c12) (.slice D12 m12 e12) ((z0 : Rat) * (z4 : Rat) - (z3 : Rat) * (z1 : Rat)) (max (max 4 1 + max 4 1 + 1) 1 + max (max 4 1 + max 4 1 + 1) 1 + 1)) ∧ (listed.getD 15 false = true → ∃ g0_, y15_ = .pointer (some ⟨g0_, 0, none⟩) ∧ Box w g0_ #[.bool false, .slice none 0 0, .slice none 0 0] 46 ∧ W0.heap.size ≤ g0_)) (by kernel_rfl) (by kernel_rfl) ?_ ?_ _ _ _ _ (by kernel_rfl) (by kernel_rfl) ⟨Ac_.tmps.getD 11 undef, Ac_.tmps.getD 14 undef, Ac_.tmps.getD 15 undef, Ac_.tmps.getD 18 undef, Ac_.tmps.getD 21 undef, Ac_.tmps.getD 22 undef, Ac_.tmps.getD 23 undef, Ac_.tmps.getD 6 undef, by subst hA; kernel_rfl, hG, fun h => (by cases h), fun h => (by cases h), fun h => (by cases h), fun h => (by cases h), fun h => (by cases h), fun h => (by cases h), fun h => (by cases h), fun h => (by cases h)⟩
    · refine (AllStepsF.cons (i := 2) (o := _) rfl rfl ?_ (AllStepsF.cons (i := 5) (o := _) rfl rfl ?_ (AllStepsF.cons (i := 6) (o := _) rfl rfl ?_ (AllStepsF.cons (i := 9) (o := _) rfl rfl ?_ (AllStepsF.cons (i := 12) (o := _) rfl rfl ?_ (AllStepsF.cons (i := 13) (o := _) rfl rfl ?_ (AllStepsF.cons (i := 14) (o := _) rfl rfl ?_ (AllStepsF.cons (i := 15) (o := _) rfl rfl ?_ AllStepsF.nil))))))))
      · rintro listed a wx ⟨y2_, y5_, y6_, y9_, y12_, y13_, y14_, y15_, rfl, hG, H2_, H5_, H6_, H9_, H12_, H13_, H14_, H15_⟩ hi K hK
        subst hA
        (try simp only [Act.put, List.setIfInBounds_toArray, List.set_cons_zero, List.set_cons_succ])
        go_simp
        go_at_call 84
        refine (gq_v (h0.below hG)).mono ?_
        rintro e X ⟨s6, A6, n6, c6, D6, m6, e6, rfl, m0, hb9⟩
        go_wp2_with fail
        have hG9 := hG.trans (hb9.mono hG.size)
        refine hK.out _ _ ((b0.below hG9).and6 ((b1.below hG9).all6)) ?_
        clear hK K
        exact ⟨_, y5_, y6_, y9_, y12_, y13_, y14_, y15_, by kernel_rfl, hG9, fun _ => ⟨s6, A6, n6, c6, D6, m6, e6, rfl, m0⟩, fun h => by obtain ⟨s7, A7, n7, c7, D7, m7, e7, e_, m1'⟩ := H5_ (set_dep (by decide) h); exact ⟨s7, A7, n7, c7, D7, m7, e7, e_, m1'.below hb9⟩, fun h => by obtain ⟨s8, A8, n8, c8, D8, m8, e8, e_, m2'⟩ := H6_ (set_dep (by decide) h); exact ⟨s8, A8, n8, c8, D8, m8, e8, e_, m2'.below hb9⟩, fun h => by obtain ⟨s9, A9, n9, c9, D9, m9, e9, e_, m3'⟩ := H9_ (set_dep (by decide) h); exact ⟨s9, A9, n9, c9, D9, m9, e9, e_, m3'.below hb9⟩, fun h => by obtain ⟨s10, A10, n10, c10, D10, m10, e10, e_, m4'⟩ := H12_ (set_dep (by decide) h); exact ⟨s10, A10, n10, c10, D10, m10, e10, e_, m4'.below hb9⟩, fun h => by obtain ⟨s11, A11, n11, c11, D11, m11, e11, e_, m5'⟩ := H13_ (set_dep (by decide) h); exact ⟨s11, A11, n11, c11, D11, m11, e11, e_, m5'.below hb9⟩, fun h => by obtain ⟨s12, A12, n12, c12, D12, m12, e12, e_, gD'⟩ := H14_ (set_dep (by decide) h); exact ⟨s12, A12, n12, c12, D12, m12, e12, e_, gD'.below hb9⟩, fun h => by obtain ⟨g0_, e_, bx0', hl0'⟩ := H15_ (set_dep (by decide) h); exact ⟨g0_, e_, bx0'.below hb9, hl0'⟩⟩
      · rintro listed a wx ⟨y2_, y5_, y6_, y9_, y12_, y13_, y14_, y15_, rfl, hG, H2_, H5_, H6_, H9_, H12_, H13_, H14_, H15_⟩ hi K hK
        subst hA
        (try simp only [Act.put, List.setIfInBounds_toArray, List.set_cons_zero, List.set_cons_succ])
        go_simp
        go_at_call 84
        refine (gq_v (h4.below hG)).mono ?_
        rintro e X ⟨s7, A7, n7, c7, D7, m7, e7, rfl, m1, hb9⟩
        go_wp2_with fail
        have hG9 := hG.trans (hb9.mono hG.size)
        refine hK.out _ _ ((b0.below hG9).and6 ((b1.below hG9).all6)) ?_
        clear hK K
        exact ⟨y2_, _, y6_, y9_, y12_, y13_, y14_, y15_, by kernel_rfl, hG9, fun h => by obtain ⟨s6, A6, n6, c6, D6, m6, e6, e_, m0'⟩ := H2_ (set_dep (by decide) h); exact ⟨s6, A6, n6, c6, D6, m6, e6, e_, m0'.below hb9⟩, fun _ => ⟨s7, A7, n7, c7, D7, m7, e7, rfl, m1⟩, fun h => by obtain ⟨s8, A8, n8, c8, D8, m8, e8, e_, m2'⟩ := H6_ (set_dep (by decide) h); exact ⟨s8, A8, n8, c8, D8, m8, e8, e_, m2'.below hb9⟩, fun h => by obtain ⟨s9, A9, n9, c9, D9, m9, e9, e_, m3'⟩ := H9_ (set_dep (by decide) h); exact ⟨s9, A9, n9, c9, D9, m9, e9, e_, m3'.below hb9⟩, fun h => by obtain ⟨s10, A10, n10, c10, D10, m10, e10, e_, m4'⟩ := H12_ (set_dep (by decide) h); exact ⟨s10, A10, n10, c10, D10, m10, e10, e_, m4'.below hb9⟩, fun h => by obtain ⟨s11, A11, n11, c11, D11, m11, e11, e_, m5'⟩ := H13_ (set_dep (by decide) h); exact ⟨s11, A11, n11, c11, D11, m11, e11, e_, m5'.below hb9⟩, fun h => by obtain ⟨s12, A12, n12, c12, D12, m12, e12, e_, gD'⟩ := H14_ (set_dep (by decide) h); exact ⟨s12, A12, n12, c12, D12, m12, e12, e_, gD'.below hb9⟩, fun h => by obtain ⟨g0_, e_, bx0', hl0'⟩ := H15_ (set_dep (by decide) h); exact ⟨g0_, e_, bx0'.below hb9, hl0'⟩⟩
      · rintro listed a wx ⟨y2_, y5_, y6_, y9_, y12_, y13_, y14_, y15_, rfl, hG, H2_, H5_, H6_, H9_, H12_, H13_, H14_, H15_⟩ hi K hK
        have e2_ : listed.getD 2 false = true := ready_dep hi rfl 2 (by kernel_rfl)
        obtain ⟨s6, A6, n6, c6, D6, m6, e6, rfl, m0⟩ := H2_ e2_
        have e5_ : listed.getD 5 false = true := ready_dep hi rfl 5 (by kernel_rfl)
        obtain ⟨s7, A7, n7, c7, D7, m7, e7, rfl, m1⟩ := H5_ e5_
        subst hA
        (try simp only [Act.put, List.setIfInBounds_toArray, List.set_cons_zero, List.set_cons_succ])
        go_simp
        go_at_call 70
        refine (ntimes_v m0 m1 (by decide) (by decide)).mono ?_
        rintro e X ⟨s8, A8, n8, c8, D8, m8, e8, rfl, m2, hb9⟩
        go_wp2_with fail
        have hG9 := hG.trans (hb9.mono hG.size)
        refine hK.out _ _ ((b0.below hG9).and6 ((b1.below hG9).all6)) ?_
        clear hK K
        exact ⟨_, _, _, y9_, y12_, y13_, y14_, y15_, by kernel_rfl, hG9, fun _ => ⟨s6, A6, n6, c6, D6, m6, e6, rfl, m0.below hb9⟩, fun _ => ⟨s7, A7, n7, c7, D7, m7, e7, rfl, m1.below hb9⟩, fun _ => ⟨s8, A8, n8, c8, D8, m8, e8, rfl, m2⟩, fun h => by obtain ⟨s9, A9, n9, c9, D9, m9, e9, e_, m3'⟩ := H9_ (set_dep (by decide) h); exact ⟨s9, A9, n9, c9, D9, m9, e9, e_, m3'.below hb9⟩, fun h => by obtain ⟨s10, A10, n10, c10, D10, m10, e10, e_, m4'⟩ := H12_ (set_dep (by decide) h); exact ⟨s10, A10, n10, c10, D10, m10, e10, e_, m4'.below hb9⟩, fun h => by obtain ⟨s11, A11, n11, c11, D11, m11, e11, e_, m5'⟩ := H13_ (set_dep (by decide) h); exact ⟨s11, A11, n11, c11, D11, m11, e11, e_, m5'.below hb9⟩, fun h => by obtain ⟨s12, A12, n12, c12, D12, m12, e12, e_, gD'⟩ := H14_ (set_dep (by decide) h); exact ⟨s12, A12, n12, c12, D12, m12, e12, e_, gD'.below hb9⟩, fun h => by obtain ⟨g0_, e_, bx0', hl0'⟩ := H15_ (set_dep (by decide) h); exact ⟨g0_, e_, bx0'.below hb9, hl0'⟩⟩
      · rintro listed a wx ⟨y2_, y5_, y6_, y9_, y12_, y13_, y14_, y15_, rfl, hG, H2_, H5_, H6_, H9_, H12_, H13_, H14_, H15_⟩ hi K hK
        subst hA
        (try simp only [Act.put, List.setIfInBounds_toArray, List.set_cons_zero, List.set_cons_succ])
        go_simp
        go_at_call 84
        refine (gq_v (h3.below hG)).mono ?_
        rintro e X ⟨s9, A9, n9, c9, D9, m9, e9, rfl, m3, hb9⟩
        go_wp2_with fail
        have hG9 := hG.trans (hb9.mono hG.size)
        refine hK.out _ _ ((b0.below hG9).and6 ((b1.below hG9).all6)) ?_
        clear hK K
        exact ⟨y2_, y5_, y6_, _, y12_, y13_, y14_, y15_, by kernel_rfl, hG9, fun h => by obtain ⟨s6, A6, n6, c6, D6, m6, e6, e_, m0'⟩ := H2_ (set_dep (by decide) h); exact ⟨s6, A6, n6, c6, D6, m6, e6, e_, m0'.below hb9⟩, fun h => by obtain ⟨s7, A7, n7, c7, D7, m7, e7, e_, m1'⟩ := H5_ (set_dep (by decide) h); exact ⟨s7, A7, n7, c7, D7, m7, e7, e_, m1'.below hb9⟩, fun h => by obtain ⟨s8, A8, n8, c8, D8, m8, e8, e_, m2'⟩ := H6_ (set_dep (by decide) h); exact ⟨s8, A8, n8, c8, D8, m8, e8, e_, m2'.below hb9⟩, fun _ => ⟨s9, A9, n9, c9, D9, m9, e9, rfl, m3⟩, fun h => by obtain ⟨s10, A10, n10, c10, D10, m10, e10, e_, m4'⟩ := H12_ (set_dep (by decide) h); exact ⟨s10, A10, n10, c10, D10, m10, e10, e_, m4'.below hb9⟩, fun h => by obtain ⟨s11, A11, n11, c11, D11, m11, e11, e_, m5'⟩ := H13_ (set_dep (by decide) h); exact ⟨s11, A11, n11, c11, D11, m11, e11, e_, m5'.below hb9⟩, fun h => by obtain ⟨s12, A12, n12, c12, D12, m12, e12, e_, gD'⟩ := H14_ (set_dep (by decide) h); exact ⟨s12, A12, n12, c12, D12, m12, e12, e_, gD'.below hb9⟩, fun h => by obtain ⟨g0_, e_, bx0', hl0'⟩ := H15_ (set_dep (by decide) h); exact ⟨g0_, e_, bx0'.below hb9, hl0'⟩⟩
      · rintro listed a wx ⟨y2_, y5_, y6_, y9_, y12_, y13_, y14_, y15_, rfl, hG, H2_, H5_, H6_, H9_, H12_, H13_, H14_, H15_⟩ hi K hK
        subst hA
        (try simp only [Act.put, List.setIfInBounds_toArray, List.set_cons_zero, List.set_cons_succ])
        go_simp
        go_at_call 84
        refine (gq_v (h1.below hG)).mono ?_
        rintro e X ⟨s10, A10, n10, c10, D10, m10, e10, rfl, m4, hb9⟩
        go_wp2_with fail
        have hG9 := hG.trans (hb9.mono hG.size)
        refine hK.out _ _ ((b0.below hG9).and6 ((b1.below hG9).all6)) ?_
        clear hK K
        exact ⟨y2_, y5_, y6_, y9_, _, y13_, y14_, y15_, by kernel_rfl, hG9, fun h => by obtain ⟨s6, A6, n6, c6, D6, m6, e6, e_, m0'⟩ := H2_ (set_dep (by decide) h); exact ⟨s6, A6, n6, c6, D6, m6, e6, e_, m0'.below hb9⟩, fun h => by obtain ⟨s7, A7, n7, c7, D7, m7, e7, e_, m1'⟩ := H5_ (set_dep (by decide) h); exact ⟨s7, A7, n7, c7, D7, m7, e7, e_, m1'.below hb9⟩, fun h => by obtain ⟨s8, A8, n8, c8, D8, m8, e8, e_, m2'⟩ := H6_ (set_dep (by decide) h); exact ⟨s8, A8, n8, c8, D8, m8, e8, e_, m2'.below hb9⟩, fun h => by obtain ⟨s9, A9, n9, c9, D9, m9, e9, e_, m3'⟩ := H9_ (set_dep (by decide) h); exact ⟨s9, A9, n9, c9, D9, m9, e9, e_, m3'.below hb9⟩, fun _ => ⟨s10, A10, n10, c10, D10, m10, e10, rfl, m4⟩, fun h => by obtain ⟨s11, A11, n11, c11, D11, m11, e11, e_, m5'⟩ := H13_ (set_dep (by decide) h); exact ⟨s11, A11, n11, c11, D11, m11, e11, e_, m5'.below hb9⟩, fun h => by obtain ⟨s12, A12, n12, c12, D12, m12, e12, e_, gD'⟩ := H14_ (set_dep (by decide) h); exact ⟨s12, A12, n12, c12, D12, m12, e12, e_, gD'.below hb9⟩, fun h => by obtain ⟨g0_, e_, bx0', hl0'⟩ := H15_ (set_dep (by decide) h); exact ⟨g0_, e_, bx0'.below hb9, hl0'⟩⟩
      · rintro listed a wx ⟨y2_, y5_, y6_, y9_, y12_, y13_, y14_, y15_, rfl, hG, H2_, H5_, H6_, H9_, H12_, H13_, H14_, H15_⟩ hi K hK
        have e9_ : listed.getD 9 false = true := ready_dep hi rfl 9 (by kernel_rfl)
        obtain ⟨s9, A9, n9, c9, D9, m9, e9, rfl, m3⟩ := H9_ e9_
        have e12_ : listed.getD 12 false = true := ready_dep hi rfl 12 (by kernel_rfl)
        obtain ⟨s10, A10, n10, c10, D10, m10, e10, rfl, m4⟩ := H12_ e12_
        subst hA
        (try simp only [Act.put, List.setIfInBounds_toArray, List.set_cons_zero, List.set_cons_succ])
        go_simp
        go_at_call 70
        refine (ntimes_v m3 m4 (by decide) (by decide)).mono ?_
        rintro e X ⟨s11, A11, n11, c11, D11, m11, e11, rfl, m5, hb9⟩
        go_wp2_with fail
        have hG9 := hG.trans (hb9.mono hG.size)
        refine hK.out _ _ ((b0.below hG9).and6 ((b1.below hG9).all6)) ?_
        clear hK K
        exact ⟨y2_, y5_, y6_, _, _, _, y14_, y15_, by kernel_rfl, hG9, fun h => by obtain ⟨s6, A6, n6, c6, D6, m6, e6, e_, m0'⟩ := H2_ (set_dep (by decide) h); exact ⟨s6, A6, n6, c6, D6, m6, e6, e_, m0'.below hb9⟩, fun h => by obtain ⟨s7, A7, n7, c7, D7, m7, e7, e_, m1'⟩ := H5_ (set_dep (by decide) h); exact ⟨s7, A7, n7, c7, D7, m7, e7, e_, m1'.below hb9⟩, fun h => by obtain ⟨s8, A8, n8, c8, D8, m8, e8, e_, m2'⟩ := H6_ (set_dep (by decide) h); exact ⟨s8, A8, n8, c8, D8, m8, e8, e_, m2'.below hb9⟩, fun _ => ⟨s9, A9, n9, c9, D9, m9, e9, rfl, m3.below hb9⟩, fun _ => ⟨s10, A10, n10, c10, D10, m10, e10, rfl, m4.below hb9⟩, fun _ => ⟨s11, A11, n11, c11, D11, m11, e11, rfl, m5⟩, fun h => by obtain ⟨s12, A12, n12, c12, D12, m12, e12, e_, gD'⟩ := H14_ (set_dep (by decide) h); exact ⟨s12, A12, n12, c12, D12, m12, e12, e_, gD'.below hb9⟩, fun h => by obtain ⟨g0_, e_, bx0', hl0'⟩ := H15_ (set_dep (by decide) h); exact ⟨g0_, e_, bx0'.below hb9, hl0'⟩⟩
      · rintro listed a wx ⟨y2_, y5_, y6_, y9_, y12_, y13_, y14_, y15_, rfl, hG, H2_, H5_, H6_, H9_, H12_, H13_, H14_, H15_⟩ hi K hK
        have e6_ : listed.getD 6 false = true := ready_dep hi rfl 6 (by kernel_rfl)
        obtain ⟨s8, A8, n8, c8, D8, m8, e8, rfl, m2⟩ := H6_ e6_
        have e13_ : listed.getD 13 false = true := ready_dep hi rfl 13 (by kernel_rfl)
        obtain ⟨s11, A11, n11, c11, D11, m11, e11, rfl, m5⟩ := H13_ e13_
        subst hA
        (try simp only [Act.put, List.setIfInBounds_toArray, List.set_cons_zero, List.set_cons_succ])
        go_simp
        go_at_call 99
        refine (nqsub_v m2 m5 (by decide) (by decide)).mono ?_
        rintro e X ⟨s12, A12, n12, c12, D12, m12, e12, rfl, gD, hb9⟩
        go_wp2_with fail
        have hG9 := hG.trans (hb9.mono hG.size)
        refine hK.out _ _ ((b0.below hG9).and6 ((b1.below hG9).all6)) ?_
        clear hK K
        exact ⟨y2_, y5_, _, y9_, y12_, _, _, y15_, by kernel_rfl, hG9, fun h => by obtain ⟨s6, A6, n6, c6, D6, m6, e6, e_, m0'⟩ := H2_ (set_dep (by decide) h); exact ⟨s6, A6, n6, c6, D6, m6, e6, e_, m0'.below hb9⟩, fun h => by obtain ⟨s7, A7, n7, c7, D7, m7, e7, e_, m1'⟩ := H5_ (set_dep (by decide) h); exact ⟨s7, A7, n7, c7, D7, m7, e7, e_, m1'.below hb9⟩, fun _ => ⟨s8, A8, n8, c8, D8, m8, e8, rfl, m2.below hb9⟩, fun h => by obtain ⟨s9, A9, n9, c9, D9, m9, e9, e_, m3'⟩ := H9_ (set_dep (by decide) h); exact ⟨s9, A9, n9, c9, D9, m9, e9, e_, m3'.below hb9⟩, fun h => by obtain ⟨s10, A10, n10, c10, D10, m10, e10, e_, m4'⟩ := H12_ (set_dep (by decide) h); exact ⟨s10, A10, n10, c10, D10, m10, e10, e_, m4'.below hb9⟩, fun _ => ⟨s11, A11, n11, c11, D11, m11, e11, rfl, m5.below hb9⟩, fun _ => ⟨s12, A12, n12, c12, D12, m12, e12, rfl, gD⟩, fun h => by obtain ⟨g0_, e_, bx0', hl0'⟩ := H15_ (set_dep (by decide) h); exact ⟨g0_, e_, bx0'.below hb9, hl0'⟩⟩
      · rintro listed a wx ⟨y2_, y5_, y6_, y9_, y12_, y13_, y14_, y15_, rfl, hG, H2_, H5_, H6_, H9_, H12_, H13_, H14_, H15_⟩ hi K hK
        subst hA
        (try simp only [Act.put, List.setIfInBounds_toArray, List.set_cons_zero, List.set_cons_succ])
        go_simp
        obtain ⟨X, hV, bx0, hb9, sz9⟩ := boxes1 wx #[.bool false, .slice none 0 0, .slice none 0 0] 46
        rw [hV]
        clear hV
        have hl0 : W0.heap.size ≤ wx.heap.size := hG.size
        have hG9 := hG.trans (hb9.mono hG.size)
        refine hK.out _ _ ((b0.below hG9).and6 ((b1.below hG9).all6)) ?_
        clear hK K
        exact ⟨y2_, y5_, y6_, y9_, y12_, y13_, y14_, _, by kernel_rfl, hG9, fun h => by obtain ⟨s6, A6, n6, c6, D6, m6, e6, e_, m0'⟩ := H2_ (set_dep (by decide) h); exact ⟨s6, A6, n6, c6, D6, m6, e6, e_, m0'.below hb9⟩, fun h => by obtain ⟨s7, A7, n7, c7, D7, m7, e7, e_, m1'⟩ := H5_ (set_dep (by decide) h); exact ⟨s7, A7, n7, c7, D7, m7, e7, e_, m1'.below hb9⟩, fun h => by obtain ⟨s8, A8, n8, c8, D8, m8, e8, e_, m2'⟩ := H6_ (set_dep (by decide) h); exact ⟨s8, A8, n8, c8, D8, m8, e8, e_, m2'.below hb9⟩, fun h => by obtain ⟨s9, A9, n9, c9, D9, m9, e9, e_, m3'⟩ := H9_ (set_dep (by decide) h); exact ⟨s9, A9, n9, c9, D9, m9, e9, e_, m3'.below hb9⟩, fun h => by obtain ⟨s10, A10, n10, c10, D10, m10, e10, e_, m4'⟩ := H12_ (set_dep (by decide) h); exact ⟨s10, A10, n10, c10, D10, m10, e10, e_, m4'.below hb9⟩, fun h => by obtain ⟨s11, A11, n11, c11, D11, m11, e11, e_, m5'⟩ := H13_ (set_dep (by decide) h); exact ⟨s11, A11, n11, c11, D11, m11, e11, e_, m5'.below hb9⟩, fun h => by obtain ⟨s12, A12, n12, c12, D12, m12, e12, e_, gD'⟩ := H14_ (set_dep (by decide) h); exact ⟨s12, A12, n12, c12, D12, m12, e12, e_, gD'.below hb9⟩, fun _ => ⟨_, rfl, bx0, hl0⟩⟩
    · rintro a wf ⟨y2_, y5_, y6_, y9_, y12_, y13_, y14_, y15_, rfl, hG, H2_, H5_, H6_, H9_, H12_, H13_, H14_, H15_⟩
      obtain ⟨s6, A6, n6, c6, D6, m6, e6, rfl, m0⟩ := H2_ rfl
      obtain ⟨s7, A7, n7, c7, D7, m7, e7, rfl, m1⟩ := H5_ rfl
      obtain ⟨s8, A8, n8, c8, D8, m8, e8, rfl, m2⟩ := H6_ rfl
      obtain ⟨s9, A9, n9, c9, D9, m9, e9, rfl, m3⟩ := H9_ rfl
      obtain ⟨s10, A10, n10, c10, D10, m10, e10, rfl, m4⟩ := H12_ rfl
      obtain ⟨s11, A11, n11, c11, D11, m11, e11, rfl, m5⟩ := H13_ rfl
      obtain ⟨s12, A12, n12, c12, D12, m12, e12, rfl, gD⟩ := H14_ rfl
      obtain ⟨g0_, rfl, bx0, hl0⟩ := H15_ rfl
      subst hA
      (try simp only [Act.put, List.setIfInBounds_toArray, List.set_cons_zero, List.set_cons_succ])
      have H0 := hG
      obtain ⟨cbx00, ybx00, cbx01, ybx01, cbx02, ybx02⟩ := bx0.cf3
      refine wpAnyF_last (i := 16) (by kernel_rfl) rfl rfl (fun K hK => ?_)
      go_simp
      refine hK.out _ _ ?_
      clear hK K
      (try simp only [List.setIfInBounds_toArray, List.set_cons_zero, List.set_cons_succ])
      clear cbx00 ybx00 cbx01 ybx01 cbx02 ybx02
      have hg := only_store3 wf (g0_) (.bool s12) (.slice A12 n12 c12) (.slice D12 m12 e12)
      have hB := bx0.stored3 (.bool s12) (.slice A12 n12 c12) (.slice D12 m12 e12)
      generalize hX : (((wf.setCell ⟨g0_, 0, none⟩ (.bool s12)).setCell ⟨g0_, 1, none⟩ (.slice A12 n12 c12)).setCell ⟨g0_, 2, none⟩ (.slice D12 m12 e12)) = X52 at hg hB ⊢
      clear hX
      replace gD := gD.kept bx0 (by simp [notInt]) hg
      replace bx0 := hB
      replace H0 := below_only H0 hg (by omega) H0.size
      clear hg hB
      refine wpAny_done (by kernel_rfl) ?_ _
      refine NoPanic.normal ?_
      go_wp2_with fail
      go_meet
      exact ⟨g0_, s12, A12, n12, c12, D12, m12, e12, rfl, gD, bx0, hl0, H0⟩
  case rest =>
    obtain ⟨g70, s12, A12, n12, c12, D12, m12, e12, rfl, gD, b6, ml0, hG⟩ := hcut
    replace h0 := h0.below hG
    replace h1 := h1.below hG
    replace h2 := h2.below hG
    replace h3 := h3.below hG
    replace h4 := h4.below hG
    replace h5 := h5.below hG
    replace b0 := b0.below hG
    replace b1 := b1.below hG
    replace b9 := b9.below hG
    replace H0 := H0.trans (hG.mono H0.size)
    clear hG
    obtain ⟨cb60, cb61, cb62⟩ := b6.cells3
    go_wp2_with fail
    clear cb60 cb61 cb62
    refine (nqs_v gD HD.out).mono ?_
    rintro e w501 ⟨rfl, hb⟩
    replace h0 := h0.below hb
    replace h1 := h1.below hb
    replace h2 := h2.below hb
    replace h3 := h3.below hb
    replace h4 := h4.below hb
    replace h5 := h5.below hb
    replace gD := gD.below hb
    replace b0 := b0.below hb
    replace b1 := b1.below hb
    replace b9 := b9.below hb
    replace b6 := b6.below hb
    replace H0 := H0.trans (hb.mono H0.size)
    clear hb
    obtain ⟨cb90, yb90, cb91, yb91, cb92, yb92, cb93, yb93, cb94, yb94, cb95, yb95⟩ := b9.cf6
    go_wp2_with fail
    clear cb90 yb90 cb91 yb91 cb92 yb92 cb93 yb93 cb94 yb94 cb95 yb95
    have hg := only_store6 w501 (w.heap.size + 1 + 1) (.bool false) (.slice none 0 0) (.slice none 0 0) (.bool false) (.slice none 0 0) (.slice none 0 0)
    have hB := b9.stored6 (.bool false) (.slice none 0 0) (.slice none 0 0) (.bool false) (.slice none 0 0) (.slice none 0 0)
    generalize hX : ((((((w501.setCell ⟨w.heap.size + 1 + 1, 0, none⟩ (.bool false)).setCell ⟨w.heap.size + 1 + 1, 1, none⟩ (.slice none 0 0)).setCell ⟨w.heap.size + 1 + 1, 2, none⟩ (.slice none 0 0)).setCell ⟨w.heap.size + 1 + 1, 3, none⟩ (.bool false)).setCell ⟨w.heap.size + 1 + 1, 4, none⟩ (.slice none 0 0)).setCell ⟨w.heap.size + 1 + 1, 5, none⟩ (.slice none 0 0)) = X502 at hg hB ⊢
    clear hX
    replace h0 := h0.kept b9 (by simp [notInt]) hg
    replace h1 := h1.kept b9 (by simp [notInt]) hg
    replace h2 := h2.kept b9 (by simp [notInt]) hg
    replace h3 := h3.kept b9 (by simp [notInt]) hg
    replace h4 := h4.kept b9 (by simp [notInt]) hg
    replace h5 := h5.kept b9 (by simp [notInt]) hg
    replace gD := gD.kept b9 (by simp [notInt]) hg
    replace b0 := b0.other hg (by omega)
    replace b1 := b1.other hg (by omega)
    replace b6 := b6.other hg (by omega)
    replace b9 := hB
    replace H0 := below_only H0 hg (by omega) H0.size
    clear hg hB
    refine bodyPost_ret (ret_geopb_b rfl rfl b9) rfl ?_
    exact ⟨rfl, H0⟩
end
end Go.Proofs.YtancgkmkbgkncaaGreat
