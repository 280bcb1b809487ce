/-
  The walk of the law LineComputes.
-/
import Derived.Test.YtancgkmkbgkncaaGreatSBox
import Derived.Test.YtancgkmkbgkncaaGreatSDivLong
import Derived.Test.YtancgkmkbgkncaaGreatSEA
import Derived.Test.YtancgkmkbgkncaaGreatSFormI
import Derived.Test.YtancgkmkbgkncaaGreatSIGcd
import Derived.Test.YtancgkmkbgkncaaGreatSK1
import Derived.Test.YtancgkmkbgkncaaGreatSK2
import Derived.Test.YtancgkmkbgkncaaGreatSK3
import Derived.Test.YtancgkmkbgkncaaGreatSK4
import Derived.Test.YtancgkmkbgkncaaGreatSK5
import Derived.Test.YtancgkmkbgkncaaGreatSK6
import Derived.Test.YtancgkmkbgkncaaGreatSK7
import Derived.Test.YtancgkmkbgkncaaGreatSK8
import Derived.Test.YtancgkmkbgkncaaGreatSK9
import Derived.Test.YtancgkmkbgkncaaGreatSLnA
import Derived.Test.YtancgkmkbgkncaaGreatSLnB
import Derived.Test.YtancgkmkbgkncaaGreatSLnD
import Derived.Test.YtancgkmkbgkncaaGreatSLnG
import Derived.Test.YtancgkmkbgkncaaGreatSLnH
import Derived.Test.YtancgkmkbgkncaaGreatSLnK
import Derived.Test.YtancgkmkbgkncaaGreatSLnM
import Derived.Test.YtancgkmkbgkncaaGreatSLnP
import Derived.Test.YtancgkmkbgkncaaGreatSLnQ
import Derived.Test.YtancgkmkbgkncaaGreatSLnT
import Derived.Test.YtancgkmkbgkncaaGreatSLnV
import Derived.Test.YtancgkmkbgkncaaGreatSLnW
import Derived.Test.YtancgkmkbgkncaaGreatSN1
import Derived.Test.YtancgkmkbgkncaaGreatSOrd
import Derived.Test.YtancgkmkbgkncaaGreatSPhase
import Derived.Test.YtancgkmkbgkncaaGreatSPtA
import Derived.Test.YtancgkmkbgkncaaGreatSPtG
import Derived.Test.YtancgkmkbgkncaaGreatSPtT
import Derived.Test.YtancgkmkbgkncaaGreatSR1
import Derived.Test.YtancgkmkbgkncaaGreatSRatA
import Derived.Test.YtancgkmkbgkncaaGreatSRatC
import Derived.Test.YtancgkmkbgkncaaGreatSRatD
import Derived.Test.YtancgkmkbgkncaaGreatSRatR
import Derived.Test.YtancgkmkbgkncaaGreatSRatS
import Derived.Test.YtancgkmkbgkncaaGreatSRatT
import Derived.Test.YtancgkmkbgkncaaGreatSS1
import Derived.Test.YtancgkmkbgkncaaGreatSShelf
import Derived.Deep.Cut
namespace Go.Proofs.YtancgkmkbgkncaaGreat
open Go.RowKit

section
variable {A0 A1 A2 A3 A4 A5 A6 A7 A8 A9 A10 A11 A12 A13 A14 A15 A16 A17 A18 A19 A20 A21 A22 A23 D0 D1 D2 D3 D4 D5 D6 D7 D8 D9 D10 D11 D12 D13 D14 D15 D16 D17 D18 D19 D20 D21 D22 D23 : Option Addr} {n0 n1 n2 n3 n4 n5 n6 n7 n8 n9 n10 n11 n12 n13 n14 n15 n16 n17 n18 n19 n20 n21 n22 n23 c0 c1 c2 c3 c4 c5 c6 c7 c8 c9 c10 c11 c12 c13 c14 c15 c16 c17 c18 c19 c20 c21 c22 c23 m0 m1 m2 m3 m4 m5 m6 m7 m8 m9 m10 m11 m12 m13 m14 m15 m16 m17 m18 m19 m20 m21 m22 m23 e0 e1 e2 e3 e4 e5 e6 e7 e8 e9 e10 e11 e12 e13 e14 e15 e16 e17 e18 e19 e20 e21 e22 e23 : Nat} {s0 s1 s2 s3 s4 s5 s6 s7 s8 s9 s10 s11 s12 s13 s14 s15 s16 s17 s18 s19 s20 s21 s22 s23 : Bool} {q0 q1 q2 q3 q4 q5 q6 q7 : Rat} {z0 z1 z2 z3 z4 z5 z6 z7 z8 z9 z10 z11 : Int} {L L0 L1 x y : Nat} {k : Int} {b : Bool} {w : World}
theorem base_x (z0 z1 z2 : Int) : atX z0 z1 z2 ((0 : Int) : Rat) = -((z2 : Rat) / ((z1 : Rat) * (z1 : Rat) + -(z0 : Rat) * -(z0 : Rat))) * (z0 : Rat) := by unfold atX; rw [show ((0 : Int) : Rat) = 0 from rfl]; grind
theorem base_y (z0 z1 z2 : Int) : atY z0 z1 z2 ((0 : Int) : Rat) = -((z2 : Rat) / ((z1 : Rat) * (z1 : Rat) + -(z0 : Rat) * -(z0 : Rat))) * (z1 : Rat) := by unfold atY; rw [show ((0 : Int) : Rat) = 0 from rfl]; grind
set_option maxRecDepth 100000 in
set_option maxHeartbeats 16000000 in
theorem linecomputes_any {v : Value} (HI : Ints w v) :
    Calls Tryz.prog 4 #[v] w fun e w' => e = .returned (.bool true) ∧ Below w.heap.size w w' := by
  go_enter Tryz.func4, Tryz.ntmps4
  go_wp2_with fail
  refine (new_any HI).mono ?_
  rintro e w1 ⟨rfl, hT, H0, hsz⟩
  have hlt : w.heap.size < w1.heap.size := by omega
  clear hsz HI
  go_wp2_with fail
  refine (tl_v hT hlt).mono ?_
  rintro e w2 ⟨z0, z1, z2, s21, A21, n21, c21, s22, A22, n22, c22, s23, A23, n23, c23, rfl, hsl7, g21, g22, g23, hT', hg⟩
  replace hlt := Nat.lt_of_lt_of_le hlt hg.size
  replace H0 := H0.grown hg H0.size (by rintro k hk; injection hk with hk; omega)
  clear hT
  have hT := hT'
  clear hT' hg
  go_wp2_with fail
  refine (tpoint_v hT hlt).mono ?_
  rintro e w3 ⟨q0, q1, s10, A10, n10, c10, D10, m10, e10, s11, A11, n11, c11, D11, m11, e11, rfl, p0, p1, hT', hg⟩
  replace g21 := g21.tape hT hg
  replace g22 := g22.tape hT hg
  replace g23 := g23.tape hT hg
  replace hlt := Nat.lt_of_lt_of_le hlt hg.size
  replace H0 := H0.grown hg H0.size (by rintro k hk; injection hk with hk; omega)
  clear hT
  have hT := hT'
  clear hT' hg
  go_wp2_with fail
  refine (tq_v hT hlt).mono ?_
  rintro e w4 ⟨q2, s12, A12, n12, c12, D12, m12, e12, rfl, p2, hT', hg⟩
  replace g21 := g21.tape hT hg
  replace g22 := g22.tape hT hg
  replace g23 := g23.tape hT hg
  replace p0 := p0.tape hT hg
  replace p1 := p1.tape hT hg
  replace hlt := Nat.lt_of_lt_of_le hlt hg.size
  replace H0 := H0.grown hg H0.size (by rintro k hk; injection hk with hk; omega)
  clear hT
  have hT := hT'
  clear hT' hg
  clear hT hlt
  obtain ⟨W5, hW, b4, b5, b6, hbW, hszW5⟩ := boxes3 w4 #[.bool s21, .slice A21 n21 c21, .bool s22, .slice A22 n22 c22, .bool s23, .slice A23 n23 c23] #[.bool s10, .slice A10 n10 c10, .slice D10 m10 e10, .bool s11, .slice A11 n11 c11, .slice D11 m11 e11] #[.bool s12, .slice A12 n12 c12, .slice D12 m12 e12] 37 48 46
  skip
  skip
  replace g21 := g21.below hbW
  replace g22 := g22.below hbW
  replace g23 := g23.below hbW
  replace p0 := p0.below hbW
  replace p1 := p1.below hbW
  replace p2 := p2.below hbW
  replace H0 := H0.trans (hbW.mono H0.size)
  clear hbW
  have cb40 := b4.cell 0 _ rfl
  have cb41 := b4.cell 1 _ rfl
  have cb42 := b4.cell 2 _ rfl
  have cb43 := b4.cell 3 _ rfl
  have cb44 := b4.cell 4 _ rfl
  have cb45 := b4.cell 5 _ rfl
  go_wp2_with fail
  clear hW
  clear cb40 cb41 cb42 cb43 cb44 cb45
  refine (gtol_v g21 g22 g23 (by decide)).mono ?_
  rintro e w6 ⟨s18, A18, n18, c18, s19, A19, n19, c19, s20, A20, n20, c20, rfl, g18, g19, g20, hb⟩
  replace g21 := g21.below hb
  replace g22 := g22.below hb
  replace g23 := g23.below hb
  replace p0 := p0.below hb
  replace p1 := p1.below hb
  replace p2 := p2.below hb
  replace b4 := b4.below hb
  replace b5 := b5.below hb
  replace b6 := b6.below hb
  replace H0 := H0.trans (hb.mono H0.size)
  clear hb
  have lb4_7 := b4.lt
  have lb5_7 := b5.lt
  have lb6_7 := b6.lt
  obtain ⟨W7, hW, b7, hbW, hszW7⟩ := boxes1 w6 #[.bool s18, .slice A18 n18 c18, .bool s19, .slice A19 n19 c19, .bool s20, .slice A20 n20 c20] 30
  skip
  skip
  replace g21 := g21.below hbW
  replace g22 := g22.below hbW
  replace g23 := g23.below hbW
  replace p0 := p0.below hbW
  replace p1 := p1.below hbW
  replace p2 := p2.below hbW
  replace g18 := g18.below hbW
  replace g19 := g19.below hbW
  replace g20 := g20.below hbW
  replace b4 := b4.below hbW
  replace b5 := b5.below hbW
  replace b6 := b6.below hbW
  replace H0 := H0.trans (hbW.mono H0.size)
  clear hbW
  go_wp2_with fail
  clear hW
  have V0 := Lib.hid hsl7.1
  clear hsl7
  obtain ⟨kS, hkS⟩ : ∃ k, rsg ((z0 : Rat) * q0 + (z1 : Rat) * q1 + (z2 : Rat)) = k := ⟨_, rfl⟩
  have HS := Lib.hid hkS
  clear hkS
  have ekS : ((kS : Int) == kS) = true := by simp
  have HB0 := Lib.hid (base_x z0 z1 z2)
  have HB1 := Lib.hid (base_y z0 z1 z2)
  have hD := drawn_below W7
  replace g21 := g21.below hD
  replace g22 := g22.below hD
  replace g23 := g23.below hD
  replace p0 := p0.below hD
  replace p1 := p1.below hD
  replace p2 := p2.below hD
  replace g18 := g18.below hD
  replace g19 := g19.below hD
  replace g20 := g20.below hD
  replace b4 := b4.below hD
  replace b5 := b5.below hD
  replace b6 := b6.below hD
  replace b7 := b7.below hD
  replace H0 := H0.trans (hD.mono H0.size)
  clear hD
  refine wp_region_noPanic ?_
  refine wp_region_held_drew (S := (fun V => V.cell? ⟨w4.heap.size, 0, none⟩ = some (.bool s21) ∧ V.cell? ⟨w4.heap.size, 1, none⟩ = some (.slice A21 n21 c21) ∧ V.cell? ⟨w4.heap.size, 2, none⟩ = some (.bool s22) ∧ V.cell? ⟨w4.heap.size, 3, none⟩ = some (.slice A22 n22 c22) ∧ V.cell? ⟨w4.heap.size, 4, none⟩ = some (.bool s23) ∧ V.cell? ⟨w4.heap.size, 5, none⟩ = some (.slice A23 n23 c23) ∧ V.cell? ⟨w4.heap.size + 1, 0, none⟩ = some (.bool s10) ∧ V.cell? ⟨w4.heap.size + 1, 1, none⟩ = some (.slice A10 n10 c10) ∧ V.cell? ⟨w4.heap.size + 1, 2, none⟩ = some (.slice D10 m10 e10) ∧ V.cell? ⟨w4.heap.size + 1, 3, none⟩ = some (.bool s11) ∧ V.cell? ⟨w4.heap.size + 1, 4, none⟩ = some (.slice A11 n11 c11) ∧ V.cell? ⟨w4.heap.size + 1, 5, none⟩ = some (.slice D11 m11 e11) ∧ V.cell? ⟨w4.heap.size + 1 + 1, 0, none⟩ = some (.bool s12) ∧ V.cell? ⟨w4.heap.size + 1 + 1, 1, none⟩ = some (.slice A12 n12 c12) ∧ V.cell? ⟨w4.heap.size + 1 + 1, 2, none⟩ = some (.slice D12 m12 e12) ∧ V.cell? ⟨w6.heap.size, 0, none⟩ = some (.bool s18) ∧ V.cell? ⟨w6.heap.size, 1, none⟩ = some (.slice A18 n18 c18) ∧ V.cell? ⟨w6.heap.size, 2, none⟩ = some (.bool s19) ∧ V.cell? ⟨w6.heap.size, 3, none⟩ = some (.slice A19 n19 c19) ∧ V.cell? ⟨w6.heap.size, 4, none⟩ = some (.bool s20) ∧ V.cell? ⟨w6.heap.size, 5, none⟩ = some (.slice A20 n20 c20))) (by kernel_rfl) ⟨b4.cell 0 _ rfl, b4.cell 1 _ rfl, b4.cell 2 _ rfl, b4.cell 3 _ rfl, b4.cell 4 _ rfl, b4.cell 5 _ rfl, b5.cell 0 _ rfl, b5.cell 1 _ rfl, b5.cell 2 _ rfl, b5.cell 3 _ rfl, b5.cell 4 _ rfl, b5.cell 5 _ rfl, b6.cell 0 _ rfl, b6.cell 1 _ rfl, b6.cell 2 _ rfl, b7.cell 0 _ rfl, b7.cell 1 _ rfl, b7.cell 2 _ rfl, b7.cell 3 _ rfl, b7.cell 4 _ rfl, b7.cell 5 _ rfl⟩ (fun hHeld => ?_)
  generalize W7.drew = v8 at H0 hHeld g21 g22 g23 p0 p1 p2 g18 g19 g20 b4 b5 b6 b7 ⊢
  refine wpAnyH_ready (rs := [0]) (by kernel_rfl) (by simp) (AllReadyH.cons (o := _) rfl (fun K hK => ?_) AllReadyH.nil)
  go_simp
  go_at_call 10
  refine (known5_any).mono ?_
  rintro e w9 ⟨rfl, hb⟩
  replace g21 := g21.below hb
  replace g22 := g22.below hb
  replace g23 := g23.below hb
  replace p0 := p0.below hb
  replace p1 := p1.below hb
  replace p2 := p2.below hb
  replace g18 := g18.below hb
  replace g19 := g19.below hb
  replace g20 := g20.below hb
  replace b4 := b4.below hb
  replace b5 := b5.below hb
  replace b6 := b6.below hb
  replace b7 := b7.below hb
  replace H0 := H0.trans (hb.mono H0.size)
  clear hb
  go_wp2_with fail
  refine hK.out _ _ ⟨b4.cell 0 _ rfl, b4.cell 1 _ rfl, b4.cell 2 _ rfl, b4.cell 3 _ rfl, b4.cell 4 _ rfl, b4.cell 5 _ rfl, b5.cell 0 _ rfl, b5.cell 1 _ rfl, b5.cell 2 _ rfl, b5.cell 3 _ rfl, b5.cell 4 _ rfl, b5.cell 5 _ rfl, b6.cell 0 _ rfl, b6.cell 1 _ rfl, b6.cell 2 _ rfl, b7.cell 0 _ rfl, b7.cell 1 _ rfl, b7.cell 2 _ rfl, b7.cell 3 _ rfl, b7.cell 4 _ rfl, b7.cell 5 _ rfl⟩ (fun hHeld => ?_)
  clear hK K
  (try simp only [List.getElem_toArray, List.getElem_cons_succ, List.getElem_cons_zero, Act.put, List.setIfInBounds_toArray, List.set_cons_zero, List.set_cons_succ])
  refine wpAnyH_take (i := 1) (v := ?_) rfl (by kernel_rfl) (by kernel_rfl) (by kernel_rfl) (fun _ _ _ h => h) (Or.inl ⟨by rfl, ?_⟩) (by assumption) ?_
  rotate_left
  · (intro w hSw; (try dsimp only at hSw); go_simp; (try with_reducible rfl))
  (try simp only [List.getElem_toArray, List.getElem_cons_succ, List.getElem_cons_zero, Act.put, List.setIfInBounds_toArray, List.set_cons_zero, List.set_cons_succ])
  refine wpAnyH_take (i := 2) (v := ?_) rfl (by kernel_rfl) (by kernel_rfl) (by kernel_rfl) (fun _ _ _ h => h) (Or.inl ⟨by rfl, ?_⟩) (by assumption) ?_
  rotate_left
  · (intro w hSw; (try dsimp only at hSw); go_simp; (try with_reducible rfl))
  (try simp only [List.getElem_toArray, List.getElem_cons_succ, List.getElem_cons_zero, Act.put, List.setIfInBounds_toArray, List.set_cons_zero, List.set_cons_succ])
  refine wpAnyH_take (i := 3) (v := ?_) rfl (by kernel_rfl) (by kernel_rfl) (by kernel_rfl) (fun _ _ _ h => h) (Or.inl ⟨by rfl, ?_⟩) (by assumption) ?_
  rotate_left
  · (intro w hSw; (try dsimp only at hSw); go_simp; (try with_reducible rfl))
  (try simp only [List.getElem_toArray, List.getElem_cons_succ, List.getElem_cons_zero, Act.put, List.setIfInBounds_toArray, List.set_cons_zero, List.set_cons_succ])
  refine wpAnyH_take (i := 6) (v := ?_) rfl (by kernel_rfl) (by kernel_rfl) (by kernel_rfl) (fun _ _ _ h => h) (Or.inl ⟨by rfl, ?_⟩) (by assumption) ?_
  rotate_left
  · (intro w hSw; (try dsimp only at hSw); go_simp; (try with_reducible rfl))
  (try simp only [List.getElem_toArray, List.getElem_cons_succ, List.getElem_cons_zero, Act.put, List.setIfInBounds_toArray, List.set_cons_zero, List.set_cons_succ])
  refine wpAnyH_take (i := 7) (v := ?_) rfl (by kernel_rfl) (by kernel_rfl) (by kernel_rfl) (fun _ _ _ h => h) (Or.inl ⟨by rfl, ?_⟩) (by assumption) ?_
  rotate_left
  · (intro w hSw; (try dsimp only at hSw); go_simp; (try with_reducible rfl))
  (try simp only [List.getElem_toArray, List.getElem_cons_succ, List.getElem_cons_zero, Act.put, List.setIfInBounds_toArray, List.set_cons_zero, List.set_cons_succ])
  refine wpAnyH_ready (rs := [4]) (by kernel_rfl) (by simp) (AllReadyH.cons (o := _) rfl (fun K hK => ?_) AllReadyH.nil)
  go_simp
  go_at_call 19
  refine (gtop_v p0 p1 (by decide)).mono ?_
  rintro e w10 ⟨s14, A14, n14, c14, D14, m14, e14, s15, A15, n15, c15, D15, m15, e15, rfl, k14, k15, hb⟩
  replace g21 := g21.below hb
  replace g22 := g22.below hb
  replace g23 := g23.below hb
  replace p0 := p0.below hb
  replace p1 := p1.below hb
  replace p2 := p2.below hb
  replace g18 := g18.below hb
  replace g19 := g19.below hb
  replace g20 := g20.below hb
  replace b4 := b4.below hb
  replace b5 := b5.below hb
  replace b6 := b6.below hb
  replace b7 := b7.below hb
  replace H0 := H0.trans (hb.mono H0.size)
  clear hb
  go_wp2_with fail
  refine hK.out _ _ ⟨b4.cell 0 _ rfl, b4.cell 1 _ rfl, b4.cell 2 _ rfl, b4.cell 3 _ rfl, b4.cell 4 _ rfl, b4.cell 5 _ rfl, b5.cell 0 _ rfl, b5.cell 1 _ rfl, b5.cell 2 _ rfl, b5.cell 3 _ rfl, b5.cell 4 _ rfl, b5.cell 5 _ rfl, b6.cell 0 _ rfl, b6.cell 1 _ rfl, b6.cell 2 _ rfl, b7.cell 0 _ rfl, b7.cell 1 _ rfl, b7.cell 2 _ rfl, b7.cell 3 _ rfl, b7.cell 4 _ rfl, b7.cell 5 _ rfl⟩ (fun hHeld => ?_)
  clear hK K
  (try simp only [List.getElem_toArray, List.getElem_cons_succ, List.getElem_cons_zero, Act.put, List.setIfInBounds_toArray, List.set_cons_zero, List.set_cons_succ])
  refine wpAnyH_ready (rs := [5]) (by kernel_rfl) (by simp) (AllReadyH.cons (o := _) rfl (fun K hK => ?_) AllReadyH.nil)
  go_simp
  go_at_call 25
  refine (lvalue_v (g18.more (by decide)) (g19.more (by decide)) (g20.more (by decide)) V0.out k14 k15 (by decide)).mono ?_
  rintro e w11 ⟨s0, A0, n0, c0, D0, m0, e0, rfl, u0, hb⟩
  replace g21 := g21.below hb
  replace g22 := g22.below hb
  replace g23 := g23.below hb
  replace p0 := p0.below hb
  replace p1 := p1.below hb
  replace p2 := p2.below hb
  replace g18 := g18.below hb
  replace g19 := g19.below hb
  replace g20 := g20.below hb
  replace k14 := k14.below hb
  replace k15 := k15.below hb
  replace b4 := b4.below hb
  replace b5 := b5.below hb
  replace b6 := b6.below hb
  replace b7 := b7.below hb
  replace H0 := H0.trans (hb.mono H0.size)
  clear hb
  clear k14
  clear k15
  go_wp2_with fail
  refine hK.out _ _ ⟨b4.cell 0 _ rfl, b4.cell 1 _ rfl, b4.cell 2 _ rfl, b4.cell 3 _ rfl, b4.cell 4 _ rfl, b4.cell 5 _ rfl, b5.cell 0 _ rfl, b5.cell 1 _ rfl, b5.cell 2 _ rfl, b5.cell 3 _ rfl, b5.cell 4 _ rfl, b5.cell 5 _ rfl, b6.cell 0 _ rfl, b6.cell 1 _ rfl, b6.cell 2 _ rfl, b7.cell 0 _ rfl, b7.cell 1 _ rfl, b7.cell 2 _ rfl, b7.cell 3 _ rfl, b7.cell 4 _ rfl, b7.cell 5 _ rfl⟩ (fun hHeld => ?_)
  clear hK K
  (try simp only [List.getElem_toArray, List.getElem_cons_succ, List.getElem_cons_zero, Act.put, List.setIfInBounds_toArray, List.set_cons_zero, List.set_cons_succ])
  refine wpAnyH_ready (rs := [8]) (by kernel_rfl) (by simp) (AllReadyH.cons (o := _) rfl (fun K hK => ?_) AllReadyH.nil)
  go_simp
  go_at_call 27
  refine (gvalue_v (g21.more (by decide)) (g22.more (by decide)) (g23.more (by decide)) (p0.more (by decide)) (p1.more (by decide))).mono ?_
  rintro e w12 ⟨s1, A1, n1, c1, D1, m1, e1, rfl, u1, hb⟩
  replace g21 := g21.below hb
  replace g22 := g22.below hb
  replace g23 := g23.below hb
  replace p0 := p0.below hb
  replace p1 := p1.below hb
  replace p2 := p2.below hb
  replace g18 := g18.below hb
  replace g19 := g19.below hb
  replace g20 := g20.below hb
  replace u0 := u0.below hb
  replace b4 := b4.below hb
  replace b5 := b5.below hb
  replace b6 := b6.below hb
  replace b7 := b7.below hb
  replace H0 := H0.trans (hb.mono H0.size)
  clear hb
  go_wp2_with fail
  refine hK.out _ _ ⟨b4.cell 0 _ rfl, b4.cell 1 _ rfl, b4.cell 2 _ rfl, b4.cell 3 _ rfl, b4.cell 4 _ rfl, b4.cell 5 _ rfl, b5.cell 0 _ rfl, b5.cell 1 _ rfl, b5.cell 2 _ rfl, b5.cell 3 _ rfl, b5.cell 4 _ rfl, b5.cell 5 _ rfl, b6.cell 0 _ rfl, b6.cell 1 _ rfl, b6.cell 2 _ rfl, b7.cell 0 _ rfl, b7.cell 1 _ rfl, b7.cell 2 _ rfl, b7.cell 3 _ rfl, b7.cell 4 _ rfl, b7.cell 5 _ rfl⟩ (fun hHeld => ?_)
  clear hK K
  (try simp only [List.getElem_toArray, List.getElem_cons_succ, List.getElem_cons_zero, Act.put, List.setIfInBounds_toArray, List.set_cons_zero, List.set_cons_succ])
  refine wpAnyH_ready (rs := [9]) (by kernel_rfl) (by simp) (AllReadyH.cons (o := _) rfl (fun K hK => ?_) AllReadyH.nil)
  go_simp
  go_at_call 26
  refine (toq_v u1 (by decide)).mono ?_
  rintro e w13 ⟨s2, A2, n2, c2, D2, m2, e2, rfl, u2, hb⟩
  replace g21 := g21.below hb
  replace g22 := g22.below hb
  replace g23 := g23.below hb
  replace p0 := p0.below hb
  replace p1 := p1.below hb
  replace p2 := p2.below hb
  replace g18 := g18.below hb
  replace g19 := g19.below hb
  replace g20 := g20.below hb
  replace u0 := u0.below hb
  replace u1 := u1.below hb
  replace b4 := b4.below hb
  replace b5 := b5.below hb
  replace b6 := b6.below hb
  replace b7 := b7.below hb
  replace H0 := H0.trans (hb.mono H0.size)
  clear hb
  clear u1
  go_wp2_with fail
  refine hK.out _ _ ⟨b4.cell 0 _ rfl, b4.cell 1 _ rfl, b4.cell 2 _ rfl, b4.cell 3 _ rfl, b4.cell 4 _ rfl, b4.cell 5 _ rfl, b5.cell 0 _ rfl, b5.cell 1 _ rfl, b5.cell 2 _ rfl, b5.cell 3 _ rfl, b5.cell 4 _ rfl, b5.cell 5 _ rfl, b6.cell 0 _ rfl, b6.cell 1 _ rfl, b6.cell 2 _ rfl, b7.cell 0 _ rfl, b7.cell 1 _ rfl, b7.cell 2 _ rfl, b7.cell 3 _ rfl, b7.cell 4 _ rfl, b7.cell 5 _ rfl⟩ (fun hHeld => ?_)
  clear hK K
  (try simp only [List.getElem_toArray, List.getElem_cons_succ, List.getElem_cons_zero, Act.put, List.setIfInBounds_toArray, List.set_cons_zero, List.set_cons_succ])
  refine wpAnyH_ready (rs := [10]) (by kernel_rfl) (by simp) (AllReadyH.cons (o := _) rfl (fun K hK => ?_) AllReadyH.nil)
  go_simp
  go_at_call 24
  refine (sameq_d u0 u2 (decide_eq_true rfl)).mono ?_
  rintro e w14 ⟨rfl, hb⟩
  replace g21 := g21.below hb
  replace g22 := g22.below hb
  replace g23 := g23.below hb
  replace p0 := p0.below hb
  replace p1 := p1.below hb
  replace p2 := p2.below hb
  replace g18 := g18.below hb
  replace g19 := g19.below hb
  replace g20 := g20.below hb
  replace u0 := u0.below hb
  replace u2 := u2.below hb
  replace b4 := b4.below hb
  replace b5 := b5.below hb
  replace b6 := b6.below hb
  replace b7 := b7.below hb
  replace H0 := H0.trans (hb.mono H0.size)
  clear hb
  clear u0
  clear u2
  go_wp2_with fail
  refine hK.out _ _ ⟨b4.cell 0 _ rfl, b4.cell 1 _ rfl, b4.cell 2 _ rfl, b4.cell 3 _ rfl, b4.cell 4 _ rfl, b4.cell 5 _ rfl, b5.cell 0 _ rfl, b5.cell 1 _ rfl, b5.cell 2 _ rfl, b5.cell 3 _ rfl, b5.cell 4 _ rfl, b5.cell 5 _ rfl, b6.cell 0 _ rfl, b6.cell 1 _ rfl, b6.cell 2 _ rfl, b7.cell 0 _ rfl, b7.cell 1 _ rfl, b7.cell 2 _ rfl, b7.cell 3 _ rfl, b7.cell 4 _ rfl, b7.cell 5 _ rfl⟩ (fun hHeld => ?_)
  clear hK K
  (try simp only [List.getElem_toArray, List.getElem_cons_succ, List.getElem_cons_zero, Act.put, List.setIfInBounds_toArray, List.set_cons_zero, List.set_cons_succ])
  refine wpAnyH_take (i := 11) (v := ?_) rfl (by kernel_rfl) (by kernel_rfl) (by kernel_rfl) (fun _ _ _ h => h) (Or.inl ⟨by rfl, ?_⟩) (by assumption) ?_
  rotate_left
  · (intro w hSw; (try dsimp only at hSw); go_simp; (try with_reducible rfl))
  (try simp only [List.getElem_toArray, List.getElem_cons_succ, List.getElem_cons_zero, Act.put, List.setIfInBounds_toArray, List.set_cons_zero, List.set_cons_succ])
  refine wpAnyH_take (i := 12) (v := ?_) rfl (by kernel_rfl) (by kernel_rfl) (by kernel_rfl) (fun _ _ _ h => h) (Or.inl ⟨by rfl, ?_⟩) (by assumption) ?_
  rotate_left
  · (intro w hSw; (try dsimp only at hSw); go_simp; (try with_reducible rfl))
  (try simp only [List.getElem_toArray, List.getElem_cons_succ, List.getElem_cons_zero, Act.put, List.setIfInBounds_toArray, List.set_cons_zero, List.set_cons_succ])
  refine wpAnyH_take (i := 13) (v := ?_) rfl (by kernel_rfl) (by kernel_rfl) (by kernel_rfl) (fun _ _ _ h => h) (Or.inl ⟨by rfl, ?_⟩) (by assumption) ?_
  rotate_left
  · (intro w hSw; (try dsimp only at hSw); go_simp; (try with_reducible rfl))
  (try simp only [List.getElem_toArray, List.getElem_cons_succ, List.getElem_cons_zero, Act.put, List.setIfInBounds_toArray, List.set_cons_zero, List.set_cons_succ])
  refine wpAnyH_take (i := 14) (v := ?_) rfl (by kernel_rfl) (by kernel_rfl) (by kernel_rfl) (fun _ _ _ h => h) (Or.inl ⟨by rfl, ?_⟩) (by assumption) ?_
  rotate_left
  · (intro w hSw; (try dsimp only at hSw); go_simp; (try with_reducible rfl))
  (try simp only [List.getElem_toArray, List.getElem_cons_succ, List.getElem_cons_zero, Act.put, List.setIfInBounds_toArray, List.set_cons_zero, List.set_cons_succ])
  refine wpAnyH_take (i := 17) (v := ?_) rfl (by kernel_rfl) (by kernel_rfl) (by kernel_rfl) (fun _ _ _ h => h) (Or.inl ⟨by rfl, ?_⟩) (by assumption) ?_
  rotate_left
  · (intro w hSw; (try dsimp only at hSw); go_simp; (try with_reducible rfl))
  (try simp only [List.getElem_toArray, List.getElem_cons_succ, List.getElem_cons_zero, Act.put, List.setIfInBounds_toArray, List.set_cons_zero, List.set_cons_succ])
  refine wpAnyH_take (i := 18) (v := ?_) rfl (by kernel_rfl) (by kernel_rfl) (by kernel_rfl) (fun _ _ _ h => h) (Or.inl ⟨by rfl, ?_⟩) (by assumption) ?_
  rotate_left
  · (intro w hSw; (try dsimp only at hSw); go_simp; (try with_reducible rfl))
  (try simp only [List.getElem_toArray, List.getElem_cons_succ, List.getElem_cons_zero, Act.put, List.setIfInBounds_toArray, List.set_cons_zero, List.set_cons_succ])
  refine wpAnyH_ready (rs := [15]) (by kernel_rfl) (by simp) (AllReadyH.cons (o := _) rfl (fun K hK => ?_) AllReadyH.nil)
  go_simp
  go_at_call 19
  refine (gtop_v p0 p1 (by decide)).mono ?_
  rintro e w15 ⟨s14, A14, n14, c14, D14, m14, e14, s15, A15, n15, c15, D15, m15, e15, rfl, k14, k15, hb⟩
  replace g21 := g21.below hb
  replace g22 := g22.below hb
  replace g23 := g23.below hb
  replace p0 := p0.below hb
  replace p1 := p1.below hb
  replace p2 := p2.below hb
  replace g18 := g18.below hb
  replace g19 := g19.below hb
  replace g20 := g20.below hb
  replace b4 := b4.below hb
  replace b5 := b5.below hb
  replace b6 := b6.below hb
  replace b7 := b7.below hb
  replace H0 := H0.trans (hb.mono H0.size)
  clear hb
  go_wp2_with fail
  refine hK.out _ _ ⟨b4.cell 0 _ rfl, b4.cell 1 _ rfl, b4.cell 2 _ rfl, b4.cell 3 _ rfl, b4.cell 4 _ rfl, b4.cell 5 _ rfl, b5.cell 0 _ rfl, b5.cell 1 _ rfl, b5.cell 2 _ rfl, b5.cell 3 _ rfl, b5.cell 4 _ rfl, b5.cell 5 _ rfl, b6.cell 0 _ rfl, b6.cell 1 _ rfl, b6.cell 2 _ rfl, b7.cell 0 _ rfl, b7.cell 1 _ rfl, b7.cell 2 _ rfl, b7.cell 3 _ rfl, b7.cell 4 _ rfl, b7.cell 5 _ rfl⟩ (fun hHeld => ?_)
  clear hK K
  (try simp only [List.getElem_toArray, List.getElem_cons_succ, List.getElem_cons_zero, Act.put, List.setIfInBounds_toArray, List.set_cons_zero, List.set_cons_succ])
  refine wpAnyH_ready (rs := [16]) (by kernel_rfl) (by simp) (AllReadyH.cons (o := _) rfl (fun K hK => ?_) AllReadyH.nil)
  go_simp
  go_at_call 28
  refine (lside_v (g18.more (by decide)) (g19.more (by decide)) (g20.more (by decide)) V0.out k14 k15 (by decide) HS.out).mono ?_
  rintro e w16 ⟨rfl, hb⟩
  replace g21 := g21.below hb
  replace g22 := g22.below hb
  replace g23 := g23.below hb
  replace p0 := p0.below hb
  replace p1 := p1.below hb
  replace p2 := p2.below hb
  replace g18 := g18.below hb
  replace g19 := g19.below hb
  replace g20 := g20.below hb
  replace k14 := k14.below hb
  replace k15 := k15.below hb
  replace b4 := b4.below hb
  replace b5 := b5.below hb
  replace b6 := b6.below hb
  replace b7 := b7.below hb
  replace H0 := H0.trans (hb.mono H0.size)
  clear hb
  clear k14
  clear k15
  go_wp2_with fail
  refine hK.out _ _ ⟨b4.cell 0 _ rfl, b4.cell 1 _ rfl, b4.cell 2 _ rfl, b4.cell 3 _ rfl, b4.cell 4 _ rfl, b4.cell 5 _ rfl, b5.cell 0 _ rfl, b5.cell 1 _ rfl, b5.cell 2 _ rfl, b5.cell 3 _ rfl, b5.cell 4 _ rfl, b5.cell 5 _ rfl, b6.cell 0 _ rfl, b6.cell 1 _ rfl, b6.cell 2 _ rfl, b7.cell 0 _ rfl, b7.cell 1 _ rfl, b7.cell 2 _ rfl, b7.cell 3 _ rfl, b7.cell 4 _ rfl, b7.cell 5 _ rfl⟩ (fun hHeld => ?_)
  clear hK K
  (try simp only [List.getElem_toArray, List.getElem_cons_succ, List.getElem_cons_zero, Act.put, List.setIfInBounds_toArray, List.set_cons_zero, List.set_cons_succ])
  refine wpAnyH_ready (rs := [19]) (by kernel_rfl) (by simp) (AllReadyH.cons (o := _) rfl (fun K hK => ?_) AllReadyH.nil)
  go_simp
  go_at_call 29
  refine (gside_v (g21.more (by decide)) (g22.more (by decide)) (g23.more (by decide)) (p0.more (by decide)) (p1.more (by decide)) HS.out).mono ?_
  rintro e w17 ⟨rfl, hb⟩
  replace g21 := g21.below hb
  replace g22 := g22.below hb
  replace g23 := g23.below hb
  replace p0 := p0.below hb
  replace p1 := p1.below hb
  replace p2 := p2.below hb
  replace g18 := g18.below hb
  replace g19 := g19.below hb
  replace g20 := g20.below hb
  replace b4 := b4.below hb
  replace b5 := b5.below hb
  replace b6 := b6.below hb
  replace b7 := b7.below hb
  replace H0 := H0.trans (hb.mono H0.size)
  clear hb
  go_wp2_with fail
  refine hK.out _ _ ⟨b4.cell 0 _ rfl, b4.cell 1 _ rfl, b4.cell 2 _ rfl, b4.cell 3 _ rfl, b4.cell 4 _ rfl, b4.cell 5 _ rfl, b5.cell 0 _ rfl, b5.cell 1 _ rfl, b5.cell 2 _ rfl, b5.cell 3 _ rfl, b5.cell 4 _ rfl, b5.cell 5 _ rfl, b6.cell 0 _ rfl, b6.cell 1 _ rfl, b6.cell 2 _ rfl, b7.cell 0 _ rfl, b7.cell 1 _ rfl, b7.cell 2 _ rfl, b7.cell 3 _ rfl, b7.cell 4 _ rfl, b7.cell 5 _ rfl⟩ (fun hHeld => ?_)
  clear hK K
  (try simp only [List.getElem_toArray, List.getElem_cons_succ, List.getElem_cons_zero, Act.put, List.setIfInBounds_toArray, List.set_cons_zero, List.set_cons_succ])
  refine wpAnyH_take (i := 20) (v := ?_) rfl (by kernel_rfl) (by kernel_rfl) (by kernel_rfl) (fun _ _ _ h => h) (Or.inl ⟨by rfl, ?_⟩) (by assumption) ?_
  rotate_left
  · (intro w hSw; (try dsimp only at hSw); go_simp; (try with_reducible rfl))
  (try simp only [List.getElem_toArray, List.getElem_cons_succ, List.getElem_cons_zero, Act.put, List.setIfInBounds_toArray, List.set_cons_zero, List.set_cons_succ])
  refine wpAnyH_take (i := 21) (v := ?_) rfl (by kernel_rfl) (by kernel_rfl) (by kernel_rfl) (fun _ _ _ h => h) (Or.inl ⟨by rfl, ?_⟩) (by assumption) ?_
  rotate_left
  · (intro w hSw; (try dsimp only at hSw); go_simp; (try with_reducible rfl))
  (try simp only [List.getElem_toArray, List.getElem_cons_succ, List.getElem_cons_zero, Act.put, List.setIfInBounds_toArray, List.set_cons_zero, List.set_cons_succ])
  refine wpAnyH_take (i := 22) (v := ?_) rfl (by kernel_rfl) (by kernel_rfl) (by kernel_rfl) (fun _ _ _ h => h) (Or.inl ⟨by rfl, ?_⟩) (by assumption) ?_
  rotate_left
  · (intro w hSw; (try dsimp only at hSw); go_simp; (try with_reducible rfl))
  (try simp only [List.getElem_toArray, List.getElem_cons_succ, List.getElem_cons_zero, Act.put, List.setIfInBounds_toArray, List.set_cons_zero, List.set_cons_succ])
  refine wpAnyH_take (i := 23) (v := ?_) rfl (by kernel_rfl) (by kernel_rfl) (by kernel_rfl) (fun _ _ _ h => h) (Or.inl ⟨by rfl, ?_⟩) (by assumption) ?_
  rotate_left
  · (intro w hSw; (try dsimp only at hSw); go_simp; (try with_reducible rfl))
  (try simp only [List.getElem_toArray, List.getElem_cons_succ, List.getElem_cons_zero, Act.put, List.setIfInBounds_toArray, List.set_cons_zero, List.set_cons_succ])
  refine wpAnyH_take (i := 25) (v := ?_) rfl (by kernel_rfl) (by kernel_rfl) (by kernel_rfl) (fun _ _ _ h => h) (Or.inl ⟨by rfl, ?_⟩) (by assumption) ?_
  rotate_left
  · (intro w hSw; (try dsimp only at hSw); go_simp; (try with_reducible rfl))
  (try simp only [List.getElem_toArray, List.getElem_cons_succ, List.getElem_cons_zero, Act.put, List.setIfInBounds_toArray, List.set_cons_zero, List.set_cons_succ])
  refine wpAnyH_ready (rs := [24]) (by kernel_rfl) (by simp) (AllReadyH.cons (o := _) rfl (fun K hK => ?_) AllReadyH.nil)
  go_simp
  go_at_call 31
  refine (ldir_v g18 g19 g20 V0.out (by decide)).mono ?_
  rintro e w18 ⟨s0, A0, n0, c0, D0, m0, e0, s1, A1, n1, c1, D1, m1, e1, rfl, u0, u1, hb⟩
  replace g21 := g21.below hb
  replace g22 := g22.below hb
  replace g23 := g23.below hb
  replace p0 := p0.below hb
  replace p1 := p1.below hb
  replace p2 := p2.below hb
  replace g18 := g18.below hb
  replace g19 := g19.below hb
  replace g20 := g20.below hb
  replace b4 := b4.below hb
  replace b5 := b5.below hb
  replace b6 := b6.below hb
  replace b7 := b7.below hb
  replace H0 := H0.trans (hb.mono H0.size)
  clear hb
  go_wp2_with fail
  refine hK.out _ _ ⟨b4.cell 0 _ rfl, b4.cell 1 _ rfl, b4.cell 2 _ rfl, b4.cell 3 _ rfl, b4.cell 4 _ rfl, b4.cell 5 _ rfl, b5.cell 0 _ rfl, b5.cell 1 _ rfl, b5.cell 2 _ rfl, b5.cell 3 _ rfl, b5.cell 4 _ rfl, b5.cell 5 _ rfl, b6.cell 0 _ rfl, b6.cell 1 _ rfl, b6.cell 2 _ rfl, b7.cell 0 _ rfl, b7.cell 1 _ rfl, b7.cell 2 _ rfl, b7.cell 3 _ rfl, b7.cell 4 _ rfl, b7.cell 5 _ rfl⟩ (fun hHeld => ?_)
  clear hK K
  (try simp only [List.getElem_toArray, List.getElem_cons_succ, List.getElem_cons_zero, Act.put, List.setIfInBounds_toArray, List.set_cons_zero, List.set_cons_succ])
  refine wpAnyH_ready (rs := [26]) (by kernel_rfl) (by simp) (AllReadyH.cons (o := _) rfl (fun K hK => ?_) AllReadyH.nil)
  go_simp
  go_at_call 32
  refine (gdir_v g21 g22).mono ?_
  rintro e w19 ⟨s2, A2, n2, c2, D2, m2, e2, s3, A3, n3, c3, D3, m3, e3, rfl, u2, u3, hb⟩
  replace g21 := g21.below hb
  replace g22 := g22.below hb
  replace g23 := g23.below hb
  replace p0 := p0.below hb
  replace p1 := p1.below hb
  replace p2 := p2.below hb
  replace g18 := g18.below hb
  replace g19 := g19.below hb
  replace g20 := g20.below hb
  replace u0 := u0.below hb
  replace u1 := u1.below hb
  replace b4 := b4.below hb
  replace b5 := b5.below hb
  replace b6 := b6.below hb
  replace b7 := b7.below hb
  replace H0 := H0.trans (hb.mono H0.size)
  clear hb
  go_wp2_with fail
  refine hK.out _ _ ⟨b4.cell 0 _ rfl, b4.cell 1 _ rfl, b4.cell 2 _ rfl, b4.cell 3 _ rfl, b4.cell 4 _ rfl, b4.cell 5 _ rfl, b5.cell 0 _ rfl, b5.cell 1 _ rfl, b5.cell 2 _ rfl, b5.cell 3 _ rfl, b5.cell 4 _ rfl, b5.cell 5 _ rfl, b6.cell 0 _ rfl, b6.cell 1 _ rfl, b6.cell 2 _ rfl, b7.cell 0 _ rfl, b7.cell 1 _ rfl, b7.cell 2 _ rfl, b7.cell 3 _ rfl, b7.cell 4 _ rfl, b7.cell 5 _ rfl⟩ (fun hHeld => ?_)
  clear hK K
  (try simp only [List.getElem_toArray, List.getElem_cons_succ, List.getElem_cons_zero, Act.put, List.setIfInBounds_toArray, List.set_cons_zero, List.set_cons_succ])
  refine wpAnyH_ready (rs := [27]) (by kernel_rfl) (by simp) (AllReadyH.cons (o := _) rfl (fun K hK => ?_) AllReadyH.nil)
  go_simp
  go_at_call 30
  refine (lsamep_t u0 u1 u2 u3 (by decide) rfl rfl).mono ?_
  rintro e w20 ⟨rfl, hb⟩
  replace g21 := g21.below hb
  replace g22 := g22.below hb
  replace g23 := g23.below hb
  replace p0 := p0.below hb
  replace p1 := p1.below hb
  replace p2 := p2.below hb
  replace g18 := g18.below hb
  replace g19 := g19.below hb
  replace g20 := g20.below hb
  replace u0 := u0.below hb
  replace u1 := u1.below hb
  replace u2 := u2.below hb
  replace u3 := u3.below hb
  replace b4 := b4.below hb
  replace b5 := b5.below hb
  replace b6 := b6.below hb
  replace b7 := b7.below hb
  replace H0 := H0.trans (hb.mono H0.size)
  clear hb
  clear u0
  clear u1
  clear u2
  clear u3
  go_wp2_with fail
  refine hK.out _ _ ⟨b4.cell 0 _ rfl, b4.cell 1 _ rfl, b4.cell 2 _ rfl, b4.cell 3 _ rfl, b4.cell 4 _ rfl, b4.cell 5 _ rfl, b5.cell 0 _ rfl, b5.cell 1 _ rfl, b5.cell 2 _ rfl, b5.cell 3 _ rfl, b5.cell 4 _ rfl, b5.cell 5 _ rfl, b6.cell 0 _ rfl, b6.cell 1 _ rfl, b6.cell 2 _ rfl, b7.cell 0 _ rfl, b7.cell 1 _ rfl, b7.cell 2 _ rfl, b7.cell 3 _ rfl, b7.cell 4 _ rfl, b7.cell 5 _ rfl⟩ (fun hHeld => ?_)
  clear hK K
  (try simp only [List.getElem_toArray, List.getElem_cons_succ, List.getElem_cons_zero, Act.put, List.setIfInBounds_toArray, List.set_cons_zero, List.set_cons_succ])
  refine wpAnyH_take (i := 28) (v := ?_) rfl (by kernel_rfl) (by kernel_rfl) (by kernel_rfl) (fun _ _ _ h => h) (Or.inl ⟨by rfl, ?_⟩) (by assumption) ?_
  rotate_left
  · (intro w hSw; (try dsimp only at hSw); go_simp; (try with_reducible rfl))
  (try simp only [List.getElem_toArray, List.getElem_cons_succ, List.getElem_cons_zero, Act.put, List.setIfInBounds_toArray, List.set_cons_zero, List.set_cons_succ])
  refine wpAnyH_take (i := 29) (v := ?_) rfl (by kernel_rfl) (by kernel_rfl) (by kernel_rfl) (fun _ _ _ h => h) (Or.inl ⟨by rfl, ?_⟩) (by assumption) ?_
  rotate_left
  · (intro w hSw; (try dsimp only at hSw); go_simp; (try with_reducible rfl))
  (try simp only [List.getElem_toArray, List.getElem_cons_succ, List.getElem_cons_zero, Act.put, List.setIfInBounds_toArray, List.set_cons_zero, List.set_cons_succ])
  refine wpAnyH_take (i := 30) (v := ?_) rfl (by kernel_rfl) (by kernel_rfl) (by kernel_rfl) (fun _ _ _ h => h) (Or.inl ⟨by rfl, ?_⟩) (by assumption) ?_
  rotate_left
  · (intro w hSw; (try dsimp only at hSw); go_simp; (try with_reducible rfl))
  (try simp only [List.getElem_toArray, List.getElem_cons_succ, List.getElem_cons_zero, Act.put, List.setIfInBounds_toArray, List.set_cons_zero, List.set_cons_succ])
  refine wpAnyH_take (i := 32) (v := ?_) rfl (by kernel_rfl) (by kernel_rfl) (by kernel_rfl) (fun _ _ _ h => h) (Or.inl ⟨by rfl, ?_⟩) (by assumption) ?_
  rotate_left
  · (intro w hSw; (try dsimp only at hSw); go_simp; (try with_reducible rfl))
  (try simp only [List.getElem_toArray, List.getElem_cons_succ, List.getElem_cons_zero, Act.put, List.setIfInBounds_toArray, List.set_cons_zero, List.set_cons_succ])
  refine wpAnyH_ready (rs := [31]) (by kernel_rfl) (by simp) (AllReadyH.cons (o := _) rfl (fun K hK => ?_) AllReadyH.nil)
  go_simp
  go_at_call 33
  refine (lbase_v g18 g19 g20 V0.out (by decide)).mono ?_
  rintro e w21 ⟨s0, A0, n0, c0, D0, m0, e0, s1, A1, n1, c1, D1, m1, e1, rfl, u0, u1, hb⟩
  replace g21 := g21.below hb
  replace g22 := g22.below hb
  replace g23 := g23.below hb
  replace p0 := p0.below hb
  replace p1 := p1.below hb
  replace p2 := p2.below hb
  replace g18 := g18.below hb
  replace g19 := g19.below hb
  replace g20 := g20.below hb
  replace b4 := b4.below hb
  replace b5 := b5.below hb
  replace b6 := b6.below hb
  replace b7 := b7.below hb
  replace H0 := H0.trans (hb.mono H0.size)
  clear hb
  go_wp2_with fail
  refine hK.out _ _ ⟨b4.cell 0 _ rfl, b4.cell 1 _ rfl, b4.cell 2 _ rfl, b4.cell 3 _ rfl, b4.cell 4 _ rfl, b4.cell 5 _ rfl, b5.cell 0 _ rfl, b5.cell 1 _ rfl, b5.cell 2 _ rfl, b5.cell 3 _ rfl, b5.cell 4 _ rfl, b5.cell 5 _ rfl, b6.cell 0 _ rfl, b6.cell 1 _ rfl, b6.cell 2 _ rfl, b7.cell 0 _ rfl, b7.cell 1 _ rfl, b7.cell 2 _ rfl, b7.cell 3 _ rfl, b7.cell 4 _ rfl, b7.cell 5 _ rfl⟩ (fun hHeld => ?_)
  clear hK K
  (try simp only [List.getElem_toArray, List.getElem_cons_succ, List.getElem_cons_zero, Act.put, List.setIfInBounds_toArray, List.set_cons_zero, List.set_cons_succ])
  refine wpAnyH_ready (rs := [33]) (by kernel_rfl) (by simp) (AllReadyH.cons (o := _) rfl (fun K hK => ?_) AllReadyH.nil)
  go_simp
  go_at_call 34
  refine (gbase_v (g21.more (by decide)) (g22.more (by decide)) (g23.more (by decide)) V0.out).mono ?_
  rintro e w22 ⟨s2, A2, n2, c2, D2, m2, e2, s3, A3, n3, c3, D3, m3, e3, rfl, u2, u3, hb⟩
  replace g21 := g21.below hb
  replace g22 := g22.below hb
  replace g23 := g23.below hb
  replace p0 := p0.below hb
  replace p1 := p1.below hb
  replace p2 := p2.below hb
  replace g18 := g18.below hb
  replace g19 := g19.below hb
  replace g20 := g20.below hb
  replace u0 := u0.below hb
  replace u1 := u1.below hb
  replace b4 := b4.below hb
  replace b5 := b5.below hb
  replace b6 := b6.below hb
  replace b7 := b7.below hb
  replace H0 := H0.trans (hb.mono H0.size)
  clear hb
  go_wp2_with fail
  refine hK.out _ _ ⟨b4.cell 0 _ rfl, b4.cell 1 _ rfl, b4.cell 2 _ rfl, b4.cell 3 _ rfl, b4.cell 4 _ rfl, b4.cell 5 _ rfl, b5.cell 0 _ rfl, b5.cell 1 _ rfl, b5.cell 2 _ rfl, b5.cell 3 _ rfl, b5.cell 4 _ rfl, b5.cell 5 _ rfl, b6.cell 0 _ rfl, b6.cell 1 _ rfl, b6.cell 2 _ rfl, b7.cell 0 _ rfl, b7.cell 1 _ rfl, b7.cell 2 _ rfl, b7.cell 3 _ rfl, b7.cell 4 _ rfl, b7.cell 5 _ rfl⟩ (fun hHeld => ?_)
  clear hK K
  (try simp only [List.getElem_toArray, List.getElem_cons_succ, List.getElem_cons_zero, Act.put, List.setIfInBounds_toArray, List.set_cons_zero, List.set_cons_succ])
  refine wpAnyH_ready (rs := [34]) (by kernel_rfl) (by simp) (AllReadyH.cons (o := _) rfl (fun K hK => ?_) AllReadyH.nil)
  go_simp
  go_at_call 30
  refine (lsamep_t u0 u1 u2 u3 (by decide) HB0.out HB1.out).mono ?_
  rintro e w23 ⟨rfl, hb⟩
  replace g21 := g21.below hb
  replace g22 := g22.below hb
  replace g23 := g23.below hb
  replace p0 := p0.below hb
  replace p1 := p1.below hb
  replace p2 := p2.below hb
  replace g18 := g18.below hb
  replace g19 := g19.below hb
  replace g20 := g20.below hb
  replace u0 := u0.below hb
  replace u1 := u1.below hb
  replace u2 := u2.below hb
  replace u3 := u3.below hb
  replace b4 := b4.below hb
  replace b5 := b5.below hb
  replace b6 := b6.below hb
  replace b7 := b7.below hb
  replace H0 := H0.trans (hb.mono H0.size)
  clear hb
  clear u0
  clear u1
  clear u2
  clear u3
  go_wp2_with fail
  refine hK.out _ _ ⟨b4.cell 0 _ rfl, b4.cell 1 _ rfl, b4.cell 2 _ rfl, b4.cell 3 _ rfl, b4.cell 4 _ rfl, b4.cell 5 _ rfl, b5.cell 0 _ rfl, b5.cell 1 _ rfl, b5.cell 2 _ rfl, b5.cell 3 _ rfl, b5.cell 4 _ rfl, b5.cell 5 _ rfl, b6.cell 0 _ rfl, b6.cell 1 _ rfl, b6.cell 2 _ rfl, b7.cell 0 _ rfl, b7.cell 1 _ rfl, b7.cell 2 _ rfl, b7.cell 3 _ rfl, b7.cell 4 _ rfl, b7.cell 5 _ rfl⟩ (fun hHeld => ?_)
  clear hK K
  (try simp only [List.getElem_toArray, List.getElem_cons_succ, List.getElem_cons_zero, Act.put, List.setIfInBounds_toArray, List.set_cons_zero, List.set_cons_succ])
  refine wpAnyH_take (i := 35) (v := ?_) rfl (by kernel_rfl) (by kernel_rfl) (by kernel_rfl) (fun _ _ _ h => h) (Or.inl ⟨by rfl, ?_⟩) (by assumption) ?_
  rotate_left
  · (intro w hSw; (try dsimp only at hSw); go_simp; (try with_reducible rfl))
  (try simp only [List.getElem_toArray, List.getElem_cons_succ, List.getElem_cons_zero, Act.put, List.setIfInBounds_toArray, List.set_cons_zero, List.set_cons_succ])
  refine wpAnyH_take (i := 36) (v := ?_) rfl (by kernel_rfl) (by kernel_rfl) (by kernel_rfl) (fun _ _ _ h => h) (Or.inl ⟨by rfl, ?_⟩) (by assumption) ?_
  rotate_left
  · (intro w hSw; (try dsimp only at hSw); go_simp; (try with_reducible rfl))
  (try simp only [List.getElem_toArray, List.getElem_cons_succ, List.getElem_cons_zero, Act.put, List.setIfInBounds_toArray, List.set_cons_zero, List.set_cons_succ])
  refine wpAnyH_take (i := 37) (v := ?_) rfl (by kernel_rfl) (by kernel_rfl) (by kernel_rfl) (fun _ _ _ h => h) (Or.inl ⟨by rfl, ?_⟩) (by assumption) ?_
  rotate_left
  · (intro w hSw; (try dsimp only at hSw); go_simp; (try with_reducible rfl))
  (try simp only [List.getElem_toArray, List.getElem_cons_succ, List.getElem_cons_zero, Act.put, List.setIfInBounds_toArray, List.set_cons_zero, List.set_cons_succ])
  refine wpAnyH_take (i := 38) (v := ?_) rfl (by kernel_rfl) (by kernel_rfl) (by kernel_rfl) (fun _ _ _ h => h) (Or.inl ⟨by rfl, ?_⟩) (by assumption) ?_
  rotate_left
  · (intro w hSw; (try dsimp only at hSw); go_simp; (try with_reducible rfl))
  (try simp only [List.getElem_toArray, List.getElem_cons_succ, List.getElem_cons_zero, Act.put, List.setIfInBounds_toArray, List.set_cons_zero, List.set_cons_succ])
  refine wpAnyH_take (i := 41) (v := ?_) rfl (by kernel_rfl) (by kernel_rfl) (by kernel_rfl) (fun _ _ _ h => h) (Or.inl ⟨by rfl, ?_⟩) (by assumption) ?_
  rotate_left
  · (intro w hSw; (try dsimp only at hSw); go_simp; (try with_reducible rfl))
  (try simp only [List.getElem_toArray, List.getElem_cons_succ, List.getElem_cons_zero, Act.put, List.setIfInBounds_toArray, List.set_cons_zero, List.set_cons_succ])
  refine wpAnyH_take (i := 42) (v := ?_) rfl (by kernel_rfl) (by kernel_rfl) (by kernel_rfl) (fun _ _ _ h => h) (Or.inl ⟨by rfl, ?_⟩) (by assumption) ?_
  rotate_left
  · (intro w hSw; (try dsimp only at hSw); go_simp; (try with_reducible rfl))
  (try simp only [List.getElem_toArray, List.getElem_cons_succ, List.getElem_cons_zero, Act.put, List.setIfInBounds_toArray, List.set_cons_zero, List.set_cons_succ])
  refine wpAnyH_ready (rs := [39]) (by kernel_rfl) (by simp) (AllReadyH.cons (o := _) rfl (fun K hK => ?_) AllReadyH.nil)
  go_simp
  go_at_call 26
  refine (toq_v p2 (by decide)).mono ?_
  rintro e w24 ⟨s2, A2, n2, c2, D2, m2, e2, rfl, u2, hb⟩
  replace g21 := g21.below hb
  replace g22 := g22.below hb
  replace g23 := g23.below hb
  replace p0 := p0.below hb
  replace p1 := p1.below hb
  replace p2 := p2.below hb
  replace g18 := g18.below hb
  replace g19 := g19.below hb
  replace g20 := g20.below hb
  replace b4 := b4.below hb
  replace b5 := b5.below hb
  replace b6 := b6.below hb
  replace b7 := b7.below hb
  replace H0 := H0.trans (hb.mono H0.size)
  clear hb
  go_wp2_with fail
  refine hK.out _ _ ⟨b4.cell 0 _ rfl, b4.cell 1 _ rfl, b4.cell 2 _ rfl, b4.cell 3 _ rfl, b4.cell 4 _ rfl, b4.cell 5 _ rfl, b5.cell 0 _ rfl, b5.cell 1 _ rfl, b5.cell 2 _ rfl, b5.cell 3 _ rfl, b5.cell 4 _ rfl, b5.cell 5 _ rfl, b6.cell 0 _ rfl, b6.cell 1 _ rfl, b6.cell 2 _ rfl, b7.cell 0 _ rfl, b7.cell 1 _ rfl, b7.cell 2 _ rfl, b7.cell 3 _ rfl, b7.cell 4 _ rfl, b7.cell 5 _ rfl⟩ (fun hHeld => ?_)
  clear hK K
  (try simp only [List.getElem_toArray, List.getElem_cons_succ, List.getElem_cons_zero, Act.put, List.setIfInBounds_toArray, List.set_cons_zero, List.set_cons_succ])
  refine wpAnyH_ready (rs := [40]) (by kernel_rfl) (by simp) (AllReadyH.cons (o := _) rfl (fun K hK => ?_) AllReadyH.nil)
  go_simp
  go_at_call 35
  refine (lat_v (g18.more (by decide)) (g19.more (by decide)) (g20.more (by decide)) V0.out u2 (by decide)).mono ?_
  rintro e w25 ⟨s0, A0, n0, c0, D0, m0, e0, s1, A1, n1, c1, D1, m1, e1, rfl, u0, u1, hb⟩
  replace g21 := g21.below hb
  replace g22 := g22.below hb
  replace g23 := g23.below hb
  replace p0 := p0.below hb
  replace p1 := p1.below hb
  replace p2 := p2.below hb
  replace g18 := g18.below hb
  replace g19 := g19.below hb
  replace g20 := g20.below hb
  replace u2 := u2.below hb
  replace b4 := b4.below hb
  replace b5 := b5.below hb
  replace b6 := b6.below hb
  replace b7 := b7.below hb
  replace H0 := H0.trans (hb.mono H0.size)
  clear hb
  clear u2
  go_wp2_with fail
  refine hK.out _ _ ⟨b4.cell 0 _ rfl, b4.cell 1 _ rfl, b4.cell 2 _ rfl, b4.cell 3 _ rfl, b4.cell 4 _ rfl, b4.cell 5 _ rfl, b5.cell 0 _ rfl, b5.cell 1 _ rfl, b5.cell 2 _ rfl, b5.cell 3 _ rfl, b5.cell 4 _ rfl, b5.cell 5 _ rfl, b6.cell 0 _ rfl, b6.cell 1 _ rfl, b6.cell 2 _ rfl, b7.cell 0 _ rfl, b7.cell 1 _ rfl, b7.cell 2 _ rfl, b7.cell 3 _ rfl, b7.cell 4 _ rfl, b7.cell 5 _ rfl⟩ (fun hHeld => ?_)
  clear hK K
  (try simp only [List.getElem_toArray, List.getElem_cons_succ, List.getElem_cons_zero, Act.put, List.setIfInBounds_toArray, List.set_cons_zero, List.set_cons_succ])
  refine wpAnyH_ready (rs := [43]) (by kernel_rfl) (by simp) (AllReadyH.cons (o := _) rfl (fun K hK => ?_) AllReadyH.nil)
  go_simp
  go_at_call 36
  refine (gat_v (g21.more (by decide)) (g22.more (by decide)) (g23.more (by decide)) V0.out (p2.more (by decide))).mono ?_
  rintro e w26 ⟨s2, A2, n2, c2, D2, m2, e2, s3, A3, n3, c3, D3, m3, e3, rfl, u2, u3, hb⟩
  replace g21 := g21.below hb
  replace g22 := g22.below hb
  replace g23 := g23.below hb
  replace p0 := p0.below hb
  replace p1 := p1.below hb
  replace p2 := p2.below hb
  replace g18 := g18.below hb
  replace g19 := g19.below hb
  replace g20 := g20.below hb
  replace u0 := u0.below hb
  replace u1 := u1.below hb
  replace b4 := b4.below hb
  replace b5 := b5.below hb
  replace b6 := b6.below hb
  replace b7 := b7.below hb
  replace H0 := H0.trans (hb.mono H0.size)
  clear hb
  go_wp2_with fail
  refine hK.out _ _ ⟨b4.cell 0 _ rfl, b4.cell 1 _ rfl, b4.cell 2 _ rfl, b4.cell 3 _ rfl, b4.cell 4 _ rfl, b4.cell 5 _ rfl, b5.cell 0 _ rfl, b5.cell 1 _ rfl, b5.cell 2 _ rfl, b5.cell 3 _ rfl, b5.cell 4 _ rfl, b5.cell 5 _ rfl, b6.cell 0 _ rfl, b6.cell 1 _ rfl, b6.cell 2 _ rfl, b7.cell 0 _ rfl, b7.cell 1 _ rfl, b7.cell 2 _ rfl, b7.cell 3 _ rfl, b7.cell 4 _ rfl, b7.cell 5 _ rfl⟩ (fun hHeld => ?_)
  clear hK K
  (try simp only [List.getElem_toArray, List.getElem_cons_succ, List.getElem_cons_zero, Act.put, List.setIfInBounds_toArray, List.set_cons_zero, List.set_cons_succ])
  refine wpAnyH_ready (rs := [44]) (by kernel_rfl) (by simp) (AllReadyH.cons (o := _) rfl (fun K hK => ?_) AllReadyH.nil)
  go_simp
  go_at_call 30
  refine (lsamep_t u0 u1 u2 u3 (by decide) rfl rfl).mono ?_
  rintro e w27 ⟨rfl, hb⟩
  replace g21 := g21.below hb
  replace g22 := g22.below hb
  replace g23 := g23.below hb
  replace p0 := p0.below hb
  replace p1 := p1.below hb
  replace p2 := p2.below hb
  replace g18 := g18.below hb
  replace g19 := g19.below hb
  replace g20 := g20.below hb
  replace u0 := u0.below hb
  replace u1 := u1.below hb
  replace u2 := u2.below hb
  replace u3 := u3.below hb
  replace b4 := b4.below hb
  replace b5 := b5.below hb
  replace b6 := b6.below hb
  replace b7 := b7.below hb
  replace H0 := H0.trans (hb.mono H0.size)
  clear hb
  clear u0
  clear u1
  clear u2
  clear u3
  go_wp2_with fail
  refine hK.out _ _ ⟨b4.cell 0 _ rfl, b4.cell 1 _ rfl, b4.cell 2 _ rfl, b4.cell 3 _ rfl, b4.cell 4 _ rfl, b4.cell 5 _ rfl, b5.cell 0 _ rfl, b5.cell 1 _ rfl, b5.cell 2 _ rfl, b5.cell 3 _ rfl, b5.cell 4 _ rfl, b5.cell 5 _ rfl, b6.cell 0 _ rfl, b6.cell 1 _ rfl, b6.cell 2 _ rfl, b7.cell 0 _ rfl, b7.cell 1 _ rfl, b7.cell 2 _ rfl, b7.cell 3 _ rfl, b7.cell 4 _ rfl, b7.cell 5 _ rfl⟩ (fun hHeld => ?_)
  clear hK K
  (try simp only [List.getElem_toArray, List.getElem_cons_succ, List.getElem_cons_zero, Act.put, List.setIfInBounds_toArray, List.set_cons_zero, List.set_cons_succ])
  refine wpAnyH_take (i := 45) (v := ?_) rfl (by kernel_rfl) (by kernel_rfl) (by kernel_rfl) (fun _ _ _ h => h) (Or.inl ⟨by rfl, ?_⟩) (by assumption) ?_
  rotate_left
  · (intro w hSw; (try dsimp only at hSw); go_simp; (try with_reducible rfl))
  (try simp only [List.getElem_toArray, List.getElem_cons_succ, List.getElem_cons_zero, Act.put, List.setIfInBounds_toArray, List.set_cons_zero, List.set_cons_succ])
  refine wpAnyH_take (i := 46) (v := ?_) rfl (by kernel_rfl) (by kernel_rfl) (by kernel_rfl) (fun _ _ _ h => h) (Or.inl ⟨by rfl, ?_⟩) (by assumption) ?_
  rotate_left
  · (intro w hSw; (try dsimp only at hSw); go_simp; (try with_reducible rfl))
  (try simp only [List.getElem_toArray, List.getElem_cons_succ, List.getElem_cons_zero, Act.put, List.setIfInBounds_toArray, List.set_cons_zero, List.set_cons_succ])
  refine wpAnyH_take (i := 47) (v := ?_) rfl (by kernel_rfl) (by kernel_rfl) (by kernel_rfl) (fun _ _ _ h => h) (Or.inl ⟨by rfl, ?_⟩) (by assumption) ?_
  rotate_left
  · (intro w hSw; (try dsimp only at hSw); go_simp; (try with_reducible rfl))
  (try simp only [List.getElem_toArray, List.getElem_cons_succ, List.getElem_cons_zero, Act.put, List.setIfInBounds_toArray, List.set_cons_zero, List.set_cons_succ])
  refine wpAnyH_take (i := 48) (v := ?_) rfl (by kernel_rfl) (by kernel_rfl) (by kernel_rfl) (fun _ _ _ h => h) (Or.inl ⟨by rfl, ?_⟩) (by assumption) ?_
  rotate_left
  · (intro w hSw; (try dsimp only at hSw); go_simp; (try with_reducible rfl))
  (try simp only [List.getElem_toArray, List.getElem_cons_succ, List.getElem_cons_zero, Act.put, List.setIfInBounds_toArray, List.set_cons_zero, List.set_cons_succ])
  refine wpAnyH_take (i := 51) (v := ?_) rfl (by kernel_rfl) (by kernel_rfl) (by kernel_rfl) (fun _ _ _ h => h) (Or.inl ⟨by rfl, ?_⟩) (by assumption) ?_
  rotate_left
  · (intro w hSw; (try dsimp only at hSw); go_simp; (try with_reducible rfl))
  (try simp only [List.getElem_toArray, List.getElem_cons_succ, List.getElem_cons_zero, Act.put, List.setIfInBounds_toArray, List.set_cons_zero, List.set_cons_succ])
  refine wpAnyH_take (i := 52) (v := ?_) rfl (by kernel_rfl) (by kernel_rfl) (by kernel_rfl) (fun _ _ _ h => h) (Or.inl ⟨by rfl, ?_⟩) (by assumption) ?_
  rotate_left
  · (intro w hSw; (try dsimp only at hSw); go_simp; (try with_reducible rfl))
  (try simp only [List.getElem_toArray, List.getElem_cons_succ, List.getElem_cons_zero, Act.put, List.setIfInBounds_toArray, List.set_cons_zero, List.set_cons_succ])
  refine wpAnyH_ready (rs := [49]) (by kernel_rfl) (by simp) (AllReadyH.cons (o := _) rfl (fun K hK => ?_) AllReadyH.nil)
  go_simp
  go_at_call 19
  refine (gtop_v p0 p1 (by decide)).mono ?_
  rintro e w28 ⟨s14, A14, n14, c14, D14, m14, e14, s15, A15, n15, c15, D15, m15, e15, rfl, k14, k15, hb⟩
  replace g21 := g21.below hb
  replace g22 := g22.below hb
  replace g23 := g23.below hb
  replace p0 := p0.below hb
  replace p1 := p1.below hb
  replace p2 := p2.below hb
  replace g18 := g18.below hb
  replace g19 := g19.below hb
  replace g20 := g20.below hb
  replace b4 := b4.below hb
  replace b5 := b5.below hb
  replace b6 := b6.below hb
  replace b7 := b7.below hb
  replace H0 := H0.trans (hb.mono H0.size)
  clear hb
  go_wp2_with fail
  refine hK.out _ _ ⟨b4.cell 0 _ rfl, b4.cell 1 _ rfl, b4.cell 2 _ rfl, b4.cell 3 _ rfl, b4.cell 4 _ rfl, b4.cell 5 _ rfl, b5.cell 0 _ rfl, b5.cell 1 _ rfl, b5.cell 2 _ rfl, b5.cell 3 _ rfl, b5.cell 4 _ rfl, b5.cell 5 _ rfl, b6.cell 0 _ rfl, b6.cell 1 _ rfl, b6.cell 2 _ rfl, b7.cell 0 _ rfl, b7.cell 1 _ rfl, b7.cell 2 _ rfl, b7.cell 3 _ rfl, b7.cell 4 _ rfl, b7.cell 5 _ rfl⟩ (fun hHeld => ?_)
  clear hK K
  (try simp only [List.getElem_toArray, List.getElem_cons_succ, List.getElem_cons_zero, Act.put, List.setIfInBounds_toArray, List.set_cons_zero, List.set_cons_succ])
  refine wpAnyH_ready (rs := [50]) (by kernel_rfl) (by simp) (AllReadyH.cons (o := _) rfl (fun K hK => ?_) AllReadyH.nil)
  go_simp
  go_at_call 37
  refine (lparam_v (g18.more (by decide)) (g19.more (by decide)) (g20.more (by decide)) V0.out k14 k15 (by decide)).mono ?_
  rintro e w29 ⟨s0, A0, n0, c0, D0, m0, e0, rfl, u0, hb⟩
  replace g21 := g21.below hb
  replace g22 := g22.below hb
  replace g23 := g23.below hb
  replace p0 := p0.below hb
  replace p1 := p1.below hb
  replace p2 := p2.below hb
  replace g18 := g18.below hb
  replace g19 := g19.below hb
  replace g20 := g20.below hb
  replace k14 := k14.below hb
  replace k15 := k15.below hb
  replace b4 := b4.below hb
  replace b5 := b5.below hb
  replace b6 := b6.below hb
  replace b7 := b7.below hb
  replace H0 := H0.trans (hb.mono H0.size)
  clear hb
  clear k14
  clear k15
  go_wp2_with fail
  refine hK.out _ _ ⟨b4.cell 0 _ rfl, b4.cell 1 _ rfl, b4.cell 2 _ rfl, b4.cell 3 _ rfl, b4.cell 4 _ rfl, b4.cell 5 _ rfl, b5.cell 0 _ rfl, b5.cell 1 _ rfl, b5.cell 2 _ rfl, b5.cell 3 _ rfl, b5.cell 4 _ rfl, b5.cell 5 _ rfl, b6.cell 0 _ rfl, b6.cell 1 _ rfl, b6.cell 2 _ rfl, b7.cell 0 _ rfl, b7.cell 1 _ rfl, b7.cell 2 _ rfl, b7.cell 3 _ rfl, b7.cell 4 _ rfl, b7.cell 5 _ rfl⟩ (fun hHeld => ?_)
  clear hK K
  (try simp only [List.getElem_toArray, List.getElem_cons_succ, List.getElem_cons_zero, Act.put, List.setIfInBounds_toArray, List.set_cons_zero, List.set_cons_succ])
  refine wpAnyH_ready (rs := [53]) (by kernel_rfl) (by simp) (AllReadyH.cons (o := _) rfl (fun K hK => ?_) AllReadyH.nil)
  go_simp
  go_at_call 38
  refine (gparam_v (g21.more (by decide)) (g22.more (by decide)) V0.out (p0.more (by decide)) (p1.more (by decide))).mono ?_
  rintro e w30 ⟨s1, A1, n1, c1, D1, m1, e1, rfl, u1, hb⟩
  replace g21 := g21.below hb
  replace g22 := g22.below hb
  replace g23 := g23.below hb
  replace p0 := p0.below hb
  replace p1 := p1.below hb
  replace p2 := p2.below hb
  replace g18 := g18.below hb
  replace g19 := g19.below hb
  replace g20 := g20.below hb
  replace u0 := u0.below hb
  replace b4 := b4.below hb
  replace b5 := b5.below hb
  replace b6 := b6.below hb
  replace b7 := b7.below hb
  replace H0 := H0.trans (hb.mono H0.size)
  clear hb
  go_wp2_with fail
  refine hK.out _ _ ⟨b4.cell 0 _ rfl, b4.cell 1 _ rfl, b4.cell 2 _ rfl, b4.cell 3 _ rfl, b4.cell 4 _ rfl, b4.cell 5 _ rfl, b5.cell 0 _ rfl, b5.cell 1 _ rfl, b5.cell 2 _ rfl, b5.cell 3 _ rfl, b5.cell 4 _ rfl, b5.cell 5 _ rfl, b6.cell 0 _ rfl, b6.cell 1 _ rfl, b6.cell 2 _ rfl, b7.cell 0 _ rfl, b7.cell 1 _ rfl, b7.cell 2 _ rfl, b7.cell 3 _ rfl, b7.cell 4 _ rfl, b7.cell 5 _ rfl⟩ (fun hHeld => ?_)
  clear hK K
  (try simp only [List.getElem_toArray, List.getElem_cons_succ, List.getElem_cons_zero, Act.put, List.setIfInBounds_toArray, List.set_cons_zero, List.set_cons_succ])
  refine wpAnyH_ready (rs := [54]) (by kernel_rfl) (by simp) (AllReadyH.cons (o := _) rfl (fun K hK => ?_) AllReadyH.nil)
  go_simp
  go_at_call 26
  refine (toq_v u1 (by decide)).mono ?_
  rintro e w31 ⟨s2, A2, n2, c2, D2, m2, e2, rfl, u2, hb⟩
  replace g21 := g21.below hb
  replace g22 := g22.below hb
  replace g23 := g23.below hb
  replace p0 := p0.below hb
  replace p1 := p1.below hb
  replace p2 := p2.below hb
  replace g18 := g18.below hb
  replace g19 := g19.below hb
  replace g20 := g20.below hb
  replace u0 := u0.below hb
  replace u1 := u1.below hb
  replace b4 := b4.below hb
  replace b5 := b5.below hb
  replace b6 := b6.below hb
  replace b7 := b7.below hb
  replace H0 := H0.trans (hb.mono H0.size)
  clear hb
  clear u1
  go_wp2_with fail
  refine hK.out _ _ ⟨b4.cell 0 _ rfl, b4.cell 1 _ rfl, b4.cell 2 _ rfl, b4.cell 3 _ rfl, b4.cell 4 _ rfl, b4.cell 5 _ rfl, b5.cell 0 _ rfl, b5.cell 1 _ rfl, b5.cell 2 _ rfl, b5.cell 3 _ rfl, b5.cell 4 _ rfl, b5.cell 5 _ rfl, b6.cell 0 _ rfl, b6.cell 1 _ rfl, b6.cell 2 _ rfl, b7.cell 0 _ rfl, b7.cell 1 _ rfl, b7.cell 2 _ rfl, b7.cell 3 _ rfl, b7.cell 4 _ rfl, b7.cell 5 _ rfl⟩ (fun hHeld => ?_)
  clear hK K
  (try simp only [List.getElem_toArray, List.getElem_cons_succ, List.getElem_cons_zero, Act.put, List.setIfInBounds_toArray, List.set_cons_zero, List.set_cons_succ])
  refine wpAnyH_ready (rs := [55]) (by kernel_rfl) (by simp) (AllReadyH.cons (o := _) rfl (fun K hK => ?_) AllReadyH.nil)
  go_simp
  go_at_call 24
  refine (sameq_d u0 u2 (decide_eq_true rfl)).mono ?_
  rintro e w32 ⟨rfl, hb⟩
  replace g21 := g21.below hb
  replace g22 := g22.below hb
  replace g23 := g23.below hb
  replace p0 := p0.below hb
  replace p1 := p1.below hb
  replace p2 := p2.below hb
  replace g18 := g18.below hb
  replace g19 := g19.below hb
  replace g20 := g20.below hb
  replace u0 := u0.below hb
  replace u2 := u2.below hb
  replace b4 := b4.below hb
  replace b5 := b5.below hb
  replace b6 := b6.below hb
  replace b7 := b7.below hb
  replace H0 := H0.trans (hb.mono H0.size)
  clear hb
  clear u0
  clear u2
  go_wp2_with fail
  refine hK.out _ _ ⟨b4.cell 0 _ rfl, b4.cell 1 _ rfl, b4.cell 2 _ rfl, b4.cell 3 _ rfl, b4.cell 4 _ rfl, b4.cell 5 _ rfl, b5.cell 0 _ rfl, b5.cell 1 _ rfl, b5.cell 2 _ rfl, b5.cell 3 _ rfl, b5.cell 4 _ rfl, b5.cell 5 _ rfl, b6.cell 0 _ rfl, b6.cell 1 _ rfl, b6.cell 2 _ rfl, b7.cell 0 _ rfl, b7.cell 1 _ rfl, b7.cell 2 _ rfl, b7.cell 3 _ rfl, b7.cell 4 _ rfl, b7.cell 5 _ rfl⟩ (fun hHeld => ?_)
  clear hK K
  (try simp only [List.getElem_toArray, List.getElem_cons_succ, List.getElem_cons_zero, Act.put, List.setIfInBounds_toArray, List.set_cons_zero, List.set_cons_succ])
  refine wpAnyH_take (i := 56) (v := ?_) rfl (by kernel_rfl) (by kernel_rfl) (by kernel_rfl) (fun _ _ _ h => h) (Or.inl ⟨by rfl, ?_⟩) (by assumption) ?_
  rotate_left
  · (intro w hSw; (try dsimp only at hSw); go_simp; (try with_reducible rfl))
  (try simp only [List.getElem_toArray, List.getElem_cons_succ, List.getElem_cons_zero, Act.put, List.setIfInBounds_toArray, List.set_cons_zero, List.set_cons_succ])
  refine wpAnyH_take (i := 57) (v := ?_) rfl (by kernel_rfl) (by kernel_rfl) (by kernel_rfl) (fun _ _ _ h => h) (Or.inl ⟨by rfl, ?_⟩) (by assumption) ?_
  rotate_left
  · (intro w hSw; (try dsimp only at hSw); go_simp; (try with_reducible rfl))
  (try simp only [List.getElem_toArray, List.getElem_cons_succ, List.getElem_cons_zero, Act.put, List.setIfInBounds_toArray, List.set_cons_zero, List.set_cons_succ])
  refine wpAnyH_done (by kernel_rfl) ?_ _
  refine NoPanic.normal ?_
  go_wp2_with fail
  go_returns
  exact ⟨rfl, H0⟩
end
end Go.Proofs.YtancgkmkbgkncaaGreat
