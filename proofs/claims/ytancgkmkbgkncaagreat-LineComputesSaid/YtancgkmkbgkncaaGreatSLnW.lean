/-
  The exported functions of package line, of valid lines.
-/
import Derived.Test.YtancgkmkbgkncaaGreatSBox
import Derived.Test.YtancgkmkbgkncaaGreatSDivLong
import Derived.Test.YtancgkmkbgkncaaGreatSFormI
import Derived.Test.YtancgkmkbgkncaaGreatSIGcd
import Derived.Test.YtancgkmkbgkncaaGreatSK1
import Derived.Test.YtancgkmkbgkncaaGreatSK2
import Derived.Test.YtancgkmkbgkncaaGreatSK3
import Derived.Test.YtancgkmkbgkncaaGreatSK4
import Derived.Test.YtancgkmkbgkncaaGreatSK5
import Derived.Test.YtancgkmkbgkncaaGreatSK6
import Derived.Test.YtancgkmkbgkncaaGreatSK7
import Derived.Test.YtancgkmkbgkncaaGreatSK8
import Derived.Test.YtancgkmkbgkncaaGreatSK9
import Derived.Test.YtancgkmkbgkncaaGreatSLnA
import Derived.Test.YtancgkmkbgkncaaGreatSLnB
import Derived.Test.YtancgkmkbgkncaaGreatSLnD
import Derived.Test.YtancgkmkbgkncaaGreatSLnM
import Derived.Test.YtancgkmkbgkncaaGreatSLnP
import Derived.Test.YtancgkmkbgkncaaGreatSLnQ
import Derived.Test.YtancgkmkbgkncaaGreatSLnV
import Derived.Test.YtancgkmkbgkncaaGreatSN1
import Derived.Test.YtancgkmkbgkncaaGreatSOrd
import Derived.Test.YtancgkmkbgkncaaGreatSPhase
import Derived.Test.YtancgkmkbgkncaaGreatSR1
import Derived.Test.YtancgkmkbgkncaaGreatSRatA
import Derived.Test.YtancgkmkbgkncaaGreatSRatC
import Derived.Test.YtancgkmkbgkncaaGreatSRatD
import Derived.Test.YtancgkmkbgkncaaGreatSRatR
import Derived.Test.YtancgkmkbgkncaaGreatSRatS
import Derived.Test.YtancgkmkbgkncaaGreatSS1
import Derived.Test.YtancgkmkbgkncaaGreatSShelf
import Derived.Deep.Cut
namespace Go.Proofs.YtancgkmkbgkncaaGreat
open Go.RowKit

section
variable {A0 A1 A2 A3 A4 A5 A6 A7 A8 A9 A10 A11 A12 A13 A14 A15 A16 A17 A18 A19 A20 A21 A22 A23 D0 D1 D2 D3 D4 D5 D6 D7 D8 D9 D10 D11 D12 D13 D14 D15 D16 D17 D18 D19 D20 D21 D22 D23 : Option Addr} {n0 n1 n2 n3 n4 n5 n6 n7 n8 n9 n10 n11 n12 n13 n14 n15 n16 n17 n18 n19 n20 n21 n22 n23 c0 c1 c2 c3 c4 c5 c6 c7 c8 c9 c10 c11 c12 c13 c14 c15 c16 c17 c18 c19 c20 c21 c22 c23 m0 m1 m2 m3 m4 m5 m6 m7 m8 m9 m10 m11 m12 m13 m14 m15 m16 m17 m18 m19 m20 m21 m22 m23 e0 e1 e2 e3 e4 e5 e6 e7 e8 e9 e10 e11 e12 e13 e14 e15 e16 e17 e18 e19 e20 e21 e22 e23 : Nat} {s0 s1 s2 s3 s4 s5 s6 s7 s8 s9 s10 s11 s12 s13 s14 s15 s16 s17 s18 s19 s20 s21 s22 s23 : Bool} {q0 q1 q2 q3 q4 q5 q6 q7 : Rat} {z0 z1 z2 z3 z4 z5 z6 z7 z8 z9 z10 z11 : Int} {L L0 L1 x y : Nat} {k : Int} {b : Bool} {w : World}
set_option maxRecDepth 100000 in
set_option maxHeartbeats 4000000 in
theorem lat_v (h0 : NI w s0 (.slice A0 n0 c0) z0 L) (h1 : NI w s1 (.slice A1 n1 c1) z1 L) (h2 : NI w s2 (.slice A2 n2 c2) z2 L) (v0 : VL z0 z1 z2) (h : NQ w s20 (.slice A20 n20 c20) (.slice D20 m20 e20) q0 L) (hL : L ≤ 10000) :
    Calls Tryz.prog 35 #[.agg #[.bool s0, .slice A0 n0 c0, .bool s1, .slice A1 n1 c1, .bool s2, .slice A2 n2 c2], .agg #[.bool s20, .slice A20 n20 c20, .slice D20 m20 e20]] w fun e w' => ∃ s16 A16 n16 c16 D16 m16 e16 s17 A17 n17 c17 D17 m17 e17, e = .returned (.agg #[.bool s16, .slice A16 n16 c16, .slice D16 m16 e16, .bool s17, .slice A17 n17 c17, .slice D17 m17 e17]) ∧ NQ w' s16 (.slice A16 n16 c16) (.slice D16 m16 e16) (atX z0 z1 z2 q0) (2 * (3 * max L 2 + 2) + 1) ∧ NQ w' s17 (.slice A17 n17 c17) (.slice D17 m17 e17) (atY z0 z1 z2 q0) (2 * (3 * max L 2 + 2) + 1) ∧ Below w.heap.size w w' := by
  have V0 := Lib.hid v0
  clear v0
  have hM : L ≤ 3 * max L 2 + 2 := by omega
  go_enter Tryz.func35, Tryz.ntmps35
  go_wp2_with fail
  obtain ⟨W0, hW, b0, b1, b9, hbW, hszW0⟩ := boxes3 w #[.bool s0, .slice A0 n0 c0, .bool s1, .slice A1 n1 c1, .bool s2, .slice A2 n2 c2] #[.bool s20, .slice A20 n20 c20, .slice D20 m20 e20] #[.bool false, .slice none 0 0, .slice none 0 0, .bool false, .slice none 0 0, .slice none 0 0] 30 52 54
  rw [hW]
  clear hW
  replace h0 := h0.below hbW
  replace h1 := h1.below hbW
  replace h2 := h2.below hbW
  replace h := h.below hbW
  have H0 := hbW
  clear hbW
  have cb00 := b0.cell 0 _ rfl
  have cb01 := b0.cell 1 _ rfl
  have cb02 := b0.cell 2 _ rfl
  have cb03 := b0.cell 3 _ rfl
  have cb04 := b0.cell 4 _ rfl
  have cb05 := b0.cell 5 _ rfl
  go_wp2_with fail
  clear cb00 cb01 cb02 cb03 cb04 cb05
  refine (lvalid_v h0 h1 h2 V0.out (by omega)).mono ?_
  rintro e w1 ⟨rfl, hb⟩
  replace h0 := h0.below hb
  replace h1 := h1.below hb
  replace h2 := h2.below hb
  replace h := h.below hb
  replace b0 := b0.below hb
  replace b1 := b1.below hb
  replace b9 := b9.below hb
  replace H0 := H0.trans (hb.mono H0.size)
  clear hb
  have cb00 := b0.cell 0 _ rfl
  have cb01 := b0.cell 1 _ rfl
  have cb02 := b0.cell 2 _ rfl
  have cb03 := b0.cell 3 _ rfl
  have cb04 := b0.cell 4 _ rfl
  have cb05 := b0.cell 5 _ rfl
  go_wp2_with fail
  clear cb00 cb01 cb02 cb03 cb04 cb05
  refine (lcoef_v).mono ?_
  rintro e w2 ⟨rfl, hb⟩
  replace h0 := h0.below hb
  replace h1 := h1.below hb
  replace h2 := h2.below hb
  replace h := h.below hb
  replace b0 := b0.below hb
  replace b1 := b1.below hb
  replace b9 := b9.below hb
  replace H0 := H0.trans (hb.mono H0.size)
  clear hb
  have lb0_3 := b0.lt
  have lb1_3 := b1.lt
  have lb9_3 := b9.lt
  obtain ⟨W3, hW, b5, hbW, hszW3⟩ := boxes1 w2 #[.bool s0, .slice A0 n0 c0, .bool s1, .slice A1 n1 c1, .bool s2, .slice A2 n2 c2] 95
  skip
  skip
  replace h0 := h0.below hbW
  replace h1 := h1.below hbW
  replace h2 := h2.below hbW
  replace h := h.below hbW
  replace b0 := b0.below hbW
  replace b1 := b1.below hbW
  replace b9 := b9.below hbW
  replace H0 := H0.trans (hbW.mono H0.size)
  clear hbW
  have cb10 := b1.cell 0 _ rfl
  have cb11 := b1.cell 1 _ rfl
  have cb12 := b1.cell 2 _ rfl
  have cb50 := b5.cell 0 _ rfl
  have cb51 := b5.cell 1 _ rfl
  have cb52 := b5.cell 2 _ rfl
  have cb53 := b5.cell 3 _ rfl
  have cb54 := b5.cell 4 _ rfl
  have cb55 := b5.cell 5 _ rfl
  go_wp2_with fail
  clear hW
  clear cb10 cb11 cb12 cb50 cb51 cb52 cb53 cb54 cb55
  have lcb0_4 := b0.lt
  have lcb1_4 := b1.lt
  have lcb9_4 := b9.lt
  have lcb5_4 := b5.lt
  go_cut [6] from 7 (fun u4_0 wx => ∃ g4_0 s16 A16 n16 c16 D16 m16 e16 s17 A17 n17 c17 D17 m17 e17, u4_0 = .pointer (some ⟨g4_0, 0, none⟩) ∧ NQ wx s16 (.slice A16 n16 c16) (.slice D16 m16 e16) (atX z0 z1 z2 q0) (2 * (3 * max L 2 + 2) + 1) ∧ NQ wx s17 (.slice A17 n17 c17) (.slice D17 m17 e17) (atY z0 z1 z2 q0) (2 * (3 * max L 2 + 2) + 1) ∧ Box wx g4_0 #[.bool s16, .slice A16 n16 c16, .slice D16 m16 e16, .bool s17, .slice A17 n17 c17, .slice D17 m17 e17] 54 ∧ W3.heap.size ≤ g4_0 ∧ Below W3.heap.size W3 wx)
  case first =>
    have hG := drawn_below W3
    refine wp_region_noPanic ?_
    refine wp_region_held_drew (S := (fun V => V.cell? ⟨w2.heap.size, 0, none⟩ = some (.bool s0) ∧ V.cell? ⟨w2.heap.size, 1, none⟩ = some (.slice A0 n0 c0) ∧ V.cell? ⟨w2.heap.size, 2, none⟩ = some (.bool s1) ∧ V.cell? ⟨w2.heap.size, 3, none⟩ = some (.slice A1 n1 c1) ∧ V.cell? ⟨w2.heap.size, 4, none⟩ = some (.bool s2) ∧ V.cell? ⟨w2.heap.size, 5, none⟩ = some (.slice A2 n2 c2) ∧ V.cell? ⟨w.heap.size + 1, 0, none⟩ = some (.bool s20) ∧ V.cell? ⟨w.heap.size + 1, 1, none⟩ = some (.slice A20 n20 c20) ∧ V.cell? ⟨w.heap.size + 1, 2, none⟩ = some (.slice D20 m20 e20))) (by kernel_rfl) ⟨(b5.below hG).cell 0 _ rfl, (b5.below hG).cell 1 _ rfl, (b5.below hG).cell 2 _ rfl, (b5.below hG).cell 3 _ rfl, (b5.below hG).cell 4 _ rfl, (b5.below hG).cell 5 _ rfl, (b1.below hG).cell 0 _ rfl, (b1.below hG).cell 1 _ rfl, (b1.below hG).cell 2 _ rfl⟩ (fun hHeld => ?_)
    generalize W3.drew = v4 at hG hHeld ⊢
    have sG := hG.size
    refine wpAnyH_take (i := 0) (v := ?_) rfl (by kernel_rfl) (by kernel_rfl) (by kernel_rfl) (fun _ _ _ h => h) (Or.inl ⟨by rfl, ?_⟩) (by assumption) ?_
    rotate_left
    · (intro w hSw; (try dsimp only at hSw); go_simp; (try with_reducible rfl))
    (try simp only [List.getElem_toArray, List.getElem_cons_zero, Act.put, List.setIfInBounds_toArray, List.set_cons_zero, List.set_cons_succ])
    refine wpAnyH_take (i := 1) (v := ?_) rfl (by kernel_rfl) (by kernel_rfl) (by kernel_rfl) (fun _ _ _ h => h) (Or.inl ⟨by rfl, ?_⟩) (by assumption) ?_
    rotate_left
    · (intro w hSw; (try dsimp only at hSw); go_simp; (try with_reducible rfl))
    (try simp only [List.getElem_toArray, List.getElem_cons_succ, List.getElem_cons_zero, Act.put, List.setIfInBounds_toArray, List.set_cons_zero, List.set_cons_succ])
    refine wpAnyH_take (i := 2) (v := ?_) rfl (by kernel_rfl) (by kernel_rfl) (by kernel_rfl) (fun _ _ _ h => h) (Or.inl ⟨by rfl, ?_⟩) (by assumption) ?_
    rotate_left
    · (intro w hSw; (try dsimp only at hSw); go_simp; (try with_reducible rfl))
    (try simp only [List.getElem_toArray, List.getElem_cons_succ, List.getElem_cons_zero, Act.put, List.setIfInBounds_toArray, List.set_cons_zero, List.set_cons_succ])
    refine wpAnyH_ready (rs := [3, 9]) (by kernel_rfl) (by simp) (AllReadyH.cons (o := _) rfl (fun K hK => ?_) (AllReadyH.cons (o := _) rfl (fun K hK => ?_) AllReadyH.nil))
    · go_simp
      go_at_call 92
      refine (lacrossat_v (h0.below hG) (h1.below hG) (h.below hG) hL).mono ?_
      rintro e y4_1 ⟨s6, A6, n6, c6, s7, A7, n7, c7, s8, A8, n8, c8, rfl, g6, g7, g8, hb9⟩
      have szy4_1 := hb9.size
      replace hG := hG.trans (hb9.mono sG)
      replace sG := hG.size
      clear hb9
      go_wp2_with fail
      refine hK.out _ _ ⟨(b5.below hG).cell 0 _ rfl, (b5.below hG).cell 1 _ rfl, (b5.below hG).cell 2 _ rfl, (b5.below hG).cell 3 _ rfl, (b5.below hG).cell 4 _ rfl, (b5.below hG).cell 5 _ rfl, (b1.below hG).cell 0 _ rfl, (b1.below hG).cell 1 _ rfl, (b1.below hG).cell 2 _ rfl⟩ (fun hHeld => ?_)
      clear hK K
      (try simp only [List.getElem_toArray, List.getElem_cons_succ, List.getElem_cons_zero, Act.put, List.setIfInBounds_toArray, List.set_cons_zero, List.set_cons_succ])
      refine wpAnyH_ready (rs := [4, 9]) (by kernel_rfl) (by simp) (AllReadyH.cons (o := _) rfl (fun K hK => ?_) (AllReadyH.cons (o := _) rfl (fun K hK => ?_) AllReadyH.nil))
      · go_simp
        go_at_call 91
        refine (dcross_v ((h0.below hG).ri.more hM) ((h1.below hG).ri.more hM) ((h2.below hG).ri.more hM) g6.ri g7.ri g8.ri (by omega)).mono ?_
        rintro e y4_2 ⟨s9, A9, n9, c9, s10, A10, n10, c10, s11, A11, n11, c11, rfl, g9, g10, g11, hb9⟩
        have szy4_2 := hb9.size
        replace g6 := g6.below hb9
        replace g7 := g7.below hb9
        replace g8 := g8.below hb9
        replace hG := hG.trans (hb9.mono sG)
        replace sG := hG.size
        clear hb9
        clear g6
        clear g7
        clear g8
        go_wp2_with fail
        refine hK.out _ _ ⟨(b5.below hG).cell 0 _ rfl, (b5.below hG).cell 1 _ rfl, (b5.below hG).cell 2 _ rfl, (b5.below hG).cell 3 _ rfl, (b5.below hG).cell 4 _ rfl, (b5.below hG).cell 5 _ rfl, (b1.below hG).cell 0 _ rfl, (b1.below hG).cell 1 _ rfl, (b1.below hG).cell 2 _ rfl⟩ (fun hHeld => ?_)
        clear hK K
        (try simp only [List.getElem_toArray, List.getElem_cons_succ, List.getElem_cons_zero, Act.put, List.setIfInBounds_toArray, List.set_cons_zero, List.set_cons_succ])
        refine wpAnyH_ready (rs := [5, 9]) (by kernel_rfl) (by simp) (AllReadyH.cons (o := _) rfl (fun K hK => ?_) (AllReadyH.cons (o := _) rfl (fun K hK => ?_) AllReadyH.nil))
        · go_simp
          go_at_call 93
          refine (lpoint_v g9.ri g10.ri g11.ri (at_den V0.out.1 (by have := q0.den_pos; omega)) (by omega)).mono ?_
          rintro e y4_3 ⟨s16, A16, n16, c16, D16, m16, e16, s17, A17, n17, c17, D17, m17, e17, rfl, g3, g4, hb9⟩
          have szy4_3 := hb9.size
          replace g9 := g9.below hb9
          replace g10 := g10.below hb9
          replace g11 := g11.below hb9
          replace hG := hG.trans (hb9.mono sG)
          replace sG := hG.size
          clear hb9
          clear g9
          clear g10
          clear g11
          go_wp2_with fail
          refine hK.out _ _ ⟨(b5.below hG).cell 0 _ rfl, (b5.below hG).cell 1 _ rfl, (b5.below hG).cell 2 _ rfl, (b5.below hG).cell 3 _ rfl, (b5.below hG).cell 4 _ rfl, (b5.below hG).cell 5 _ rfl, (b1.below hG).cell 0 _ rfl, (b1.below hG).cell 1 _ rfl, (b1.below hG).cell 2 _ rfl⟩ (fun hHeld => ?_)
          clear hK K
          (try simp only [List.getElem_toArray, List.getElem_cons_succ, List.getElem_cons_zero, Act.put, List.setIfInBounds_toArray, List.set_cons_zero, List.set_cons_succ])
          refine wpAnyH_take (i := 6) (v := ?_) rfl (by kernel_rfl) (by kernel_rfl) (by kernel_rfl) (fun _ _ _ h => h) (Or.inl ⟨by rfl, ?_⟩) (by assumption) ?_
          rotate_left
          · (intro w hSw; (try dsimp only at hSw); go_simp; (try with_reducible rfl))
          (try simp only [List.getElem_toArray, List.getElem_cons_succ, List.getElem_cons_zero, Act.put, List.setIfInBounds_toArray, List.set_cons_zero, List.set_cons_succ])
          refine wpAnyH_take (i := 7) (v := ?_) rfl (by kernel_rfl) (by kernel_rfl) (by kernel_rfl) (fun _ _ _ h => h) (Or.inl ⟨by rfl, ?_⟩) (by assumption) ?_
          rotate_left
          · (intro w hSw; (try dsimp only at hSw); go_simp; (try with_reducible rfl))
          (try simp only [List.getElem_toArray, List.getElem_cons_succ, List.getElem_cons_zero, Act.put, List.setIfInBounds_toArray, List.set_cons_zero, List.set_cons_succ])
          refine wpAnyH_take (i := 8) (v := ?_) rfl (by kernel_rfl) (by kernel_rfl) (by kernel_rfl) (fun _ _ _ h => h) (Or.inl ⟨by rfl, ?_⟩) (by assumption) ?_
          rotate_left
          · (intro w hSw; (try dsimp only at hSw); go_simp; (try with_reducible rfl))
          (try simp only [List.getElem_toArray, List.getElem_cons_succ, List.getElem_cons_zero, Act.put, List.setIfInBounds_toArray, List.set_cons_zero, List.set_cons_succ])
          refine wpAnyH_ready (rs := [9]) (by kernel_rfl) (by simp) (AllReadyH.cons (o := _) rfl (fun K hK => ?_) AllReadyH.nil)
          go_simp
          obtain ⟨y4_4, hV, b6, hb9, szy4_4⟩ := boxes1 y4_3 #[.bool false, .slice none 0 0, .slice none 0 0, .bool false, .slice none 0 0, .slice none 0 0] 54
          rw [hV]
          clear hV
          have gly4_4 : W3.heap.size ≤ y4_3.heap.size := sG
          replace szy4_4 : y4_3.heap.size < y4_4.heap.size := by omega
          replace g3 := g3.below hb9
          replace g4 := g4.below hb9
          replace hG := hG.trans (hb9.mono sG)
          replace sG := hG.size
          clear hb9
          refine hK.out _ _ ⟨(b5.below hG).cell 0 _ rfl, (b5.below hG).cell 1 _ rfl, (b5.below hG).cell 2 _ rfl, (b5.below hG).cell 3 _ rfl, (b5.below hG).cell 4 _ rfl, (b5.below hG).cell 5 _ rfl, (b1.below hG).cell 0 _ rfl, (b1.below hG).cell 1 _ rfl, (b1.below hG).cell 2 _ rfl⟩ (fun hHeld => ?_)
          clear hK K
          (try simp only [List.getElem_toArray, List.getElem_cons_succ, List.getElem_cons_zero, Act.put, List.setIfInBounds_toArray, List.set_cons_zero, List.set_cons_succ])
          have rb60 := b6.cell 0 _ rfl
          have qb60 := b6.frozen 0
          have rb61 := b6.cell 1 _ rfl
          have qb61 := b6.frozen 1
          have rb62 := b6.cell 2 _ rfl
          have qb62 := b6.frozen 2
          have rb63 := b6.cell 3 _ rfl
          have qb63 := b6.frozen 3
          have rb64 := b6.cell 4 _ rfl
          have qb64 := b6.frozen 4
          have rb65 := b6.cell 5 _ rfl
          have qb65 := b6.frozen 5
          refine wpAnyH_ready (rs := [10]) (by kernel_rfl) (by simp) (AllReadyH.cons (o := _) rfl (fun K hK => ?_) AllReadyH.nil)
          go_simp
          clear rb60 qb60
          clear rb61 qb61
          clear rb62 qb62
          clear rb63 qb63
          clear rb64 qb64
          clear rb65 qb65
          have hg := only_store6 y4_4 (y4_3.heap.size) (.bool s16) (.slice A16 n16 c16) (.slice D16 m16 e16) (.bool s17) (.slice A17 n17 c17) (.slice D17 m17 e17)
          have hB := b6.stored6 (.bool s16) (.slice A16 n16 c16) (.slice D16 m16 e16) (.bool s17) (.slice A17 n17 c17) (.slice D17 m17 e17)
          generalize hX : ((((((y4_4.setCell ⟨y4_3.heap.size, 0, none⟩ (.bool s16)).setCell ⟨y4_3.heap.size, 1, none⟩ (.slice A16 n16 c16)).setCell ⟨y4_3.heap.size, 2, none⟩ (.slice D16 m16 e16)).setCell ⟨y4_3.heap.size, 3, none⟩ (.bool s17)).setCell ⟨y4_3.heap.size, 4, none⟩ (.slice A17 n17 c17)).setCell ⟨y4_3.heap.size, 5, none⟩ (.slice D17 m17 e17)) = Y4_5 at hg hB ⊢
          clear hX
          replace g3 := g3.kept b6 (by simp [notInt]) hg
          replace g4 := g4.kept b6 (by simp [notInt]) hg
          replace b6 := hB
          replace hG := below_only hG hg (by omega) sG
          replace sG := hG.size
          clear hg hB
          refine hK.out _ _ ⟨(b5.below hG).cell 0 _ rfl, (b5.below hG).cell 1 _ rfl, (b5.below hG).cell 2 _ rfl, (b5.below hG).cell 3 _ rfl, (b5.below hG).cell 4 _ rfl, (b5.below hG).cell 5 _ rfl, (b1.below hG).cell 0 _ rfl, (b1.below hG).cell 1 _ rfl, (b1.below hG).cell 2 _ rfl⟩ (fun hHeld => ?_)
          clear hK K
          (try simp only [List.getElem_toArray, List.getElem_cons_succ, List.getElem_cons_zero, Act.put, List.setIfInBounds_toArray, List.set_cons_zero, List.set_cons_succ])
          refine wpAnyH_take (i := 11) (v := ?_) rfl (by kernel_rfl) (by kernel_rfl) (by kernel_rfl) (fun _ _ _ h => h) (Or.inl ⟨by rfl, ?_⟩) (by assumption) ?_
          rotate_left
          · (intro w hSw; (try dsimp only at hSw); go_simp; (try with_reducible rfl))
          (try simp only [List.getElem_toArray, List.getElem_cons_succ, List.getElem_cons_zero, Act.put, List.setIfInBounds_toArray, List.set_cons_zero, List.set_cons_succ])
          refine wpAnyH_done (by kernel_rfl) ?_ _
          refine NoPanic.normal ?_
          go_wp2_with fail
          go_meet
          exact ⟨y4_3.heap.size, s16, A16, n16, c16, D16, m16, e16, s17, A17, n17, c17, D17, m17, e17, rfl, by rw [← at_x z2 V0.out.1]; exact g3, by rw [← at_y z2 V0.out.1]; exact g4, b6, (by omega), hG⟩
        · go_simp
          obtain ⟨y4_6, hV, b6, hb9, szy4_6⟩ := boxes1 y4_2 #[.bool false, .slice none 0 0, .slice none 0 0, .bool false, .slice none 0 0, .slice none 0 0] 54
          rw [hV]
          clear hV
          have gly4_6 : W3.heap.size ≤ y4_2.heap.size := sG
          replace szy4_6 : y4_2.heap.size < y4_6.heap.size := by omega
          replace g9 := g9.below hb9
          replace g10 := g10.below hb9
          replace g11 := g11.below hb9
          replace hG := hG.trans (hb9.mono sG)
          replace sG := hG.size
          clear hb9
          refine hK.out _ _ ⟨(b5.below hG).cell 0 _ rfl, (b5.below hG).cell 1 _ rfl, (b5.below hG).cell 2 _ rfl, (b5.below hG).cell 3 _ rfl, (b5.below hG).cell 4 _ rfl, (b5.below hG).cell 5 _ rfl, (b1.below hG).cell 0 _ rfl, (b1.below hG).cell 1 _ rfl, (b1.below hG).cell 2 _ rfl⟩ (fun hHeld => ?_)
          clear hK K
          (try simp only [List.getElem_toArray, List.getElem_cons_succ, List.getElem_cons_zero, Act.put, List.setIfInBounds_toArray, List.set_cons_zero, List.set_cons_succ])
          refine wpAnyH_ready (rs := [5]) (by kernel_rfl) (by simp) (AllReadyH.cons (o := _) rfl (fun K hK => ?_) AllReadyH.nil)
          go_simp
          go_at_call 93
          refine (lpoint_v g9.ri g10.ri g11.ri (at_den V0.out.1 (by have := q0.den_pos; omega)) (by omega)).mono ?_
          rintro e y4_7 ⟨s16, A16, n16, c16, D16, m16, e16, s17, A17, n17, c17, D17, m17, e17, rfl, g3, g4, hb9⟩
          have szy4_7 := hb9.size
          replace g9 := g9.below hb9
          replace g10 := g10.below hb9
          replace g11 := g11.below hb9
          replace b6 := b6.below hb9
          replace hG := hG.trans (hb9.mono sG)
          replace sG := hG.size
          clear hb9
          clear g9
          clear g10
          clear g11
          go_wp2_with fail
          refine hK.out _ _ ⟨(b5.below hG).cell 0 _ rfl, (b5.below hG).cell 1 _ rfl, (b5.below hG).cell 2 _ rfl, (b5.below hG).cell 3 _ rfl, (b5.below hG).cell 4 _ rfl, (b5.below hG).cell 5 _ rfl, (b1.below hG).cell 0 _ rfl, (b1.below hG).cell 1 _ rfl, (b1.below hG).cell 2 _ rfl⟩ (fun hHeld => ?_)
          clear hK K
          (try simp only [List.getElem_toArray, List.getElem_cons_succ, List.getElem_cons_zero, Act.put, List.setIfInBounds_toArray, List.set_cons_zero, List.set_cons_succ])
          refine wpAnyH_take (i := 6) (v := ?_) rfl (by kernel_rfl) (by kernel_rfl) (by kernel_rfl) (fun _ _ _ h => h) (Or.inl ⟨by rfl, ?_⟩) (by assumption) ?_
          rotate_left
          · (intro w hSw; (try dsimp only at hSw); go_simp; (try with_reducible rfl))
          (try simp only [List.getElem_toArray, List.getElem_cons_succ, List.getElem_cons_zero, Act.put, List.setIfInBounds_toArray, List.set_cons_zero, List.set_cons_succ])
          refine wpAnyH_take (i := 7) (v := ?_) rfl (by kernel_rfl) (by kernel_rfl) (by kernel_rfl) (fun _ _ _ h => h) (Or.inl ⟨by rfl, ?_⟩) (by assumption) ?_
          rotate_left
          · (intro w hSw; (try dsimp only at hSw); go_simp; (try with_reducible rfl))
          (try simp only [List.getElem_toArray, List.getElem_cons_succ, List.getElem_cons_zero, Act.put, List.setIfInBounds_toArray, List.set_cons_zero, List.set_cons_succ])
          refine wpAnyH_take (i := 8) (v := ?_) rfl (by kernel_rfl) (by kernel_rfl) (by kernel_rfl) (fun _ _ _ h => h) (Or.inl ⟨by rfl, ?_⟩) (by assumption) ?_
          rotate_left
          · (intro w hSw; (try dsimp only at hSw); go_simp; (try with_reducible rfl))
          (try simp only [List.getElem_toArray, List.getElem_cons_succ, List.getElem_cons_zero, Act.put, List.setIfInBounds_toArray, List.set_cons_zero, List.set_cons_succ])
          have rb60 := b6.cell 0 _ rfl
          have qb60 := b6.frozen 0
          have rb61 := b6.cell 1 _ rfl
          have qb61 := b6.frozen 1
          have rb62 := b6.cell 2 _ rfl
          have qb62 := b6.frozen 2
          have rb63 := b6.cell 3 _ rfl
          have qb63 := b6.frozen 3
          have rb64 := b6.cell 4 _ rfl
          have qb64 := b6.frozen 4
          have rb65 := b6.cell 5 _ rfl
          have qb65 := b6.frozen 5
          refine wpAnyH_ready (rs := [10]) (by kernel_rfl) (by simp) (AllReadyH.cons (o := _) rfl (fun K hK => ?_) AllReadyH.nil)
          go_simp
          clear rb60 qb60
          clear rb61 qb61
          clear rb62 qb62
          clear rb63 qb63
          clear rb64 qb64
          clear rb65 qb65
          have hg := only_store6 y4_7 (y4_2.heap.size) (.bool s16) (.slice A16 n16 c16) (.slice D16 m16 e16) (.bool s17) (.slice A17 n17 c17) (.slice D17 m17 e17)
          have hB := b6.stored6 (.bool s16) (.slice A16 n16 c16) (.slice D16 m16 e16) (.bool s17) (.slice A17 n17 c17) (.slice D17 m17 e17)
          generalize hX : ((((((y4_7.setCell ⟨y4_2.heap.size, 0, none⟩ (.bool s16)).setCell ⟨y4_2.heap.size, 1, none⟩ (.slice A16 n16 c16)).setCell ⟨y4_2.heap.size, 2, none⟩ (.slice D16 m16 e16)).setCell ⟨y4_2.heap.size, 3, none⟩ (.bool s17)).setCell ⟨y4_2.heap.size, 4, none⟩ (.slice A17 n17 c17)).setCell ⟨y4_2.heap.size, 5, none⟩ (.slice D17 m17 e17)) = Y4_8 at hg hB ⊢
          clear hX
          replace g3 := g3.kept b6 (by simp [notInt]) hg
          replace g4 := g4.kept b6 (by simp [notInt]) hg
          replace b6 := hB
          replace hG := below_only hG hg (by omega) sG
          replace sG := hG.size
          clear hg hB
          refine hK.out _ _ ⟨(b5.below hG).cell 0 _ rfl, (b5.below hG).cell 1 _ rfl, (b5.below hG).cell 2 _ rfl, (b5.below hG).cell 3 _ rfl, (b5.below hG).cell 4 _ rfl, (b5.below hG).cell 5 _ rfl, (b1.below hG).cell 0 _ rfl, (b1.below hG).cell 1 _ rfl, (b1.below hG).cell 2 _ rfl⟩ (fun hHeld => ?_)
          clear hK K
          (try simp only [List.getElem_toArray, List.getElem_cons_succ, List.getElem_cons_zero, Act.put, List.setIfInBounds_toArray, List.set_cons_zero, List.set_cons_succ])
          refine wpAnyH_take (i := 11) (v := ?_) rfl (by kernel_rfl) (by kernel_rfl) (by kernel_rfl) (fun _ _ _ h => h) (Or.inl ⟨by rfl, ?_⟩) (by assumption) ?_
          rotate_left
          · (intro w hSw; (try dsimp only at hSw); go_simp; (try with_reducible rfl))
          (try simp only [List.getElem_toArray, List.getElem_cons_succ, List.getElem_cons_zero, Act.put, List.setIfInBounds_toArray, List.set_cons_zero, List.set_cons_succ])
          refine wpAnyH_done (by kernel_rfl) ?_ _
          refine NoPanic.normal ?_
          go_wp2_with fail
          go_meet
          exact ⟨y4_2.heap.size, s16, A16, n16, c16, D16, m16, e16, s17, A17, n17, c17, D17, m17, e17, rfl, by rw [← at_x z2 V0.out.1]; exact g3, by rw [← at_y z2 V0.out.1]; exact g4, b6, (by omega), hG⟩
      · go_simp
        obtain ⟨y4_9, hV, b6, hb9, szy4_9⟩ := boxes1 y4_1 #[.bool false, .slice none 0 0, .slice none 0 0, .bool false, .slice none 0 0, .slice none 0 0] 54
        rw [hV]
        clear hV
        have gly4_9 : W3.heap.size ≤ y4_1.heap.size := sG
        replace szy4_9 : y4_1.heap.size < y4_9.heap.size := by omega
        replace g6 := g6.below hb9
        replace g7 := g7.below hb9
        replace g8 := g8.below hb9
        replace hG := hG.trans (hb9.mono sG)
        replace sG := hG.size
        clear hb9
        refine hK.out _ _ ⟨(b5.below hG).cell 0 _ rfl, (b5.below hG).cell 1 _ rfl, (b5.below hG).cell 2 _ rfl, (b5.below hG).cell 3 _ rfl, (b5.below hG).cell 4 _ rfl, (b5.below hG).cell 5 _ rfl, (b1.below hG).cell 0 _ rfl, (b1.below hG).cell 1 _ rfl, (b1.below hG).cell 2 _ rfl⟩ (fun hHeld => ?_)
        clear hK K
        (try simp only [List.getElem_toArray, List.getElem_cons_succ, List.getElem_cons_zero, Act.put, List.setIfInBounds_toArray, List.set_cons_zero, List.set_cons_succ])
        refine wpAnyH_ready (rs := [4]) (by kernel_rfl) (by simp) (AllReadyH.cons (o := _) rfl (fun K hK => ?_) AllReadyH.nil)
        go_simp
        go_at_call 91
        refine (dcross_v ((h0.below hG).ri.more hM) ((h1.below hG).ri.more hM) ((h2.below hG).ri.more hM) g6.ri g7.ri g8.ri (by omega)).mono ?_
        rintro e y4_10 ⟨s9, A9, n9, c9, s10, A10, n10, c10, s11, A11, n11, c11, rfl, g9, g10, g11, hb9⟩
        have szy4_10 := hb9.size
        replace g6 := g6.below hb9
        replace g7 := g7.below hb9
        replace g8 := g8.below hb9
        replace b6 := b6.below hb9
        replace hG := hG.trans (hb9.mono sG)
        replace sG := hG.size
        clear hb9
        clear g6
        clear g7
        clear g8
        go_wp2_with fail
        refine hK.out _ _ ⟨(b5.below hG).cell 0 _ rfl, (b5.below hG).cell 1 _ rfl, (b5.below hG).cell 2 _ rfl, (b5.below hG).cell 3 _ rfl, (b5.below hG).cell 4 _ rfl, (b5.below hG).cell 5 _ rfl, (b1.below hG).cell 0 _ rfl, (b1.below hG).cell 1 _ rfl, (b1.below hG).cell 2 _ rfl⟩ (fun hHeld => ?_)
        clear hK K
        (try simp only [List.getElem_toArray, List.getElem_cons_succ, List.getElem_cons_zero, Act.put, List.setIfInBounds_toArray, List.set_cons_zero, List.set_cons_succ])
        refine wpAnyH_ready (rs := [5]) (by kernel_rfl) (by simp) (AllReadyH.cons (o := _) rfl (fun K hK => ?_) AllReadyH.nil)
        go_simp
        go_at_call 93
        refine (lpoint_v g9.ri g10.ri g11.ri (at_den V0.out.1 (by have := q0.den_pos; omega)) (by omega)).mono ?_
        rintro e y4_11 ⟨s16, A16, n16, c16, D16, m16, e16, s17, A17, n17, c17, D17, m17, e17, rfl, g3, g4, hb9⟩
        have szy4_11 := hb9.size
        replace g9 := g9.below hb9
        replace g10 := g10.below hb9
        replace g11 := g11.below hb9
        replace b6 := b6.below hb9
        replace hG := hG.trans (hb9.mono sG)
        replace sG := hG.size
        clear hb9
        clear g9
        clear g10
        clear g11
        go_wp2_with fail
        refine hK.out _ _ ⟨(b5.below hG).cell 0 _ rfl, (b5.below hG).cell 1 _ rfl, (b5.below hG).cell 2 _ rfl, (b5.below hG).cell 3 _ rfl, (b5.below hG).cell 4 _ rfl, (b5.below hG).cell 5 _ rfl, (b1.below hG).cell 0 _ rfl, (b1.below hG).cell 1 _ rfl, (b1.below hG).cell 2 _ rfl⟩ (fun hHeld => ?_)
        clear hK K
        (try simp only [List.getElem_toArray, List.getElem_cons_succ, List.getElem_cons_zero, Act.put, List.setIfInBounds_toArray, List.set_cons_zero, List.set_cons_succ])
        refine wpAnyH_take (i := 6) (v := ?_) rfl (by kernel_rfl) (by kernel_rfl) (by kernel_rfl) (fun _ _ _ h => h) (Or.inl ⟨by rfl, ?_⟩) (by assumption) ?_
        rotate_left
        · (intro w hSw; (try dsimp only at hSw); go_simp; (try with_reducible rfl))
        (try simp only [List.getElem_toArray, List.getElem_cons_succ, List.getElem_cons_zero, Act.put, List.setIfInBounds_toArray, List.set_cons_zero, List.set_cons_succ])
        refine wpAnyH_take (i := 7) (v := ?_) rfl (by kernel_rfl) (by kernel_rfl) (by kernel_rfl) (fun _ _ _ h => h) (Or.inl ⟨by rfl, ?_⟩) (by assumption) ?_
        rotate_left
        · (intro w hSw; (try dsimp only at hSw); go_simp; (try with_reducible rfl))
        (try simp only [List.getElem_toArray, List.getElem_cons_succ, List.getElem_cons_zero, Act.put, List.setIfInBounds_toArray, List.set_cons_zero, List.set_cons_succ])
        refine wpAnyH_take (i := 8) (v := ?_) rfl (by kernel_rfl) (by kernel_rfl) (by kernel_rfl) (fun _ _ _ h => h) (Or.inl ⟨by rfl, ?_⟩) (by assumption) ?_
        rotate_left
        · (intro w hSw; (try dsimp only at hSw); go_simp; (try with_reducible rfl))
        (try simp only [List.getElem_toArray, List.getElem_cons_succ, List.getElem_cons_zero, Act.put, List.setIfInBounds_toArray, List.set_cons_zero, List.set_cons_succ])
        have rb60 := b6.cell 0 _ rfl
        have qb60 := b6.frozen 0
        have rb61 := b6.cell 1 _ rfl
        have qb61 := b6.frozen 1
        have rb62 := b6.cell 2 _ rfl
        have qb62 := b6.frozen 2
        have rb63 := b6.cell 3 _ rfl
        have qb63 := b6.frozen 3
        have rb64 := b6.cell 4 _ rfl
        have qb64 := b6.frozen 4
        have rb65 := b6.cell 5 _ rfl
        have qb65 := b6.frozen 5
        refine wpAnyH_ready (rs := [10]) (by kernel_rfl) (by simp) (AllReadyH.cons (o := _) rfl (fun K hK => ?_) AllReadyH.nil)
        go_simp
        clear rb60 qb60
        clear rb61 qb61
        clear rb62 qb62
        clear rb63 qb63
        clear rb64 qb64
        clear rb65 qb65
        have hg := only_store6 y4_11 (y4_1.heap.size) (.bool s16) (.slice A16 n16 c16) (.slice D16 m16 e16) (.bool s17) (.slice A17 n17 c17) (.slice D17 m17 e17)
        have hB := b6.stored6 (.bool s16) (.slice A16 n16 c16) (.slice D16 m16 e16) (.bool s17) (.slice A17 n17 c17) (.slice D17 m17 e17)
        generalize hX : ((((((y4_11.setCell ⟨y4_1.heap.size, 0, none⟩ (.bool s16)).setCell ⟨y4_1.heap.size, 1, none⟩ (.slice A16 n16 c16)).setCell ⟨y4_1.heap.size, 2, none⟩ (.slice D16 m16 e16)).setCell ⟨y4_1.heap.size, 3, none⟩ (.bool s17)).setCell ⟨y4_1.heap.size, 4, none⟩ (.slice A17 n17 c17)).setCell ⟨y4_1.heap.size, 5, none⟩ (.slice D17 m17 e17)) = Y4_12 at hg hB ⊢
        clear hX
        replace g3 := g3.kept b6 (by simp [notInt]) hg
        replace g4 := g4.kept b6 (by simp [notInt]) hg
        replace b6 := hB
        replace hG := below_only hG hg (by omega) sG
        replace sG := hG.size
        clear hg hB
        refine hK.out _ _ ⟨(b5.below hG).cell 0 _ rfl, (b5.below hG).cell 1 _ rfl, (b5.below hG).cell 2 _ rfl, (b5.below hG).cell 3 _ rfl, (b5.below hG).cell 4 _ rfl, (b5.below hG).cell 5 _ rfl, (b1.below hG).cell 0 _ rfl, (b1.below hG).cell 1 _ rfl, (b1.below hG).cell 2 _ rfl⟩ (fun hHeld => ?_)
        clear hK K
        (try simp only [List.getElem_toArray, List.getElem_cons_succ, List.getElem_cons_zero, Act.put, List.setIfInBounds_toArray, List.set_cons_zero, List.set_cons_succ])
        refine wpAnyH_take (i := 11) (v := ?_) rfl (by kernel_rfl) (by kernel_rfl) (by kernel_rfl) (fun _ _ _ h => h) (Or.inl ⟨by rfl, ?_⟩) (by assumption) ?_
        rotate_left
        · (intro w hSw; (try dsimp only at hSw); go_simp; (try with_reducible rfl))
        (try simp only [List.getElem_toArray, List.getElem_cons_succ, List.getElem_cons_zero, Act.put, List.setIfInBounds_toArray, List.set_cons_zero, List.set_cons_succ])
        refine wpAnyH_done (by kernel_rfl) ?_ _
        refine NoPanic.normal ?_
        go_wp2_with fail
        go_meet
        exact ⟨y4_1.heap.size, s16, A16, n16, c16, D16, m16, e16, s17, A17, n17, c17, D17, m17, e17, rfl, by rw [← at_x z2 V0.out.1]; exact g3, by rw [← at_y z2 V0.out.1]; exact g4, b6, (by omega), hG⟩
    · go_simp
      obtain ⟨y4_13, hV, b6, hb9, szy4_13⟩ := boxes1 v4 #[.bool false, .slice none 0 0, .slice none 0 0, .bool false, .slice none 0 0, .slice none 0 0] 54
      rw [hV]
      clear hV
      have gly4_13 : W3.heap.size ≤ v4.heap.size := sG
      replace szy4_13 : v4.heap.size < y4_13.heap.size := by omega
      replace hG := hG.trans (hb9.mono sG)
      replace sG := hG.size
      clear hb9
      refine hK.out _ _ ⟨(b5.below hG).cell 0 _ rfl, (b5.below hG).cell 1 _ rfl, (b5.below hG).cell 2 _ rfl, (b5.below hG).cell 3 _ rfl, (b5.below hG).cell 4 _ rfl, (b5.below hG).cell 5 _ rfl, (b1.below hG).cell 0 _ rfl, (b1.below hG).cell 1 _ rfl, (b1.below hG).cell 2 _ rfl⟩ (fun hHeld => ?_)
      clear hK K
      (try simp only [List.getElem_toArray, List.getElem_cons_succ, List.getElem_cons_zero, Act.put, List.setIfInBounds_toArray, List.set_cons_zero, List.set_cons_succ])
      refine wpAnyH_ready (rs := [3]) (by kernel_rfl) (by simp) (AllReadyH.cons (o := _) rfl (fun K hK => ?_) AllReadyH.nil)
      go_simp
      go_at_call 92
      refine (lacrossat_v (h0.below hG) (h1.below hG) (h.below hG) hL).mono ?_
      rintro e y4_14 ⟨s6, A6, n6, c6, s7, A7, n7, c7, s8, A8, n8, c8, rfl, g6, g7, g8, hb9⟩
      have szy4_14 := hb9.size
      replace b6 := b6.below hb9
      replace hG := hG.trans (hb9.mono sG)
      replace sG := hG.size
      clear hb9
      go_wp2_with fail
      refine hK.out _ _ ⟨(b5.below hG).cell 0 _ rfl, (b5.below hG).cell 1 _ rfl, (b5.below hG).cell 2 _ rfl, (b5.below hG).cell 3 _ rfl, (b5.below hG).cell 4 _ rfl, (b5.below hG).cell 5 _ rfl, (b1.below hG).cell 0 _ rfl, (b1.below hG).cell 1 _ rfl, (b1.below hG).cell 2 _ rfl⟩ (fun hHeld => ?_)
      clear hK K
      (try simp only [List.getElem_toArray, List.getElem_cons_succ, List.getElem_cons_zero, Act.put, List.setIfInBounds_toArray, List.set_cons_zero, List.set_cons_succ])
      refine wpAnyH_ready (rs := [4]) (by kernel_rfl) (by simp) (AllReadyH.cons (o := _) rfl (fun K hK => ?_) AllReadyH.nil)
      go_simp
      go_at_call 91
      refine (dcross_v ((h0.below hG).ri.more hM) ((h1.below hG).ri.more hM) ((h2.below hG).ri.more hM) g6.ri g7.ri g8.ri (by omega)).mono ?_
      rintro e y4_15 ⟨s9, A9, n9, c9, s10, A10, n10, c10, s11, A11, n11, c11, rfl, g9, g10, g11, hb9⟩
      have szy4_15 := hb9.size
      replace g6 := g6.below hb9
      replace g7 := g7.below hb9
      replace g8 := g8.below hb9
      replace b6 := b6.below hb9
      replace hG := hG.trans (hb9.mono sG)
      replace sG := hG.size
      clear hb9
      clear g6
      clear g7
      clear g8
      go_wp2_with fail
      refine hK.out _ _ ⟨(b5.below hG).cell 0 _ rfl, (b5.below hG).cell 1 _ rfl, (b5.below hG).cell 2 _ rfl, (b5.below hG).cell 3 _ rfl, (b5.below hG).cell 4 _ rfl, (b5.below hG).cell 5 _ rfl, (b1.below hG).cell 0 _ rfl, (b1.below hG).cell 1 _ rfl, (b1.below hG).cell 2 _ rfl⟩ (fun hHeld => ?_)
      clear hK K
      (try simp only [List.getElem_toArray, List.getElem_cons_succ, List.getElem_cons_zero, Act.put, List.setIfInBounds_toArray, List.set_cons_zero, List.set_cons_succ])
      refine wpAnyH_ready (rs := [5]) (by kernel_rfl) (by simp) (AllReadyH.cons (o := _) rfl (fun K hK => ?_) AllReadyH.nil)
      go_simp
      go_at_call 93
      refine (lpoint_v g9.ri g10.ri g11.ri (at_den V0.out.1 (by have := q0.den_pos; omega)) (by omega)).mono ?_
      rintro e y4_16 ⟨s16, A16, n16, c16, D16, m16, e16, s17, A17, n17, c17, D17, m17, e17, rfl, g3, g4, hb9⟩
      have szy4_16 := hb9.size
      replace g9 := g9.below hb9
      replace g10 := g10.below hb9
      replace g11 := g11.below hb9
      replace b6 := b6.below hb9
      replace hG := hG.trans (hb9.mono sG)
      replace sG := hG.size
      clear hb9
      clear g9
      clear g10
      clear g11
      go_wp2_with fail
      refine hK.out _ _ ⟨(b5.below hG).cell 0 _ rfl, (b5.below hG).cell 1 _ rfl, (b5.below hG).cell 2 _ rfl, (b5.below hG).cell 3 _ rfl, (b5.below hG).cell 4 _ rfl, (b5.below hG).cell 5 _ rfl, (b1.below hG).cell 0 _ rfl, (b1.below hG).cell 1 _ rfl, (b1.below hG).cell 2 _ rfl⟩ (fun hHeld => ?_)
      clear hK K
      (try simp only [List.getElem_toArray, List.getElem_cons_succ, List.getElem_cons_zero, Act.put, List.setIfInBounds_toArray, List.set_cons_zero, List.set_cons_succ])
      refine wpAnyH_take (i := 6) (v := ?_) rfl (by kernel_rfl) (by kernel_rfl) (by kernel_rfl) (fun _ _ _ h => h) (Or.inl ⟨by rfl, ?_⟩) (by assumption) ?_
      rotate_left
      · (intro w hSw; (try dsimp only at hSw); go_simp; (try with_reducible rfl))
      (try simp only [List.getElem_toArray, List.getElem_cons_succ, List.getElem_cons_zero, Act.put, List.setIfInBounds_toArray, List.set_cons_zero, List.set_cons_succ])
      refine wpAnyH_take (i := 7) (v := ?_) rfl (by kernel_rfl) (by kernel_rfl) (by kernel_rfl) (fun _ _ _ h => h) (Or.inl ⟨by rfl, ?_⟩) (by assumption) ?_
      rotate_left
      · (intro w hSw; (try dsimp only at hSw); go_simp; (try with_reducible rfl))
      (try simp only [List.getElem_toArray, List.getElem_cons_succ, List.getElem_cons_zero, Act.put, List.setIfInBounds_toArray, List.set_cons_zero, List.set_cons_succ])
      refine wpAnyH_take (i := 8) (v := ?_) rfl (by kernel_rfl) (by kernel_rfl) (by kernel_rfl) (fun _ _ _ h => h) (Or.inl ⟨by rfl, ?_⟩) (by assumption) ?_
      rotate_left
      · (intro w hSw; (try dsimp only at hSw); go_simp; (try with_reducible rfl))
      (try simp only [List.getElem_toArray, List.getElem_cons_succ, List.getElem_cons_zero, Act.put, List.setIfInBounds_toArray, List.set_cons_zero, List.set_cons_succ])
      have rb60 := b6.cell 0 _ rfl
      have qb60 := b6.frozen 0
      have rb61 := b6.cell 1 _ rfl
      have qb61 := b6.frozen 1
      have rb62 := b6.cell 2 _ rfl
      have qb62 := b6.frozen 2
      have rb63 := b6.cell 3 _ rfl
      have qb63 := b6.frozen 3
      have rb64 := b6.cell 4 _ rfl
      have qb64 := b6.frozen 4
      have rb65 := b6.cell 5 _ rfl
      have qb65 := b6.frozen 5
      refine wpAnyH_ready (rs := [10]) (by kernel_rfl) (by simp) (AllReadyH.cons (o := _) rfl (fun K hK => ?_) AllReadyH.nil)
      go_simp
      clear rb60 qb60
      clear rb61 qb61
      clear rb62 qb62
      clear rb63 qb63
      clear rb64 qb64
      clear rb65 qb65
      have hg := only_store6 y4_16 (v4.heap.size) (.bool s16) (.slice A16 n16 c16) (.slice D16 m16 e16) (.bool s17) (.slice A17 n17 c17) (.slice D17 m17 e17)
      have hB := b6.stored6 (.bool s16) (.slice A16 n16 c16) (.slice D16 m16 e16) (.bool s17) (.slice A17 n17 c17) (.slice D17 m17 e17)
      generalize hX : ((((((y4_16.setCell ⟨v4.heap.size, 0, none⟩ (.bool s16)).setCell ⟨v4.heap.size, 1, none⟩ (.slice A16 n16 c16)).setCell ⟨v4.heap.size, 2, none⟩ (.slice D16 m16 e16)).setCell ⟨v4.heap.size, 3, none⟩ (.bool s17)).setCell ⟨v4.heap.size, 4, none⟩ (.slice A17 n17 c17)).setCell ⟨v4.heap.size, 5, none⟩ (.slice D17 m17 e17)) = Y4_17 at hg hB ⊢
      clear hX
      replace g3 := g3.kept b6 (by simp [notInt]) hg
      replace g4 := g4.kept b6 (by simp [notInt]) hg
      replace b6 := hB
      replace hG := below_only hG hg (by omega) sG
      replace sG := hG.size
      clear hg hB
      refine hK.out _ _ ⟨(b5.below hG).cell 0 _ rfl, (b5.below hG).cell 1 _ rfl, (b5.below hG).cell 2 _ rfl, (b5.below hG).cell 3 _ rfl, (b5.below hG).cell 4 _ rfl, (b5.below hG).cell 5 _ rfl, (b1.below hG).cell 0 _ rfl, (b1.below hG).cell 1 _ rfl, (b1.below hG).cell 2 _ rfl⟩ (fun hHeld => ?_)
      clear hK K
      (try simp only [List.getElem_toArray, List.getElem_cons_succ, List.getElem_cons_zero, Act.put, List.setIfInBounds_toArray, List.set_cons_zero, List.set_cons_succ])
      refine wpAnyH_take (i := 11) (v := ?_) rfl (by kernel_rfl) (by kernel_rfl) (by kernel_rfl) (fun _ _ _ h => h) (Or.inl ⟨by rfl, ?_⟩) (by assumption) ?_
      rotate_left
      · (intro w hSw; (try dsimp only at hSw); go_simp; (try with_reducible rfl))
      (try simp only [List.getElem_toArray, List.getElem_cons_succ, List.getElem_cons_zero, Act.put, List.setIfInBounds_toArray, List.set_cons_zero, List.set_cons_succ])
      refine wpAnyH_done (by kernel_rfl) ?_ _
      refine NoPanic.normal ?_
      go_wp2_with fail
      go_meet
      exact ⟨v4.heap.size, s16, A16, n16, c16, D16, m16, e16, s17, A17, n17, c17, D17, m17, e17, rfl, by rw [← at_x z2 V0.out.1]; exact g3, by rw [← at_y z2 V0.out.1]; exact g4, b6, (by omega), hG⟩
  obtain ⟨g4_0, s16, A16, n16, c16, D16, m16, e16, s17, A17, n17, c17, D17, m17, e17, rfl, g3, g4, b6, glg4_0, hG⟩ := hcut
  replace h0 := h0.below hG
  replace h1 := h1.below hG
  replace h2 := h2.below hG
  replace h := h.below hG
  replace b0 := b0.below hG
  replace b1 := b1.below hG
  replace b9 := b9.below hG
  replace b5 := b5.below hG
  replace H0 := H0.trans (hG.mono H0.size)
  clear hG
  have cb60 := b6.cell 0 _ rfl
  have cb61 := b6.cell 1 _ rfl
  have cb62 := b6.cell 2 _ rfl
  have cb63 := b6.cell 3 _ rfl
  have cb64 := b6.cell 4 _ rfl
  have cb65 := b6.cell 5 _ rfl
  have cb90 := b9.cell 0 _ rfl
  have yb90 := b9.frozen 0
  have cb91 := b9.cell 1 _ rfl
  have yb91 := b9.frozen 1
  have cb92 := b9.cell 2 _ rfl
  have yb92 := b9.frozen 2
  have cb93 := b9.cell 3 _ rfl
  have yb93 := b9.frozen 3
  have cb94 := b9.cell 4 _ rfl
  have yb94 := b9.frozen 4
  have cb95 := b9.cell 5 _ rfl
  have yb95 := b9.frozen 5
  go_wp2_with fail
  clear cb60 cb61 cb62 cb63 cb64 cb65 cb90 yb90 cb91 yb91 cb92 yb92 cb93 yb93 cb94 yb94 cb95 yb95
  have hg := only_store6 wc (w.heap.size + 1 + 1) (.bool s16) (.slice A16 n16 c16) (.slice D16 m16 e16) (.bool s17) (.slice A17 n17 c17) (.slice D17 m17 e17)
  have hB := b9.stored6 (.bool s16) (.slice A16 n16 c16) (.slice D16 m16 e16) (.bool s17) (.slice A17 n17 c17) (.slice D17 m17 e17)
  generalize hX : ((((((wc.setCell ⟨w.heap.size + 1 + 1, 0, none⟩ (.bool s16)).setCell ⟨w.heap.size + 1 + 1, 1, none⟩ (.slice A16 n16 c16)).setCell ⟨w.heap.size + 1 + 1, 2, none⟩ (.slice D16 m16 e16)).setCell ⟨w.heap.size + 1 + 1, 3, none⟩ (.bool s17)).setCell ⟨w.heap.size + 1 + 1, 4, none⟩ (.slice A17 n17 c17)).setCell ⟨w.heap.size + 1 + 1, 5, none⟩ (.slice D17 m17 e17)) = X6 at hg hB ⊢
  clear hX
  replace h0 := h0.kept b9 (by simp [notInt]) hg
  replace h1 := h1.kept b9 (by simp [notInt]) hg
  replace h2 := h2.kept b9 (by simp [notInt]) hg
  replace h := h.kept b9 (by simp [notInt]) hg
  replace g3 := g3.kept b9 (by simp [notInt]) hg
  replace g4 := g4.kept b9 (by simp [notInt]) hg
  replace b0 := b0.other hg (by omega)
  replace b1 := b1.other hg (by omega)
  replace b5 := b5.other hg (by omega)
  replace b6 := b6.other hg (by omega)
  replace b9 := hB
  replace H0 := below_only H0 hg (by omega) H0.size
  clear hg hB
  refine bodyPost_ret (ret_point rfl rfl b9) rfl ?_
  exact ⟨_, _, _, _, _, _, _, _, _, _, _, _, _, _, rfl, g3, g4, H0⟩
set_option maxRecDepth 100000 in
set_option maxHeartbeats 4000000 in
theorem lparam_v (h0 : NI w s0 (.slice A0 n0 c0) z0 L) (h1 : NI w s1 (.slice A1 n1 c1) z1 L) (h2 : NI w s2 (.slice A2 n2 c2) z2 L) (v0 : VL z0 z1 z2) (h : NQ w s20 (.slice A20 n20 c20) (.slice D20 m20 e20) q0 L) (h' : NQ w s21 (.slice A21 n21 c21) (.slice D21 m21 e21) q1 L) (hL : L ≤ 10000) :
    Calls Tryz.prog 37 #[.agg #[.bool s0, .slice A0 n0 c0, .bool s1, .slice A1 n1 c1, .bool s2, .slice A2 n2 c2], .agg #[.bool s20, .slice A20 n20 c20, .slice D20 m20 e20, .bool s21, .slice A21 n21 c21, .slice D21 m21 e21]] w fun e w' => ∃ s15 A15 n15 c15 D15 m15 e15, e = .returned (.agg #[.bool s15, .slice A15 n15 c15, .slice D15 m15 e15]) ∧ NQ w' s15 (.slice A15 n15 c15) (.slice D15 m15 e15) (parQ z0 z1 q0 q1) (2 * (2 * max L 2) + 2 + 2 * max L 2) ∧ Below w.heap.size w w' := by
  have HPD := Lib.hid (fun (d : Int) (hd : 0 < d) => show (z1 * z1 + -z0 * -z0 + 0 * 0) * d ≠ 0 from by have := Int.mul_pos (sqd_pos v0.1) hd; rw [Int.zero_mul, Int.add_zero]; omega)
  have V0 := Lib.hid v0
  clear v0
  have hM : L ≤ 2 * max L 2 := by omega
  have hM2 : 2 * (2 * max L 2) + 2 ≤ 2 * (2 * max L 2) + 2 + 2 * max L 2 := by omega
  go_enter Tryz.func37, Tryz.ntmps37
  go_wp2_with fail
  obtain ⟨W0, hW, b0, b1, b9, hbW, hszW0⟩ := boxes3 w #[.bool s0, .slice A0 n0 c0, .bool s1, .slice A1 n1 c1, .bool s2, .slice A2 n2 c2] #[.bool s20, .slice A20 n20 c20, .slice D20 m20 e20, .bool s21, .slice A21 n21 c21, .slice D21 m21 e21] #[.bool false, .slice none 0 0, .slice none 0 0] 30 54 52
  rw [hW]
  clear hW
  replace h0 := h0.below hbW
  replace h1 := h1.below hbW
  replace h2 := h2.below hbW
  replace h := h.below hbW
  replace h' := h'.below hbW
  have H0 := hbW
  clear hbW
  have cb00 := b0.cell 0 _ rfl
  have cb01 := b0.cell 1 _ rfl
  have cb02 := b0.cell 2 _ rfl
  have cb03 := b0.cell 3 _ rfl
  have cb04 := b0.cell 4 _ rfl
  have cb05 := b0.cell 5 _ rfl
  go_wp2_with fail
  clear cb00 cb01 cb02 cb03 cb04 cb05
  refine (lvalid_v h0 h1 h2 V0.out (by omega)).mono ?_
  rintro e w1 ⟨rfl, hb⟩
  replace h0 := h0.below hb
  replace h1 := h1.below hb
  replace h2 := h2.below hb
  replace h := h.below hb
  replace h' := h'.below hb
  replace b0 := b0.below hb
  replace b1 := b1.below hb
  replace b9 := b9.below hb
  replace H0 := H0.trans (hb.mono H0.size)
  clear hb
  have cb00 := b0.cell 0 _ rfl
  have cb01 := b0.cell 1 _ rfl
  have cb02 := b0.cell 2 _ rfl
  have cb03 := b0.cell 3 _ rfl
  have cb04 := b0.cell 4 _ rfl
  have cb05 := b0.cell 5 _ rfl
  have cb10 := b1.cell 0 _ rfl
  have cb11 := b1.cell 1 _ rfl
  have cb12 := b1.cell 2 _ rfl
  have cb13 := b1.cell 3 _ rfl
  have cb14 := b1.cell 4 _ rfl
  have cb15 := b1.cell 5 _ rfl
  go_wp2_with fail
  clear cb00 cb01 cb02 cb03 cb04 cb05 cb10 cb11 cb12 cb13 cb14 cb15
  have lkb0 := b0.lt
  have lkb1 := b1.lt
  have lkb9 := b9.lt
  go_cut [5, 6] from 7 (fun s_5 s_6 wx => ∃ g70 g71 ua ub ud s6 A6 n6 c6 s7 A7 n7 c7 s8 A8 n8 c8 s9 A9 n9 c9 s10 A10 n10 c10 s11 A11 n11 c11, s_5 = .pointer (some ⟨g70, 0, none⟩) ∧ s_6 = .pointer (some ⟨g71, 0, none⟩) ∧ NI wx s6 (.slice A6 n6 c6) (z1) L ∧ NI wx s7 (.slice A7 n7 c7) (-z0) L ∧ NI wx s8 (.slice A8 n8 c8) (0) L ∧ NI wx s9 (.slice A9 n9 c9) ua (2 * max L 2) ∧ NI wx s10 (.slice A10 n10 c10) ub (2 * max L 2) ∧ NI wx s11 (.slice A11 n11 c11) ud (2 * max L 2) ∧ Hom q0 q1 ua ub ud ∧ Box wx g70 #[.bool s6, .slice A6 n6 c6, .bool s7, .slice A7 n7 c7, .bool s8, .slice A8 n8 c8] 95 ∧ Box wx g71 #[.bool s9, .slice A9 n9 c9, .bool s10, .slice A10 n10 c10, .bool s11, .slice A11 n11 c11] 106 ∧ w1.heap.size ≤ g70 ∧ w1.heap.size ≤ g71 ∧ Below w1.heap.size w1 wx)
  case first =>
    have lcb0_2 := b0.lt
    have lcb1_2 := b1.lt
    have lcb9_2 := b9.lt
    have hG := drawn_below w1
    refine wp_region_noPanic ?_
    refine wp_region_anyd (by kernel_rfl) ?_
    generalize w1.drew = v2 at hG ⊢
    refine wpAny_of_F (S := (fun V => V.cell? ⟨w.heap.size, 0, none⟩ = some (.bool s0) ∧ V.cell? ⟨w.heap.size, 1, none⟩ = some (.slice A0 n0 c0) ∧ V.cell? ⟨w.heap.size, 2, none⟩ = some (.bool s1) ∧ V.cell? ⟨w.heap.size, 3, none⟩ = some (.slice A1 n1 c1) ∧ V.cell? ⟨w.heap.size, 4, none⟩ = some (.bool s2) ∧ V.cell? ⟨w.heap.size, 5, none⟩ = some (.slice A2 n2 c2) ∧ V.cell? ⟨w.heap.size + 1, 0, none⟩ = some (.bool s20) ∧ V.cell? ⟨w.heap.size + 1, 1, none⟩ = some (.slice A20 n20 c20) ∧ V.cell? ⟨w.heap.size + 1, 2, none⟩ = some (.slice D20 m20 e20) ∧ V.cell? ⟨w.heap.size + 1, 3, none⟩ = some (.bool s21) ∧ V.cell? ⟨w.heap.size + 1, 4, none⟩ = some (.slice A21 n21 c21) ∧ V.cell? ⟨w.heap.size + 1, 5, none⟩ = some (.slice D21 m21 e21))) (F := (fun j => j == 7 || j == 8)) _ _ _ _ ?_
    refine wpAnyF_take (i := 0) (v := ?_) (fun j => j == 1 || j == 2 || j == 4 || j == 7 || j == 8) rfl (by kernel_rfl) (by kernel_rfl) (by kernel_rfl) (by kernel_rfl) (fun j hj => by have h6 : 9 ≤ j := hj; simp; omega) (fun _ _ _ h => h) (Or.inl ⟨by rfl, ?_⟩) ⟨(b0.below hG).cell 0 _ rfl, (b0.below hG).cell 1 _ rfl, (b0.below hG).cell 2 _ rfl, (b0.below hG).cell 3 _ rfl, (b0.below hG).cell 4 _ rfl, (b0.below hG).cell 5 _ rfl, (b1.below hG).cell 0 _ rfl, (b1.below hG).cell 1 _ rfl, (b1.below hG).cell 2 _ rfl, (b1.below hG).cell 3 _ rfl, (b1.below hG).cell 4 _ rfl, (b1.below hG).cell 5 _ rfl⟩ ?_
    rotate_left
    · (intro w hSw; (try dsimp only at hSw); go_simp; (try with_reducible rfl))
    (try simp only [List.getElem_toArray, List.getElem_cons_zero, Act.put, List.setIfInBounds_toArray, List.set_cons_zero, List.set_cons_succ])
    refine wpAnyF_take (i := 3) (v := ?_) (fun j => j == 4 || j == 7 || j == 8) rfl (by kernel_rfl) (by kernel_rfl) (by kernel_rfl) (by kernel_rfl) (fun j hj => by have h6 : 9 ≤ j := hj; simp; omega) (fun _ _ _ h => h) (Or.inl ⟨by rfl, ?_⟩) ⟨(b0.below hG).cell 0 _ rfl, (b0.below hG).cell 1 _ rfl, (b0.below hG).cell 2 _ rfl, (b0.below hG).cell 3 _ rfl, (b0.below hG).cell 4 _ rfl, (b0.below hG).cell 5 _ rfl, (b1.below hG).cell 0 _ rfl, (b1.below hG).cell 1 _ rfl, (b1.below hG).cell 2 _ rfl, (b1.below hG).cell 3 _ rfl, (b1.below hG).cell 4 _ rfl, (b1.below hG).cell 5 _ rfl⟩ ?_
    rotate_left
    · (intro w hSw; (try dsimp only at hSw); go_simp; (try with_reducible rfl))
    (try simp only [List.getElem_toArray, List.getElem_cons_succ, List.getElem_cons_zero, Act.put, List.setIfInBounds_toArray, List.set_cons_zero, List.set_cons_succ])
    refine wpAnyF_name (n' := 7) (l' := #[true, false, false, true, false, false, false, false, false]) (by kernel_rfl) (by kernel_rfl) (fun Ac_ hA => ?_)
    refine wpAnyF_phase (rs := [1, 2, 4, 5, 6]) (full := #[true, true, true, true, true, true, true, false, false]) (states := [#[true, false, false, true, false, false, false, false, false], #[true, true, false, true, false, false, false, false, false], #[true, false, false, true, false, true, false, false, false], #[true, false, false, true, false, false, true, false, false], #[true, true, false, true, false, false, true, false, false], #[true, false, false, true, false, true, true, false, false], #[true, true, false, true, false, true, true, false, false], #[true, true, true, true, false, true, true, false, false], #[true, true, true, true, true, true, true, false, false], #[true, true, true, true, false, false, true, false, false], #[true, true, true, true, true, false, true, false, false], #[true, true, false, true, false, true, false, false, false], #[true, true, true, true, false, true, false, false, false], #[true, true, true, true, true, true, false, false, false], #[true, true, true, true, false, false, false, false, false], #[true, true, true, true, true, false, false, false, false]]) (k := 2) (I := fun listed a w => ∃ (y1_ y2_ y4_ y5_ y6_ : Value), a = (((((Ac_.put (some 12) y1_).put (some 13) y2_).put (some 15) y4_).put (some 5) y5_).put (some 6) y6_) ∧ Below w1.heap.size w1 w ∧ (listed.getD 1 false = true → y1_ = .agg #[.bool s0, .slice A0 n0 c0, .bool s1, .slice A1 n1 c1, .bool s2, .slice A2 n2 c2]) ∧ (listed.getD 2 false = true → ∃ s6 A6 n6 c6 s7 A7 n7 c7 s8 A8 n8 c8, y2_ = .agg #[.bool s6, .slice A6 n6 c6, .bool s7, .slice A7 n7 c7, .bool s8, .slice A8 n8 c8] ∧ NI w s6 (.slice A6 n6 c6) (z1) L ∧ NI w s7 (.slice A7 n7 c7) (-z0) L ∧ NI w s8 (.slice A8 n8 c8) (0) L) ∧ (listed.getD 4 false = true → ∃ ua ub ud s9 A9 n9 c9 s10 A10 n10 c10 s11 A11 n11 c11, y4_ = .agg #[.bool s9, .slice A9 n9 c9, .bool s10, .slice A10 n10 c10, .bool s11, .slice A11 n11 c11] ∧ NI w s9 (.slice A9 n9 c9) ua (2 * max L 2) ∧ NI w s10 (.slice A10 n10 c10) ub (2 * max L 2) ∧ NI w s11 (.slice A11 n11 c11) ud (2 * max L 2) ∧ Hom q0 q1 ua ub ud) ∧ (listed.getD 5 false = true → ∃ g0_, y5_ = .pointer (some ⟨g0_, 0, none⟩) ∧ Box w g0_ #[.bool false, .slice none 0 0, .bool false, .slice none 0 0, .bool false, .slice none 0 0] 95 ∧ w1.heap.size ≤ g0_) ∧ (listed.getD 6 false = true → ∃ g1_, y6_ = .pointer (some ⟨g1_, 0, none⟩) ∧ Box w g1_ #[.bool false, .slice none 0 0, .bool false, .slice none 0 0, .bool false, .slice none 0 0] 106 ∧ w1.heap.size ≤ g1_) ∧ (listed.getD 5 false = true → listed.getD 6 false = true → y5_ ≠ y6_)) (by kernel_rfl) (by kernel_rfl) ?_ ?_ _ _ _ _ (by kernel_rfl) (by kernel_rfl) ⟨Ac_.tmps.getD 12 undef, Ac_.tmps.getD 13 undef, Ac_.tmps.getD 15 undef, Ac_.tmps.getD 5 undef, Ac_.tmps.getD 6 undef, by subst hA; kernel_rfl, hG, fun h => (by cases h), fun h => (by cases h), fun h => (by cases h), fun h => (by cases h), fun h => (by cases h), fun h => (by cases h)⟩
    · refine (AllStepsF.cons (i := 1) (o := _) rfl rfl ?_ (AllStepsF.cons (i := 2) (o := _) rfl rfl ?_ (AllStepsF.cons (i := 4) (o := _) rfl rfl ?_ (AllStepsF.cons (i := 5) (o := _) rfl rfl ?_ (AllStepsF.cons (i := 6) (o := _) rfl rfl ?_ AllStepsF.nil)))))
      · rintro listed a wx ⟨y1_, y2_, y4_, y5_, y6_, rfl, hG, H1_, H2_, H4_, H5_, H6_, D5_6⟩ hi K hK
        subst hA
        (try simp only [Act.put, List.setIfInBounds_toArray, List.set_cons_zero, List.set_cons_succ])
        go_simp
        go_at_call 82
        refine (lcoef_v).mono ?_
        rintro e X ⟨rfl, hb9⟩
        go_wp2_with fail
        have hG9 := hG.trans (hb9.mono hG.size)
        refine hK.out _ _ ⟨(b0.below hG9).cell 0 _ rfl, (b0.below hG9).cell 1 _ rfl, (b0.below hG9).cell 2 _ rfl, (b0.below hG9).cell 3 _ rfl, (b0.below hG9).cell 4 _ rfl, (b0.below hG9).cell 5 _ rfl, (b1.below hG9).cell 0 _ rfl, (b1.below hG9).cell 1 _ rfl, (b1.below hG9).cell 2 _ rfl, (b1.below hG9).cell 3 _ rfl, (b1.below hG9).cell 4 _ rfl, (b1.below hG9).cell 5 _ rfl⟩ ?_
        clear hK K
        exact ⟨_, y2_, y4_, y5_, y6_, by kernel_rfl, hG9, fun _ => rfl, fun h => by obtain ⟨s6, A6, n6, c6, s7, A7, n7, c7, s8, A8, n8, c8, e_, g6', g7', g8'⟩ := H2_ (set_dep (by decide) h); exact ⟨s6, A6, n6, c6, s7, A7, n7, c7, s8, A8, n8, c8, e_, g6'.below hb9, g7'.below hb9, g8'.below hb9⟩, fun h => by obtain ⟨ua, ub, ud, s9, A9, n9, c9, s10, A10, n10, c10, s11, A11, n11, c11, e_, g9', g10', g11', hm'⟩ := H4_ (set_dep (by decide) h); exact ⟨ua, ub, ud, s9, A9, n9, c9, s10, A10, n10, c10, s11, A11, n11, c11, e_, g9'.below hb9, g10'.below hb9, g11'.below hb9, hm'⟩, fun h => by obtain ⟨g0_, e_, bx0', hl0'⟩ := H5_ (set_dep (by decide) h); exact ⟨g0_, e_, bx0'.below hb9, hl0'⟩, fun h => by obtain ⟨g1_, e_, bx1', hl1'⟩ := H6_ (set_dep (by decide) h); exact ⟨g1_, e_, bx1'.below hb9, hl1'⟩, fun h h9 => D5_6 (set_dep (by decide) h) (set_dep (by decide) h9)⟩
      · rintro listed a wx ⟨y1_, y2_, y4_, y5_, y6_, rfl, hG, H1_, H2_, H4_, H5_, H6_, D5_6⟩ hi K hK
        have e1_ : listed.getD 1 false = true := ready_dep hi rfl 1 (by kernel_rfl)
        obtain rfl := H1_ e1_
        subst hA
        (try simp only [Act.put, List.setIfInBounds_toArray, List.set_cons_zero, List.set_cons_succ])
        go_simp
        go_at_call 94
        refine (lacross_v (h0.below hG) (h1.below hG) (by omega)).mono ?_
        rintro e X ⟨s6, A6, n6, c6, s7, A7, n7, c7, s8, A8, n8, c8, rfl, g6, g7, g8, hb9⟩
        go_wp2_with fail
        have hG9 := hG.trans (hb9.mono hG.size)
        refine hK.out _ _ ⟨(b0.below hG9).cell 0 _ rfl, (b0.below hG9).cell 1 _ rfl, (b0.below hG9).cell 2 _ rfl, (b0.below hG9).cell 3 _ rfl, (b0.below hG9).cell 4 _ rfl, (b0.below hG9).cell 5 _ rfl, (b1.below hG9).cell 0 _ rfl, (b1.below hG9).cell 1 _ rfl, (b1.below hG9).cell 2 _ rfl, (b1.below hG9).cell 3 _ rfl, (b1.below hG9).cell 4 _ rfl, (b1.below hG9).cell 5 _ rfl⟩ ?_
        clear hK K
        exact ⟨_, _, y4_, y5_, y6_, by kernel_rfl, hG9, fun _ => rfl, fun _ => ⟨s6, A6, n6, c6, s7, A7, n7, c7, s8, A8, n8, c8, rfl, g6, g7, g8⟩, fun h => by obtain ⟨ua, ub, ud, s9, A9, n9, c9, s10, A10, n10, c10, s11, A11, n11, c11, e_, g9', g10', g11', hm'⟩ := H4_ (set_dep (by decide) h); exact ⟨ua, ub, ud, s9, A9, n9, c9, s10, A10, n10, c10, s11, A11, n11, c11, e_, g9'.below hb9, g10'.below hb9, g11'.below hb9, hm'⟩, fun h => by obtain ⟨g0_, e_, bx0', hl0'⟩ := H5_ (set_dep (by decide) h); exact ⟨g0_, e_, bx0'.below hb9, hl0'⟩, fun h => by obtain ⟨g1_, e_, bx1', hl1'⟩ := H6_ (set_dep (by decide) h); exact ⟨g1_, e_, bx1'.below hb9, hl1'⟩, fun h h9 => D5_6 (set_dep (by decide) h) (set_dep (by decide) h9)⟩
      · rintro listed a wx ⟨y1_, y2_, y4_, y5_, y6_, rfl, hG, H1_, H2_, H4_, H5_, H6_, D5_6⟩ hi K hK
        subst hA
        (try simp only [Act.put, List.setIfInBounds_toArray, List.set_cons_zero, List.set_cons_succ])
        go_simp
        go_at_call 67
        refine (lhomog_v (h.below hG) (h'.below hG) (by omega)).mono ?_
        rintro e X ⟨ua, ub, ud, s9, A9, n9, c9, s10, A10, n10, c10, s11, A11, n11, c11, rfl, g9, g10, g11, hm, hb9⟩
        go_wp2_with fail
        have hG9 := hG.trans (hb9.mono hG.size)
        refine hK.out _ _ ⟨(b0.below hG9).cell 0 _ rfl, (b0.below hG9).cell 1 _ rfl, (b0.below hG9).cell 2 _ rfl, (b0.below hG9).cell 3 _ rfl, (b0.below hG9).cell 4 _ rfl, (b0.below hG9).cell 5 _ rfl, (b1.below hG9).cell 0 _ rfl, (b1.below hG9).cell 1 _ rfl, (b1.below hG9).cell 2 _ rfl, (b1.below hG9).cell 3 _ rfl, (b1.below hG9).cell 4 _ rfl, (b1.below hG9).cell 5 _ rfl⟩ ?_
        clear hK K
        exact ⟨y1_, y2_, _, y5_, y6_, by kernel_rfl, hG9, fun h => H1_ (set_dep (by decide) h), fun h => by obtain ⟨s6, A6, n6, c6, s7, A7, n7, c7, s8, A8, n8, c8, e_, g6', g7', g8'⟩ := H2_ (set_dep (by decide) h); exact ⟨s6, A6, n6, c6, s7, A7, n7, c7, s8, A8, n8, c8, e_, g6'.below hb9, g7'.below hb9, g8'.below hb9⟩, fun _ => ⟨ua, ub, ud, s9, A9, n9, c9, s10, A10, n10, c10, s11, A11, n11, c11, rfl, g9, g10, g11, hm⟩, fun h => by obtain ⟨g0_, e_, bx0', hl0'⟩ := H5_ (set_dep (by decide) h); exact ⟨g0_, e_, bx0'.below hb9, hl0'⟩, fun h => by obtain ⟨g1_, e_, bx1', hl1'⟩ := H6_ (set_dep (by decide) h); exact ⟨g1_, e_, bx1'.below hb9, hl1'⟩, fun h h9 => D5_6 (set_dep (by decide) h) (set_dep (by decide) h9)⟩
      · rintro listed a wx ⟨y1_, y2_, y4_, y5_, y6_, rfl, hG, H1_, H2_, H4_, H5_, H6_, D5_6⟩ hi K hK
        subst hA
        (try simp only [Act.put, List.setIfInBounds_toArray, List.set_cons_zero, List.set_cons_succ])
        go_simp
        obtain ⟨X, hV, bx0, hb9, sz9⟩ := boxes1 wx #[.bool false, .slice none 0 0, .bool false, .slice none 0 0, .bool false, .slice none 0 0] 95
        rw [hV]
        clear hV
        have hl0 : w1.heap.size ≤ wx.heap.size := hG.size
        have hG9 := hG.trans (hb9.mono hG.size)
        refine hK.out _ _ ⟨(b0.below hG9).cell 0 _ rfl, (b0.below hG9).cell 1 _ rfl, (b0.below hG9).cell 2 _ rfl, (b0.below hG9).cell 3 _ rfl, (b0.below hG9).cell 4 _ rfl, (b0.below hG9).cell 5 _ rfl, (b1.below hG9).cell 0 _ rfl, (b1.below hG9).cell 1 _ rfl, (b1.below hG9).cell 2 _ rfl, (b1.below hG9).cell 3 _ rfl, (b1.below hG9).cell 4 _ rfl, (b1.below hG9).cell 5 _ rfl⟩ ?_
        clear hK K
        exact ⟨y1_, y2_, y4_, _, y6_, by kernel_rfl, hG9, fun h => H1_ (set_dep (by decide) h), fun h => by obtain ⟨s6, A6, n6, c6, s7, A7, n7, c7, s8, A8, n8, c8, e_, g6', g7', g8'⟩ := H2_ (set_dep (by decide) h); exact ⟨s6, A6, n6, c6, s7, A7, n7, c7, s8, A8, n8, c8, e_, g6'.below hb9, g7'.below hb9, g8'.below hb9⟩, fun h => by obtain ⟨ua, ub, ud, s9, A9, n9, c9, s10, A10, n10, c10, s11, A11, n11, c11, e_, g9', g10', g11', hm'⟩ := H4_ (set_dep (by decide) h); exact ⟨ua, ub, ud, s9, A9, n9, c9, s10, A10, n10, c10, s11, A11, n11, c11, e_, g9'.below hb9, g10'.below hb9, g11'.below hb9, hm'⟩, fun _ => ⟨_, rfl, bx0, hl0⟩, fun h => by obtain ⟨g1_, e_, bx1', hl1'⟩ := H6_ (set_dep (by decide) h); exact ⟨g1_, e_, bx1'.below hb9, hl1'⟩, fun _ h => by obtain ⟨g1_, e_, bx_, _⟩ := H6_ (set_dep (by decide) h); rw [e_]; have lx_ := bx_.lt; intro heq; injection heq with heq; injection heq with heq; injection heq with heq; omega⟩
      · rintro listed a wx ⟨y1_, y2_, y4_, y5_, y6_, rfl, hG, H1_, H2_, H4_, H5_, H6_, D5_6⟩ hi K hK
        subst hA
        (try simp only [Act.put, List.setIfInBounds_toArray, List.set_cons_zero, List.set_cons_succ])
        go_simp
        obtain ⟨X, hV, bx1, hb9, sz9⟩ := boxes1 wx #[.bool false, .slice none 0 0, .bool false, .slice none 0 0, .bool false, .slice none 0 0] 106
        rw [hV]
        clear hV
        have hl1 : w1.heap.size ≤ wx.heap.size := hG.size
        have hG9 := hG.trans (hb9.mono hG.size)
        refine hK.out _ _ ⟨(b0.below hG9).cell 0 _ rfl, (b0.below hG9).cell 1 _ rfl, (b0.below hG9).cell 2 _ rfl, (b0.below hG9).cell 3 _ rfl, (b0.below hG9).cell 4 _ rfl, (b0.below hG9).cell 5 _ rfl, (b1.below hG9).cell 0 _ rfl, (b1.below hG9).cell 1 _ rfl, (b1.below hG9).cell 2 _ rfl, (b1.below hG9).cell 3 _ rfl, (b1.below hG9).cell 4 _ rfl, (b1.below hG9).cell 5 _ rfl⟩ ?_
        clear hK K
        exact ⟨y1_, y2_, y4_, y5_, _, by kernel_rfl, hG9, fun h => H1_ (set_dep (by decide) h), fun h => by obtain ⟨s6, A6, n6, c6, s7, A7, n7, c7, s8, A8, n8, c8, e_, g6', g7', g8'⟩ := H2_ (set_dep (by decide) h); exact ⟨s6, A6, n6, c6, s7, A7, n7, c7, s8, A8, n8, c8, e_, g6'.below hb9, g7'.below hb9, g8'.below hb9⟩, fun h => by obtain ⟨ua, ub, ud, s9, A9, n9, c9, s10, A10, n10, c10, s11, A11, n11, c11, e_, g9', g10', g11', hm'⟩ := H4_ (set_dep (by decide) h); exact ⟨ua, ub, ud, s9, A9, n9, c9, s10, A10, n10, c10, s11, A11, n11, c11, e_, g9'.below hb9, g10'.below hb9, g11'.below hb9, hm'⟩, fun h => by obtain ⟨g0_, e_, bx0', hl0'⟩ := H5_ (set_dep (by decide) h); exact ⟨g0_, e_, bx0'.below hb9, hl0'⟩, fun _ => ⟨_, rfl, bx1, hl1⟩, fun h _ => by obtain ⟨g0_, e_, bx_, _⟩ := H5_ (set_dep (by decide) h); rw [e_]; have lx_ := bx_.lt; intro heq; injection heq with heq; injection heq with heq; injection heq with heq; omega⟩
    · rintro a wf ⟨y1_, y2_, y4_, y5_, y6_, rfl, hG, H1_, H2_, H4_, H5_, H6_, D5_6⟩
      have d5_6 := D5_6 rfl rfl
      obtain rfl := H1_ rfl
      obtain ⟨s6, A6, n6, c6, s7, A7, n7, c7, s8, A8, n8, c8, rfl, g6, g7, g8⟩ := H2_ rfl
      obtain ⟨ua, ub, ud, s9, A9, n9, c9, s10, A10, n10, c10, s11, A11, n11, c11, rfl, g9, g10, g11, hm⟩ := H4_ rfl
      obtain ⟨g0_, rfl, bx0, hl0⟩ := H5_ rfl
      obtain ⟨g1_, rfl, bx1, hl1⟩ := H6_ rfl
      clear D5_6
      subst hA
      (try simp only [Act.put, List.setIfInBounds_toArray, List.set_cons_zero, List.set_cons_succ])
      have hne01 : g0_ ≠ g1_ := fun h => d5_6 (by rw [h])
      clear d5_6
      have H0 := hG
      have cbx00 := bx0.cell 0 _ rfl
      have ybx00 := bx0.frozen 0
      have cbx01 := bx0.cell 1 _ rfl
      have ybx01 := bx0.frozen 1
      have cbx02 := bx0.cell 2 _ rfl
      have ybx02 := bx0.frozen 2
      have cbx03 := bx0.cell 3 _ rfl
      have ybx03 := bx0.frozen 3
      have cbx04 := bx0.cell 4 _ rfl
      have ybx04 := bx0.frozen 4
      have cbx05 := bx0.cell 5 _ rfl
      have ybx05 := bx0.frozen 5
      refine wpAnyF_last (i := 7) (by kernel_rfl) rfl rfl (fun K hK => ?_)
      go_simp
      refine hK.out _ _ ?_
      clear hK K
      (try simp only [List.setIfInBounds_toArray, List.set_cons_zero, List.set_cons_succ])
      clear cbx00 ybx00 cbx01 ybx01 cbx02 ybx02 cbx03 ybx03 cbx04 ybx04 cbx05 ybx05
      have hg := only_store6 wf (g0_) (.bool s6) (.slice A6 n6 c6) (.bool s7) (.slice A7 n7 c7) (.bool s8) (.slice A8 n8 c8)
      have hB := bx0.stored6 (.bool s6) (.slice A6 n6 c6) (.bool s7) (.slice A7 n7 c7) (.bool s8) (.slice A8 n8 c8)
      generalize hX : ((((((wf.setCell ⟨g0_, 0, none⟩ (.bool s6)).setCell ⟨g0_, 1, none⟩ (.slice A6 n6 c6)).setCell ⟨g0_, 2, none⟩ (.bool s7)).setCell ⟨g0_, 3, none⟩ (.slice A7 n7 c7)).setCell ⟨g0_, 4, none⟩ (.bool s8)).setCell ⟨g0_, 5, none⟩ (.slice A8 n8 c8)) = X53 at hg hB ⊢
      clear hX
      replace g6 := g6.kept bx0 (by simp [notInt]) hg
      replace g7 := g7.kept bx0 (by simp [notInt]) hg
      replace g8 := g8.kept bx0 (by simp [notInt]) hg
      replace g9 := g9.kept bx0 (by simp [notInt]) hg
      replace g10 := g10.kept bx0 (by simp [notInt]) hg
      replace g11 := g11.kept bx0 (by simp [notInt]) hg
      replace bx1 := bx1.other hg (by omega)
      replace bx0 := hB
      replace H0 := below_only H0 hg (by omega) H0.size
      clear hg hB
      have cbx10 := bx1.cell 0 _ rfl
      have ybx10 := bx1.frozen 0
      have cbx11 := bx1.cell 1 _ rfl
      have ybx11 := bx1.frozen 1
      have cbx12 := bx1.cell 2 _ rfl
      have ybx12 := bx1.frozen 2
      have cbx13 := bx1.cell 3 _ rfl
      have ybx13 := bx1.frozen 3
      have cbx14 := bx1.cell 4 _ rfl
      have ybx14 := bx1.frozen 4
      have cbx15 := bx1.cell 5 _ rfl
      have ybx15 := bx1.frozen 5
      refine wpAny_one (i := 8) (by kernel_rfl) rfl (fun K hK => ?_)
      go_simp
      refine hK.out _ _ ?_
      clear hK K
      (try simp only [List.setIfInBounds_toArray, List.set_cons_zero, List.set_cons_succ])
      clear cbx10 ybx10 cbx11 ybx11 cbx12 ybx12 cbx13 ybx13 cbx14 ybx14 cbx15 ybx15
      have hg := only_store6 X53 (g1_) (.bool s9) (.slice A9 n9 c9) (.bool s10) (.slice A10 n10 c10) (.bool s11) (.slice A11 n11 c11)
      have hB := bx1.stored6 (.bool s9) (.slice A9 n9 c9) (.bool s10) (.slice A10 n10 c10) (.bool s11) (.slice A11 n11 c11)
      generalize hX : ((((((X53.setCell ⟨g1_, 0, none⟩ (.bool s9)).setCell ⟨g1_, 1, none⟩ (.slice A9 n9 c9)).setCell ⟨g1_, 2, none⟩ (.bool s10)).setCell ⟨g1_, 3, none⟩ (.slice A10 n10 c10)).setCell ⟨g1_, 4, none⟩ (.bool s11)).setCell ⟨g1_, 5, none⟩ (.slice A11 n11 c11)) = X54 at hg hB ⊢
      clear hX
      replace g6 := g6.kept bx1 (by simp [notInt]) hg
      replace g7 := g7.kept bx1 (by simp [notInt]) hg
      replace g8 := g8.kept bx1 (by simp [notInt]) hg
      replace g9 := g9.kept bx1 (by simp [notInt]) hg
      replace g10 := g10.kept bx1 (by simp [notInt]) hg
      replace g11 := g11.kept bx1 (by simp [notInt]) hg
      replace bx0 := bx0.other hg (by omega)
      replace bx1 := hB
      replace H0 := below_only H0 hg (by omega) H0.size
      clear hg hB
      refine wpAny_done (by kernel_rfl) ?_ _
      refine NoPanic.normal ?_
      go_wp2_with fail
      go_meet
      exact ⟨g0_, g1_, ua, ub, ud, s6, A6, n6, c6, s7, A7, n7, c7, s8, A8, n8, c8, s9, A9, n9, c9, s10, A10, n10, c10, s11, A11, n11, c11, rfl, rfl, g6, g7, g8, g9, g10, g11, hm, bx0, bx1, hl0, hl1, H0⟩
  case rest =>
    obtain ⟨g70, g71, ua, ub, ud, s6, A6, n6, c6, s7, A7, n7, c7, s8, A8, n8, c8, s9, A9, n9, c9, s10, A10, n10, c10, s11, A11, n11, c11, rfl, rfl, g6, g7, g8, g9, g10, g11, hm, b5, b6, ml0, ml1, hG⟩ := hcut
    replace h0 := h0.below hG
    replace h1 := h1.below hG
    replace h2 := h2.below hG
    replace h := h.below hG
    replace h' := h'.below hG
    replace b0 := b0.below hG
    replace b1 := b1.below hG
    replace b9 := b9.below hG
    replace H0 := H0.trans (hG.mono H0.size)
    clear hG
    go_wp2_with fail
    have hD := drawn_below wc
    replace h0 := h0.below hD
    replace h1 := h1.below hD
    replace h2 := h2.below hD
    replace h := h.below hD
    replace h' := h'.below hD
    replace g6 := g6.below hD
    replace g7 := g7.below hD
    replace g8 := g8.below hD
    replace g9 := g9.below hD
    replace g10 := g10.below hD
    replace g11 := g11.below hD
    replace b0 := b0.below hD
    replace b1 := b1.below hD
    replace b9 := b9.below hD
    replace b5 := b5.below hD
    replace b6 := b6.below hD
    replace H0 := H0.trans (hD.mono H0.size)
    clear hD
    refine wp_region_noPanic ?_
    refine wp_region_held_drew (S := (fun V => V.cell? ⟨g70, 0, none⟩ = some (.bool s6) ∧ V.cell? ⟨g70, 1, none⟩ = some (.slice A6 n6 c6) ∧ V.cell? ⟨g70, 2, none⟩ = some (.bool s7) ∧ V.cell? ⟨g70, 3, none⟩ = some (.slice A7 n7 c7) ∧ V.cell? ⟨g70, 4, none⟩ = some (.bool s8) ∧ V.cell? ⟨g70, 5, none⟩ = some (.slice A8 n8 c8) ∧ V.cell? ⟨g71, 0, none⟩ = some (.bool s9) ∧ V.cell? ⟨g71, 1, none⟩ = some (.slice A9 n9 c9) ∧ V.cell? ⟨g71, 2, none⟩ = some (.bool s10) ∧ V.cell? ⟨g71, 3, none⟩ = some (.slice A10 n10 c10) ∧ V.cell? ⟨g71, 4, none⟩ = some (.bool s11) ∧ V.cell? ⟨g71, 5, none⟩ = some (.slice A11 n11 c11))) (by kernel_rfl) ⟨b5.cell 0 _ rfl, b5.cell 1 _ rfl, b5.cell 2 _ rfl, b5.cell 3 _ rfl, b5.cell 4 _ rfl, b5.cell 5 _ rfl, b6.cell 0 _ rfl, b6.cell 1 _ rfl, b6.cell 2 _ rfl, b6.cell 3 _ rfl, b6.cell 4 _ rfl, b6.cell 5 _ rfl⟩ (fun hHeld => ?_)
    generalize wc.drew = v502 at H0 hHeld h0 h1 h2 h h' g6 g7 g8 g9 g10 g11 b0 b1 b9 b5 b6 ⊢
    refine wpAnyH_take (i := 0) (v := ?_) rfl (by kernel_rfl) (by kernel_rfl) (by kernel_rfl) (fun _ _ _ h => h) (Or.inl ⟨by rfl, ?_⟩) (by assumption) ?_
    rotate_left
    · (intro w hSw; (try dsimp only at hSw); go_simp; (try with_reducible rfl))
    (try simp only [List.getElem_toArray, List.getElem_cons_zero, Act.put, List.setIfInBounds_toArray, List.set_cons_zero, List.set_cons_succ])
    refine wpAnyH_take (i := 1) (v := ?_) rfl (by kernel_rfl) (by kernel_rfl) (by kernel_rfl) (fun _ _ _ h => h) (Or.inl ⟨by rfl, ?_⟩) (by assumption) ?_
    rotate_left
    · (intro w hSw; (try dsimp only at hSw); go_simp; (try with_reducible rfl))
    (try simp only [List.getElem_toArray, List.getElem_cons_succ, List.getElem_cons_zero, Act.put, List.setIfInBounds_toArray, List.set_cons_zero, List.set_cons_succ])
    refine wpAnyH_take (i := 3) (v := ?_) rfl (by kernel_rfl) (by kernel_rfl) (by kernel_rfl) (fun _ _ _ h => h) (Or.inl ⟨by rfl, ?_⟩) (by assumption) ?_
    rotate_left
    · (intro w hSw; (try dsimp only at hSw); go_simp; (try with_reducible rfl))
    (try simp only [List.getElem_toArray, List.getElem_cons_succ, List.getElem_cons_zero, Act.put, List.setIfInBounds_toArray, List.set_cons_zero, List.set_cons_succ])
    refine wpAnyH_take (i := 4) (v := ?_) rfl (by kernel_rfl) (by kernel_rfl) (by kernel_rfl) (fun _ _ _ h => h) (Or.inl ⟨by rfl, ?_⟩) (by assumption) ?_
    rotate_left
    · (intro w hSw; (try dsimp only at hSw); go_simp; (try with_reducible rfl))
    (try simp only [List.getElem_toArray, List.getElem_cons_succ, List.getElem_cons_zero, Act.put, List.setIfInBounds_toArray, List.set_cons_zero, List.set_cons_succ])
    refine wpAnyH_take (i := 6) (v := ?_) rfl (by kernel_rfl) (by kernel_rfl) (by kernel_rfl) (fun _ _ _ h => h) (Or.inl ⟨by rfl, ?_⟩) (by assumption) ?_
    rotate_left
    · (intro w hSw; (try dsimp only at hSw); go_simp; (try with_reducible rfl))
    (try simp only [List.getElem_toArray, List.getElem_cons_succ, List.getElem_cons_zero, Act.put, List.setIfInBounds_toArray, List.set_cons_zero, List.set_cons_succ])
    refine wpAnyH_take (i := 7) (v := ?_) rfl (by kernel_rfl) (by kernel_rfl) (by kernel_rfl) (fun _ _ _ h => h) (Or.inl ⟨by rfl, ?_⟩) (by assumption) ?_
    rotate_left
    · (intro w hSw; (try dsimp only at hSw); go_simp; (try with_reducible rfl))
    (try simp only [List.getElem_toArray, List.getElem_cons_succ, List.getElem_cons_zero, Act.put, List.setIfInBounds_toArray, List.set_cons_zero, List.set_cons_succ])
    refine wpAnyH_ready (rs := [2]) (by kernel_rfl) (by simp) (AllReadyH.cons (o := _) rfl (fun K hK => ?_) AllReadyH.nil)
    go_simp
    go_at_call 81
    refine (ldot_v (g6.ri.more hM) (g7.ri.more hM) (g8.ri.more hM) g9.ri g10.ri g11.ri (by omega)).mono ?_
    rintro e w503 ⟨s12, A12, n12, c12, rfl, g12, hb⟩
    replace h0 := h0.below hb
    replace h1 := h1.below hb
    replace h2 := h2.below hb
    replace h := h.below hb
    replace h' := h'.below hb
    replace g6 := g6.below hb
    replace g7 := g7.below hb
    replace g8 := g8.below hb
    replace g9 := g9.below hb
    replace g10 := g10.below hb
    replace g11 := g11.below hb
    replace b0 := b0.below hb
    replace b1 := b1.below hb
    replace b9 := b9.below hb
    replace b5 := b5.below hb
    replace b6 := b6.below hb
    replace H0 := H0.trans (hb.mono H0.size)
    clear hb
    go_wp2_with fail
    refine hK.out _ _ ⟨b5.cell 0 _ rfl, b5.cell 1 _ rfl, b5.cell 2 _ rfl, b5.cell 3 _ rfl, b5.cell 4 _ rfl, b5.cell 5 _ rfl, b6.cell 0 _ rfl, b6.cell 1 _ rfl, b6.cell 2 _ rfl, b6.cell 3 _ rfl, b6.cell 4 _ rfl, b6.cell 5 _ rfl⟩ (fun hHeld => ?_)
    clear hK K
    (try simp only [List.getElem_toArray, List.getElem_cons_succ, List.getElem_cons_zero, Act.put, List.setIfInBounds_toArray, List.set_cons_zero, List.set_cons_succ])
    refine wpAnyH_ready (rs := [5]) (by kernel_rfl) (by simp) (AllReadyH.cons (o := _) rfl (fun K hK => ?_) AllReadyH.nil)
    go_simp
    go_at_call 96
    refine (cdot_v (g6.ri.more hM) (g7.ri.more hM) (g8.ri.more hM) (g6.ri.more hM) (g7.ri.more hM) (g8.ri.more hM) (by omega)).mono ?_
    rintro e w504 ⟨s13, A13, n13, c13, rfl, g13, hb⟩
    replace h0 := h0.below hb
    replace h1 := h1.below hb
    replace h2 := h2.below hb
    replace h := h.below hb
    replace h' := h'.below hb
    replace g6 := g6.below hb
    replace g7 := g7.below hb
    replace g8 := g8.below hb
    replace g9 := g9.below hb
    replace g10 := g10.below hb
    replace g11 := g11.below hb
    replace g12 := g12.below hb
    replace b0 := b0.below hb
    replace b1 := b1.below hb
    replace b9 := b9.below hb
    replace b5 := b5.below hb
    replace b6 := b6.below hb
    replace H0 := H0.trans (hb.mono H0.size)
    clear hb
    go_wp2_with fail
    refine hK.out _ _ ⟨b5.cell 0 _ rfl, b5.cell 1 _ rfl, b5.cell 2 _ rfl, b5.cell 3 _ rfl, b5.cell 4 _ rfl, b5.cell 5 _ rfl, b6.cell 0 _ rfl, b6.cell 1 _ rfl, b6.cell 2 _ rfl, b6.cell 3 _ rfl, b6.cell 4 _ rfl, b6.cell 5 _ rfl⟩ (fun hHeld => ?_)
    clear hK K
    (try simp only [List.getElem_toArray, List.getElem_cons_succ, List.getElem_cons_zero, Act.put, List.setIfInBounds_toArray, List.set_cons_zero, List.set_cons_succ])
    refine wpAnyH_ready (rs := [8]) (by kernel_rfl) (by simp) (AllReadyH.cons (o := _) rfl (fun K hK => ?_) AllReadyH.nil)
    go_simp
    go_at_call 95
    refine (imul_v g13.ri g11.ri (by omega) (by omega)).mono ?_
    rintro e w505 ⟨s14, A14, n14, c14, rfl, g14, hb⟩
    replace h0 := h0.below hb
    replace h1 := h1.below hb
    replace h2 := h2.below hb
    replace h := h.below hb
    replace h' := h'.below hb
    replace g6 := g6.below hb
    replace g7 := g7.below hb
    replace g8 := g8.below hb
    replace g9 := g9.below hb
    replace g10 := g10.below hb
    replace g11 := g11.below hb
    replace g12 := g12.below hb
    replace g13 := g13.below hb
    replace b0 := b0.below hb
    replace b1 := b1.below hb
    replace b9 := b9.below hb
    replace b5 := b5.below hb
    replace b6 := b6.below hb
    replace H0 := H0.trans (hb.mono H0.size)
    clear hb
    clear g13
    go_wp2_with fail
    refine hK.out _ _ ⟨b5.cell 0 _ rfl, b5.cell 1 _ rfl, b5.cell 2 _ rfl, b5.cell 3 _ rfl, b5.cell 4 _ rfl, b5.cell 5 _ rfl, b6.cell 0 _ rfl, b6.cell 1 _ rfl, b6.cell 2 _ rfl, b6.cell 3 _ rfl, b6.cell 4 _ rfl, b6.cell 5 _ rfl⟩ (fun hHeld => ?_)
    clear hK K
    (try simp only [List.getElem_toArray, List.getElem_cons_succ, List.getElem_cons_zero, Act.put, List.setIfInBounds_toArray, List.set_cons_zero, List.set_cons_succ])
    refine wpAnyH_ready (rs := [9]) (by kernel_rfl) (by simp) (AllReadyH.cons (o := _) rfl (fun K hK => ?_) AllReadyH.nil)
    go_simp
    go_at_call 80
    refine (lquot_v (g12.ri.more hM2) g14.ri (HPD.out _ hm.1) (by omega)).mono ?_
    rintro e w506 ⟨s15, A15, n15, c15, D15, m15, e15, rfl, g15, hb⟩
    replace h0 := h0.below hb
    replace h1 := h1.below hb
    replace h2 := h2.below hb
    replace h := h.below hb
    replace h' := h'.below hb
    replace g6 := g6.below hb
    replace g7 := g7.below hb
    replace g8 := g8.below hb
    replace g9 := g9.below hb
    replace g10 := g10.below hb
    replace g11 := g11.below hb
    replace g12 := g12.below hb
    replace g14 := g14.below hb
    replace b0 := b0.below hb
    replace b1 := b1.below hb
    replace b9 := b9.below hb
    replace b5 := b5.below hb
    replace b6 := b6.below hb
    replace H0 := H0.trans (hb.mono H0.size)
    clear hb
    go_wp2_with fail
    refine hK.out _ _ ⟨b5.cell 0 _ rfl, b5.cell 1 _ rfl, b5.cell 2 _ rfl, b5.cell 3 _ rfl, b5.cell 4 _ rfl, b5.cell 5 _ rfl, b6.cell 0 _ rfl, b6.cell 1 _ rfl, b6.cell 2 _ rfl, b6.cell 3 _ rfl, b6.cell 4 _ rfl, b6.cell 5 _ rfl⟩ (fun hHeld => ?_)
    clear hK K
    (try simp only [List.getElem_toArray, List.getElem_cons_succ, List.getElem_cons_zero, Act.put, List.setIfInBounds_toArray, List.set_cons_zero, List.set_cons_succ])
    have cb90 := b9.cell 0 _ rfl
    have yb90 := b9.frozen 0
    have cb91 := b9.cell 1 _ rfl
    have yb91 := b9.frozen 1
    have cb92 := b9.cell 2 _ rfl
    have yb92 := b9.frozen 2
    refine wpAnyH_ready (rs := [10]) (by kernel_rfl) (by simp) (AllReadyH.cons (o := _) rfl (fun K hK => ?_) AllReadyH.nil)
    go_simp
    clear cb90 yb90 cb91 yb91 cb92 yb92
    have hg := only_store3 w506 (w.heap.size + 1 + 1) (.bool s15) (.slice A15 n15 c15) (.slice D15 m15 e15)
    have hB := b9.stored3 (.bool s15) (.slice A15 n15 c15) (.slice D15 m15 e15)
    generalize hX : (((w506.setCell ⟨w.heap.size + 1 + 1, 0, none⟩ (.bool s15)).setCell ⟨w.heap.size + 1 + 1, 1, none⟩ (.slice A15 n15 c15)).setCell ⟨w.heap.size + 1 + 1, 2, none⟩ (.slice D15 m15 e15)) = X507 at hg hB ⊢
    clear hX
    replace h0 := h0.kept b9 (by simp [notInt]) hg
    replace h1 := h1.kept b9 (by simp [notInt]) hg
    replace h2 := h2.kept b9 (by simp [notInt]) hg
    replace h := h.kept b9 (by simp [notInt]) hg
    replace h' := h'.kept b9 (by simp [notInt]) hg
    replace g6 := g6.kept b9 (by simp [notInt]) hg
    replace g7 := g7.kept b9 (by simp [notInt]) hg
    replace g8 := g8.kept b9 (by simp [notInt]) hg
    replace g9 := g9.kept b9 (by simp [notInt]) hg
    replace g10 := g10.kept b9 (by simp [notInt]) hg
    replace g11 := g11.kept b9 (by simp [notInt]) hg
    replace g12 := g12.kept b9 (by simp [notInt]) hg
    replace g14 := g14.kept b9 (by simp [notInt]) hg
    replace g15 := g15.kept b9 (by simp [notInt]) hg
    replace b0 := b0.other hg (by omega)
    replace b1 := b1.other hg (by omega)
    replace b5 := b5.other hg (by omega)
    replace b6 := b6.other hg (by omega)
    replace b9 := hB
    replace H0 := below_only H0 hg (by omega) H0.size
    clear hg hB
    refine hK.out _ _ ⟨b5.cell 0 _ rfl, b5.cell 1 _ rfl, b5.cell 2 _ rfl, b5.cell 3 _ rfl, b5.cell 4 _ rfl, b5.cell 5 _ rfl, b6.cell 0 _ rfl, b6.cell 1 _ rfl, b6.cell 2 _ rfl, b6.cell 3 _ rfl, b6.cell 4 _ rfl, b6.cell 5 _ rfl⟩ (fun hHeld => ?_)
    clear hK K
    (try simp only [List.getElem_toArray, List.getElem_cons_succ, List.getElem_cons_zero, Act.put, List.setIfInBounds_toArray, List.set_cons_zero, List.set_cons_succ])
    refine wpAnyH_done (by kernel_rfl) ?_ _
    refine NoPanic.normal ?_
    go_wp2_with fail
    refine bodyPost_ret (ret_rat rfl rfl b9) rfl ?_
    exact ⟨_, _, _, _, _, _, _, rfl, by rw [← par_val V0.out.1 hm]; exact g15, H0⟩
end
end Go.Proofs.YtancgkmkbgkncaaGreat
