/-
  The walk of the law LineMakes.
-/
import Derived.Test.YtancgkmkbgkncaaGreatUSq
import Derived.Test.YtancgkmkbgkncaaGreatUEM
import Derived.Test.YtancgkmkbgkncaaGreatULnF
import Derived.Deep.Cut
namespace Go.Proofs.YtancgkmkbgkncaaGreat
open List (getElem_toArray getElem_cons_succ getElem_cons_zero setIfInBounds_toArray set_cons_zero set_cons_succ)
open Go.RowKit

section
variable {A0 A1 A2 A3 A4 A5 A16 A17 A18 A19 A20 A21 A22 A23 D0 D1 D2 D3 D16 D17 D18 D19 : Option Addr} {n0 n1 n2 n3 n4 n5 n16 n17 n18 n19 n20 n21 n22 n23 c0 c1 c2 c3 c4 c5 c16 c17 c18 c19 c20 c21 c22 c23 m0 m1 m2 m3 m16 m17 m18 m19 e0 e1 e2 e3 e16 e17 e18 e19 : Nat} {s0 s1 s2 s3 s4 s5 s16 s17 s18 s19 s20 s21 s22 s23 : Bool} {q0 q1 q2 q3 q4 q5 q6 q7 : Rat} {z0 z1 z2 z3 z4 z5 z6 z7 z8 z9 z10 z11 : Int} {L L0 L1 x y : Nat} {k : Int} {b : Bool} {w : World}
set_option maxRecDepth 100000 in
set_option maxHeartbeats 16000000 in
theorem linemakes_small (h0 : RI w s0 (.slice A0 n0 c0) z0 5) (h1 : RI w s1 (.slice A1 n1 c1) z1 5) (h2 : RI w s2 (.slice A2 n2 c2) z2 5) (j0 : n0 ≤ 5) (j1 : n1 ≤ 5) (j2 : n2 ≤ 5) {v : Value} (HI : Ints w v) :
    Calls Tryz.prog 3 #[.agg #[.bool s0, .slice A0 n0 c0], .agg #[.bool s1, .slice A1 n1 c1], .agg #[.bool s2, .slice A2 n2 c2], v] w fun e w' => e = .returned (.bool true) ∧ Below w.heap.size w w' := by
  go_enter Tryz.func3, Tryz.ntmps3
  go_wp2_with fail
  have H0 := Below.refl w.heap.size w
  obtain ⟨W0, hW, b0, b1, b2, bs, hbW, hszW0⟩ := boxes4 w #[.bool s0, .slice A0 n0 c0] #[.bool s1, .slice A1 n1 c1] #[.bool s2, .slice A2 n2 c2] #[.slice A0 n0 c0, .slice A1 n1 c1, .slice A2 n2 c2] 25 25 25 23
  rw [hW]
  clear hW
  replace h0 := h0.below hbW
  replace h1 := h1.below hbW
  replace h2 := h2.below hbW
  replace H0 := H0.trans (hbW.mono H0.size)
  clear hbW
  refine (small3_yes bs j0 j1 j2).mono ?_
  rintro e w1 ⟨rfl, hb⟩
  replace h0 := h0.below hb
  replace h1 := h1.below hb
  replace h2 := h2.below hb
  replace b0 := b0.below hb
  replace b1 := b1.below hb
  replace b2 := b2.below hb
  replace bs := bs.below hb
  replace H0 := H0.trans (hb.mono H0.size)
  clear hb
  clear bs
  obtain ⟨cb00, cb01⟩ := b0.cells2
  obtain ⟨cb10, cb11⟩ := b1.cells2
  obtain ⟨cb20, cb21⟩ := b2.cells2
  go_wp2_with fail
  clear cb00 cb01 cb10 cb11 cb20 cb21
  clear j0 j1 j2
  by_cases hz : z0 = 0 ∧ z1 = 0
  · have HZ := Lib.hid hz
    clear hz
    refine (lnew_zn h0 h1 HZ.out).mono ?_
    rintro e w2 ⟨s18, A18, n18, c18, s19, A19, n19, c19, s20, A20, n20, c20, rfl, x0, x1, x2, hb⟩
    replace h0 := h0.below hb
    replace h1 := h1.below hb
    replace h2 := h2.below hb
    replace b0 := b0.below hb
    replace b1 := b1.below hb
    replace b2 := b2.below hb
    replace H0 := H0.trans (hb.mono H0.size)
    clear hb
    have lb0_3 := b0.lt
    have lb1_3 := b1.lt
    have lb2_3 := b2.lt
    obtain ⟨W3, hW, b9, hbW, hszW3⟩ := boxes1 w2 #[.bool s18, .slice A18 n18 c18, .bool s19, .slice A19 n19 c19, .bool s20, .slice A20 n20 c20] 30
    skip
    skip
    replace h0 := h0.below hbW
    replace h1 := h1.below hbW
    replace h2 := h2.below hbW
    replace x0 := x0.below hbW
    replace x1 := x1.below hbW
    replace x2 := x2.below hbW
    replace b0 := b0.below hbW
    replace b1 := b1.below hbW
    replace b2 := b2.below hbW
    replace H0 := H0.trans (hbW.mono H0.size)
    clear hbW
    obtain ⟨cb00, cb01⟩ := b0.cells2
    obtain ⟨cb10, cb11⟩ := b1.cells2
    obtain ⟨cb20, cb21⟩ := b2.cells2
    go_wp2_with fail
    clear hW
    clear hszW3
    clear cb00 cb01 cb10 cb11 cb20 cb21
    have lcb0_4 := b0.lt
    have lcb1_4 := b1.lt
    have lcb2_4 := b2.lt
    have lcb9_4 := b9.lt
    go_cut [11, 12] from 13 (fun u4_0 _x0 wx => ∃ g4_0 s21 A21 n21 c21 s22 A22 n22 c22 s23 A23 n23 c23, u4_0 = .pointer (some ⟨g4_0, 0, none⟩) ∧ _x0 = .bool false ∧ NI wx s21 (.slice A21 n21 c21) (0) 5 ∧ NI wx s22 (.slice A22 n22 c22) (0) 5 ∧ NI wx s23 (.slice A23 n23 c23) (0) 5 ∧ Box wx g4_0 #[.bool s21, .slice A21 n21 c21, .bool s22, .slice A22 n22 c22, .bool s23, .slice A23 n23 c23] 37 ∧ W3.heap.size ≤ g4_0 ∧ Below W3.heap.size W3 wx)
    case first =>
      have hG := drawn_below W3
      refine wp_region_noPanic ?_
      refine wp_region_held_drew (S := (fun V => V.cell? ⟨w.heap.size, 0, none⟩ = some (.bool s0) ∧ V.cell? ⟨w.heap.size, 1, none⟩ = some (.slice A0 n0 c0) ∧ V.cell? ⟨w.heap.size + 1, 0, none⟩ = some (.bool s1) ∧ V.cell? ⟨w.heap.size + 1, 1, none⟩ = some (.slice A1 n1 c1) ∧ V.cell? ⟨w.heap.size + 1 + 1, 0, none⟩ = some (.bool s2) ∧ V.cell? ⟨w.heap.size + 1 + 1, 1, none⟩ = some (.slice A2 n2 c2))) (by kernel_rfl) ((b0.below hG).and2 ((b1.below hG).and2 ((b2.below hG).all2))) (fun hHeld => ?_)
      generalize W3.drew = v4 at hG hHeld ⊢
      have sG := hG.size
      refine tk 0 ?_ rfl (by kernel_rfl) (by kernel_rfl) (by kernel_rfl) (fun _ _ _ h => h) (by rfl) ?_ (by assumption) ?_
      rotate_left
      · (intro w hSw; (try dsimp only at hSw); go_simp; (try with_reducible rfl))
      (try simp only [getElem_toArray, getElem_cons_zero, Act.put, setIfInBounds_toArray, set_cons_zero, set_cons_succ])
      refine tk 2 ?_ rfl (by kernel_rfl) (by kernel_rfl) (by kernel_rfl) (fun _ _ _ h => h) (by rfl) ?_ (by assumption) ?_
      rotate_left
      · (intro w hSw; (try dsimp only at hSw); go_simp; (try with_reducible rfl))
      (try simp only [getElem_toArray, getElem_cons_succ, getElem_cons_zero, Act.put, setIfInBounds_toArray, set_cons_zero, set_cons_succ])
      refine tk 4 ?_ rfl (by kernel_rfl) (by kernel_rfl) (by kernel_rfl) (fun _ _ _ h => h) (by rfl) ?_ (by assumption) ?_
      rotate_left
      · (intro w hSw; (try dsimp only at hSw); go_simp; (try with_reducible rfl))
      (try simp only [getElem_toArray, getElem_cons_succ, getElem_cons_zero, Act.put, setIfInBounds_toArray, set_cons_zero, set_cons_succ])
      refine wpAnyH_ready (rs := [1, 10]) (by kernel_rfl) (by simp) (AllReadyH.cons (o := _) rfl (fun K hK => ?_) (AllReadyH.cons (o := _) rfl (fun K hK => ?_) AllReadyH.nil))
      · go_simp
        go_at_call 13
        refine (refI_v (h0.below hG)).mono ?_
        rintro e y4_1 ⟨s3, A3, n3, c3, rfl, m0, hb9⟩
        have szy4_1 := hb9.size
        replace hG := hG.trans (hb9.mono sG)
        replace sG := hG.size
        clear hb9
        go_wp2_with fail
        refine hK.out _ _ ((b0.below hG).and2 ((b1.below hG).and2 ((b2.below hG).all2))) (fun hHeld => ?_)
        clear hK K
        (try simp only [getElem_toArray, getElem_cons_succ, getElem_cons_zero, Act.put, setIfInBounds_toArray, set_cons_zero, set_cons_succ])
        refine wpAnyH_ready (rs := [3, 10]) (by kernel_rfl) (by simp) (AllReadyH.cons (o := _) rfl (fun K hK => ?_) (AllReadyH.cons (o := _) rfl (fun K hK => ?_) AllReadyH.nil))
        · go_simp
          go_at_call 13
          refine (refI_v (h1.below hG)).mono ?_
          rintro e y4_2 ⟨s4, A4, n4, c4, rfl, m1, hb9⟩
          have szy4_2 := hb9.size
          replace m0 := m0.below hb9
          replace hG := hG.trans (hb9.mono sG)
          replace sG := hG.size
          clear hb9
          go_wp2_with fail
          refine hK.out _ _ ((b0.below hG).and2 ((b1.below hG).and2 ((b2.below hG).all2))) (fun hHeld => ?_)
          clear hK K
          (try simp only [getElem_toArray, getElem_cons_succ, getElem_cons_zero, Act.put, setIfInBounds_toArray, set_cons_zero, set_cons_succ])
          refine wpAnyH_ready (rs := [5, 10]) (by kernel_rfl) (by simp) (AllReadyH.cons (o := _) rfl (fun K hK => ?_) (AllReadyH.cons (o := _) rfl (fun K hK => ?_) AllReadyH.nil))
          · go_simp
            go_at_call 13
            refine (refI_v (h2.below hG)).mono ?_
            rintro e y4_3 ⟨s5, A5, n5, c5, rfl, m2, hb9⟩
            have szy4_3 := hb9.size
            replace m0 := m0.below hb9
            replace m1 := m1.below hb9
            replace hG := hG.trans (hb9.mono sG)
            replace sG := hG.size
            clear hb9
            go_wp2_with fail
            refine hK.out _ _ ((b0.below hG).and2 ((b1.below hG).and2 ((b2.below hG).all2))) (fun hHeld => ?_)
            clear hK K
            (try simp only [getElem_toArray, getElem_cons_succ, getElem_cons_zero, Act.put, setIfInBounds_toArray, set_cons_zero, set_cons_succ])
            refine wpAnyH_ready (rs := [6, 10]) (by kernel_rfl) (by simp) (AllReadyH.cons (o := _) rfl (fun K hK => ?_) (AllReadyH.cons (o := _) rfl (fun K hK => ?_) AllReadyH.nil))
            · go_simp
              go_at_call 12
              refine (gmakel_zn m0 m1 m2 HZ.out (by decide)).mono ?_
              rintro e y4_4 ⟨s21, A21, n21, c21, s22, A22, n22, c22, s23, A23, n23, c23, rfl, y0, y1, y2, hb9⟩
              have szy4_4 := hb9.size
              replace m0 := m0.below hb9
              replace m1 := m1.below hb9
              replace m2 := m2.below hb9
              replace hG := hG.trans (hb9.mono sG)
              replace sG := hG.size
              clear hb9
              clear m0
              clear m1
              clear m2
              go_wp2_with fail
              refine hK.out _ _ ((b0.below hG).and2 ((b1.below hG).and2 ((b2.below hG).all2))) (fun hHeld => ?_)
              clear hK K
              (try simp only [getElem_toArray, getElem_cons_succ, getElem_cons_zero, Act.put, setIfInBounds_toArray, set_cons_zero, set_cons_succ])
              refine tk 7 ?_ rfl (by kernel_rfl) (by kernel_rfl) (by kernel_rfl) (fun _ _ _ h => h) (by rfl) ?_ (by assumption) ?_
              rotate_left
              · (intro w hSw; (try dsimp only at hSw); go_simp; (try with_reducible rfl))
              (try simp only [getElem_toArray, getElem_cons_succ, getElem_cons_zero, Act.put, setIfInBounds_toArray, set_cons_zero, set_cons_succ])
              refine tk 8 ?_ rfl (by kernel_rfl) (by kernel_rfl) (by kernel_rfl) (fun _ _ _ h => h) (by rfl) ?_ (by assumption) ?_
              rotate_left
              · (intro w hSw; (try dsimp only at hSw); go_simp; (try with_reducible rfl))
              (try simp only [getElem_toArray, getElem_cons_succ, getElem_cons_zero, Act.put, setIfInBounds_toArray, set_cons_zero, set_cons_succ])
              refine tk 9 ?_ rfl (by kernel_rfl) (by kernel_rfl) (by kernel_rfl) (fun _ _ _ h => h) (by rfl) ?_ (by assumption) ?_
              rotate_left
              · (intro w hSw; (try dsimp only at hSw); go_simp; (try with_reducible rfl))
              (try simp only [getElem_toArray, getElem_cons_succ, getElem_cons_zero, Act.put, setIfInBounds_toArray, set_cons_zero, set_cons_succ])
              refine rd1 10 (by kernel_rfl) rfl (fun K hK => ?_)
              go_simp
              obtain ⟨y4_5, hV, b11, hb9, szy4_5⟩ := boxes1 y4_4 #[.bool false, .slice none 0 0, .bool false, .slice none 0 0, .bool false, .slice none 0 0] 37
              rw [hV]
              clear hV
              have gly4_5 : W3.heap.size ≤ y4_4.heap.size := sG
              replace szy4_5 : y4_4.heap.size < y4_5.heap.size := by omega
              replace y0 := y0.below hb9
              replace y1 := y1.below hb9
              replace y2 := y2.below hb9
              replace hG := hG.trans (hb9.mono sG)
              replace sG := hG.size
              clear hb9
              refine hK.out _ _ ((b0.below hG).and2 ((b1.below hG).and2 ((b2.below hG).all2))) (fun hHeld => ?_)
              clear hK K
              (try simp only [getElem_toArray, getElem_cons_succ, getElem_cons_zero, Act.put, setIfInBounds_toArray, set_cons_zero, set_cons_succ])
              have rb110 := b11.cell 0 _ rfl
              have qb110 := b11.frozen 0
              have rb111 := b11.cell 1 _ rfl
              have qb111 := b11.frozen 1
              have rb112 := b11.cell 2 _ rfl
              have qb112 := b11.frozen 2
              have rb113 := b11.cell 3 _ rfl
              have qb113 := b11.frozen 3
              have rb114 := b11.cell 4 _ rfl
              have qb114 := b11.frozen 4
              have rb115 := b11.cell 5 _ rfl
              have qb115 := b11.frozen 5
              refine rd1 11 (by kernel_rfl) rfl (fun K hK => ?_)
              go_simp
              clear rb110 qb110
              clear rb111 qb111
              clear rb112 qb112
              clear rb113 qb113
              clear rb114 qb114
              clear rb115 qb115
              have hg := only_store6 y4_5 (y4_4.heap.size) (.bool s21) (.slice A21 n21 c21) (.bool s22) (.slice A22 n22 c22) (.bool s23) (.slice A23 n23 c23)
              have hB := b11.stored6 (.bool s21) (.slice A21 n21 c21) (.bool s22) (.slice A22 n22 c22) (.bool s23) (.slice A23 n23 c23)
              generalize hX : ((((((y4_5.setCell ⟨y4_4.heap.size, 0, none⟩ (.bool s21)).setCell ⟨y4_4.heap.size, 1, none⟩ (.slice A21 n21 c21)).setCell ⟨y4_4.heap.size, 2, none⟩ (.bool s22)).setCell ⟨y4_4.heap.size, 3, none⟩ (.slice A22 n22 c22)).setCell ⟨y4_4.heap.size, 4, none⟩ (.bool s23)).setCell ⟨y4_4.heap.size, 5, none⟩ (.slice A23 n23 c23)) = Y4_6 at hg hB ⊢
              clear hX
              replace y0 := y0.kept b11 (by simp [notInt]) hg
              replace y1 := y1.kept b11 (by simp [notInt]) hg
              replace y2 := y2.kept b11 (by simp [notInt]) hg
              replace b11 := hB
              replace hG := below_only hG hg (by omega) sG
              replace sG := hG.size
              clear hg hB
              refine hK.out _ _ ((b0.below hG).and2 ((b1.below hG).and2 ((b2.below hG).all2))) (fun hHeld => ?_)
              clear hK K
              (try simp only [getElem_toArray, getElem_cons_succ, getElem_cons_zero, Act.put, setIfInBounds_toArray, set_cons_zero, set_cons_succ])
              refine tk 12 ?_ rfl (by kernel_rfl) (by kernel_rfl) (by kernel_rfl) (fun _ _ _ h => h) (by rfl) ?_ (by assumption) ?_
              rotate_left
              · (intro w hSw; (try dsimp only at hSw); go_simp; (try with_reducible rfl))
              (try simp only [getElem_toArray, getElem_cons_succ, getElem_cons_zero, Act.put, setIfInBounds_toArray, set_cons_zero, set_cons_succ])
              refine wpAnyH_done (by kernel_rfl) ?_ _
              refine NoPanic.normal ?_
              go_wp2_with fail
              go_meet
              exact ⟨y4_4.heap.size, s21, A21, n21, c21, s22, A22, n22, c22, s23, A23, n23, c23, rfl, rfl, y0.more (by decide), y1.more (by decide), y2.more (by decide), b11, (by omega), hG⟩
            · go_simp
              obtain ⟨y4_7, hV, b11, hb9, szy4_7⟩ := boxes1 y4_3 #[.bool false, .slice none 0 0, .bool false, .slice none 0 0, .bool false, .slice none 0 0] 37
              rw [hV]
              clear hV
              have gly4_7 : W3.heap.size ≤ y4_3.heap.size := sG
              replace szy4_7 : y4_3.heap.size < y4_7.heap.size := by omega
              replace m0 := m0.below hb9
              replace m1 := m1.below hb9
              replace m2 := m2.below hb9
              replace hG := hG.trans (hb9.mono sG)
              replace sG := hG.size
              clear hb9
              refine hK.out _ _ ((b0.below hG).and2 ((b1.below hG).and2 ((b2.below hG).all2))) (fun hHeld => ?_)
              clear hK K
              (try simp only [getElem_toArray, getElem_cons_succ, getElem_cons_zero, Act.put, setIfInBounds_toArray, set_cons_zero, set_cons_succ])
              refine rd1 6 (by kernel_rfl) rfl (fun K hK => ?_)
              go_simp
              go_at_call 12
              refine (gmakel_zn m0 m1 m2 HZ.out (by decide)).mono ?_
              rintro e y4_8 ⟨s21, A21, n21, c21, s22, A22, n22, c22, s23, A23, n23, c23, rfl, y0, y1, y2, hb9⟩
              have szy4_8 := hb9.size
              replace m0 := m0.below hb9
              replace m1 := m1.below hb9
              replace m2 := m2.below hb9
              replace b11 := b11.below hb9
              replace hG := hG.trans (hb9.mono sG)
              replace sG := hG.size
              clear hb9
              clear m0
              clear m1
              clear m2
              go_wp2_with fail
              refine hK.out _ _ ((b0.below hG).and2 ((b1.below hG).and2 ((b2.below hG).all2))) (fun hHeld => ?_)
              clear hK K
              (try simp only [getElem_toArray, getElem_cons_succ, getElem_cons_zero, Act.put, setIfInBounds_toArray, set_cons_zero, set_cons_succ])
              refine tk 7 ?_ rfl (by kernel_rfl) (by kernel_rfl) (by kernel_rfl) (fun _ _ _ h => h) (by rfl) ?_ (by assumption) ?_
              rotate_left
              · (intro w hSw; (try dsimp only at hSw); go_simp; (try with_reducible rfl))
              (try simp only [getElem_toArray, getElem_cons_succ, getElem_cons_zero, Act.put, setIfInBounds_toArray, set_cons_zero, set_cons_succ])
              refine tk 8 ?_ rfl (by kernel_rfl) (by kernel_rfl) (by kernel_rfl) (fun _ _ _ h => h) (by rfl) ?_ (by assumption) ?_
              rotate_left
              · (intro w hSw; (try dsimp only at hSw); go_simp; (try with_reducible rfl))
              (try simp only [getElem_toArray, getElem_cons_succ, getElem_cons_zero, Act.put, setIfInBounds_toArray, set_cons_zero, set_cons_succ])
              refine tk 9 ?_ rfl (by kernel_rfl) (by kernel_rfl) (by kernel_rfl) (fun _ _ _ h => h) (by rfl) ?_ (by assumption) ?_
              rotate_left
              · (intro w hSw; (try dsimp only at hSw); go_simp; (try with_reducible rfl))
              (try simp only [getElem_toArray, getElem_cons_succ, getElem_cons_zero, Act.put, setIfInBounds_toArray, set_cons_zero, set_cons_succ])
              have rb110 := b11.cell 0 _ rfl
              have qb110 := b11.frozen 0
              have rb111 := b11.cell 1 _ rfl
              have qb111 := b11.frozen 1
              have rb112 := b11.cell 2 _ rfl
              have qb112 := b11.frozen 2
              have rb113 := b11.cell 3 _ rfl
              have qb113 := b11.frozen 3
              have rb114 := b11.cell 4 _ rfl
              have qb114 := b11.frozen 4
              have rb115 := b11.cell 5 _ rfl
              have qb115 := b11.frozen 5
              refine rd1 11 (by kernel_rfl) rfl (fun K hK => ?_)
              go_simp
              clear rb110 qb110
              clear rb111 qb111
              clear rb112 qb112
              clear rb113 qb113
              clear rb114 qb114
              clear rb115 qb115
              have hg := only_store6 y4_8 (y4_3.heap.size) (.bool s21) (.slice A21 n21 c21) (.bool s22) (.slice A22 n22 c22) (.bool s23) (.slice A23 n23 c23)
              have hB := b11.stored6 (.bool s21) (.slice A21 n21 c21) (.bool s22) (.slice A22 n22 c22) (.bool s23) (.slice A23 n23 c23)
              generalize hX : ((((((y4_8.setCell ⟨y4_3.heap.size, 0, none⟩ (.bool s21)).setCell ⟨y4_3.heap.size, 1, none⟩ (.slice A21 n21 c21)).setCell ⟨y4_3.heap.size, 2, none⟩ (.bool s22)).setCell ⟨y4_3.heap.size, 3, none⟩ (.slice A22 n22 c22)).setCell ⟨y4_3.heap.size, 4, none⟩ (.bool s23)).setCell ⟨y4_3.heap.size, 5, none⟩ (.slice A23 n23 c23)) = Y4_9 at hg hB ⊢
              clear hX
              replace y0 := y0.kept b11 (by simp [notInt]) hg
              replace y1 := y1.kept b11 (by simp [notInt]) hg
              replace y2 := y2.kept b11 (by simp [notInt]) hg
              replace b11 := hB
              replace hG := below_only hG hg (by omega) sG
              replace sG := hG.size
              clear hg hB
              refine hK.out _ _ ((b0.below hG).and2 ((b1.below hG).and2 ((b2.below hG).all2))) (fun hHeld => ?_)
              clear hK K
              (try simp only [getElem_toArray, getElem_cons_succ, getElem_cons_zero, Act.put, setIfInBounds_toArray, set_cons_zero, set_cons_succ])
              refine tk 12 ?_ rfl (by kernel_rfl) (by kernel_rfl) (by kernel_rfl) (fun _ _ _ h => h) (by rfl) ?_ (by assumption) ?_
              rotate_left
              · (intro w hSw; (try dsimp only at hSw); go_simp; (try with_reducible rfl))
              (try simp only [getElem_toArray, getElem_cons_succ, getElem_cons_zero, Act.put, setIfInBounds_toArray, set_cons_zero, set_cons_succ])
              refine wpAnyH_done (by kernel_rfl) ?_ _
              refine NoPanic.normal ?_
              go_wp2_with fail
              go_meet
              exact ⟨y4_3.heap.size, s21, A21, n21, c21, s22, A22, n22, c22, s23, A23, n23, c23, rfl, rfl, y0.more (by decide), y1.more (by decide), y2.more (by decide), b11, (by omega), hG⟩
          · go_simp
            obtain ⟨y4_10, hV, b11, hb9, szy4_10⟩ := boxes1 y4_2 #[.bool false, .slice none 0 0, .bool false, .slice none 0 0, .bool false, .slice none 0 0] 37
            rw [hV]
            clear hV
            have gly4_10 : W3.heap.size ≤ y4_2.heap.size := sG
            replace szy4_10 : y4_2.heap.size < y4_10.heap.size := by omega
            replace m0 := m0.below hb9
            replace m1 := m1.below hb9
            replace hG := hG.trans (hb9.mono sG)
            replace sG := hG.size
            clear hb9
            refine hK.out _ _ ((b0.below hG).and2 ((b1.below hG).and2 ((b2.below hG).all2))) (fun hHeld => ?_)
            clear hK K
            (try simp only [getElem_toArray, getElem_cons_succ, getElem_cons_zero, Act.put, setIfInBounds_toArray, set_cons_zero, set_cons_succ])
            refine rd1 5 (by kernel_rfl) rfl (fun K hK => ?_)
            go_simp
            go_at_call 13
            refine (refI_v (h2.below hG)).mono ?_
            rintro e y4_11 ⟨s5, A5, n5, c5, rfl, m2, hb9⟩
            have szy4_11 := hb9.size
            replace m0 := m0.below hb9
            replace m1 := m1.below hb9
            replace b11 := b11.below hb9
            replace hG := hG.trans (hb9.mono sG)
            replace sG := hG.size
            clear hb9
            go_wp2_with fail
            refine hK.out _ _ ((b0.below hG).and2 ((b1.below hG).and2 ((b2.below hG).all2))) (fun hHeld => ?_)
            clear hK K
            (try simp only [getElem_toArray, getElem_cons_succ, getElem_cons_zero, Act.put, setIfInBounds_toArray, set_cons_zero, set_cons_succ])
            refine rd1 6 (by kernel_rfl) rfl (fun K hK => ?_)
            go_simp
            go_at_call 12
            refine (gmakel_zn m0 m1 m2 HZ.out (by decide)).mono ?_
            rintro e y4_12 ⟨s21, A21, n21, c21, s22, A22, n22, c22, s23, A23, n23, c23, rfl, y0, y1, y2, hb9⟩
            have szy4_12 := hb9.size
            replace m0 := m0.below hb9
            replace m1 := m1.below hb9
            replace m2 := m2.below hb9
            replace b11 := b11.below hb9
            replace hG := hG.trans (hb9.mono sG)
            replace sG := hG.size
            clear hb9
            clear m0
            clear m1
            clear m2
            go_wp2_with fail
            refine hK.out _ _ ((b0.below hG).and2 ((b1.below hG).and2 ((b2.below hG).all2))) (fun hHeld => ?_)
            clear hK K
            (try simp only [getElem_toArray, getElem_cons_succ, getElem_cons_zero, Act.put, setIfInBounds_toArray, set_cons_zero, set_cons_succ])
            refine tk 7 ?_ rfl (by kernel_rfl) (by kernel_rfl) (by kernel_rfl) (fun _ _ _ h => h) (by rfl) ?_ (by assumption) ?_
            rotate_left
            · (intro w hSw; (try dsimp only at hSw); go_simp; (try with_reducible rfl))
            (try simp only [getElem_toArray, getElem_cons_succ, getElem_cons_zero, Act.put, setIfInBounds_toArray, set_cons_zero, set_cons_succ])
            refine tk 8 ?_ rfl (by kernel_rfl) (by kernel_rfl) (by kernel_rfl) (fun _ _ _ h => h) (by rfl) ?_ (by assumption) ?_
            rotate_left
            · (intro w hSw; (try dsimp only at hSw); go_simp; (try with_reducible rfl))
            (try simp only [getElem_toArray, getElem_cons_succ, getElem_cons_zero, Act.put, setIfInBounds_toArray, set_cons_zero, set_cons_succ])
            refine tk 9 ?_ rfl (by kernel_rfl) (by kernel_rfl) (by kernel_rfl) (fun _ _ _ h => h) (by rfl) ?_ (by assumption) ?_
            rotate_left
            · (intro w hSw; (try dsimp only at hSw); go_simp; (try with_reducible rfl))
            (try simp only [getElem_toArray, getElem_cons_succ, getElem_cons_zero, Act.put, setIfInBounds_toArray, set_cons_zero, set_cons_succ])
            have rb110 := b11.cell 0 _ rfl
            have qb110 := b11.frozen 0
            have rb111 := b11.cell 1 _ rfl
            have qb111 := b11.frozen 1
            have rb112 := b11.cell 2 _ rfl
            have qb112 := b11.frozen 2
            have rb113 := b11.cell 3 _ rfl
            have qb113 := b11.frozen 3
            have rb114 := b11.cell 4 _ rfl
            have qb114 := b11.frozen 4
            have rb115 := b11.cell 5 _ rfl
            have qb115 := b11.frozen 5
            refine rd1 11 (by kernel_rfl) rfl (fun K hK => ?_)
            go_simp
            clear rb110 qb110
            clear rb111 qb111
            clear rb112 qb112
            clear rb113 qb113
            clear rb114 qb114
            clear rb115 qb115
            have hg := only_store6 y4_12 (y4_2.heap.size) (.bool s21) (.slice A21 n21 c21) (.bool s22) (.slice A22 n22 c22) (.bool s23) (.slice A23 n23 c23)
            have hB := b11.stored6 (.bool s21) (.slice A21 n21 c21) (.bool s22) (.slice A22 n22 c22) (.bool s23) (.slice A23 n23 c23)
            generalize hX : ((((((y4_12.setCell ⟨y4_2.heap.size, 0, none⟩ (.bool s21)).setCell ⟨y4_2.heap.size, 1, none⟩ (.slice A21 n21 c21)).setCell ⟨y4_2.heap.size, 2, none⟩ (.bool s22)).setCell ⟨y4_2.heap.size, 3, none⟩ (.slice A22 n22 c22)).setCell ⟨y4_2.heap.size, 4, none⟩ (.bool s23)).setCell ⟨y4_2.heap.size, 5, none⟩ (.slice A23 n23 c23)) = Y4_13 at hg hB ⊢
            clear hX
            replace y0 := y0.kept b11 (by simp [notInt]) hg
            replace y1 := y1.kept b11 (by simp [notInt]) hg
            replace y2 := y2.kept b11 (by simp [notInt]) hg
            replace b11 := hB
            replace hG := below_only hG hg (by omega) sG
            replace sG := hG.size
            clear hg hB
            refine hK.out _ _ ((b0.below hG).and2 ((b1.below hG).and2 ((b2.below hG).all2))) (fun hHeld => ?_)
            clear hK K
            (try simp only [getElem_toArray, getElem_cons_succ, getElem_cons_zero, Act.put, setIfInBounds_toArray, set_cons_zero, set_cons_succ])
            refine tk 12 ?_ rfl (by kernel_rfl) (by kernel_rfl) (by kernel_rfl) (fun _ _ _ h => h) (by rfl) ?_ (by assumption) ?_
            rotate_left
            · (intro w hSw; (try dsimp only at hSw); go_simp; (try with_reducible rfl))
            (try simp only [getElem_toArray, getElem_cons_succ, getElem_cons_zero, Act.put, setIfInBounds_toArray, set_cons_zero, set_cons_succ])
            refine wpAnyH_done (by kernel_rfl) ?_ _
            refine NoPanic.normal ?_
            go_wp2_with fail
            go_meet
            exact ⟨y4_2.heap.size, s21, A21, n21, c21, s22, A22, n22, c22, s23, A23, n23, c23, rfl, rfl, y0.more (by decide), y1.more (by decide), y2.more (by decide), b11, (by omega), hG⟩
        · go_simp
          obtain ⟨y4_14, hV, b11, hb9, szy4_14⟩ := boxes1 y4_1 #[.bool false, .slice none 0 0, .bool false, .slice none 0 0, .bool false, .slice none 0 0] 37
          rw [hV]
          clear hV
          have gly4_14 : W3.heap.size ≤ y4_1.heap.size := sG
          replace szy4_14 : y4_1.heap.size < y4_14.heap.size := by omega
          replace m0 := m0.below hb9
          replace hG := hG.trans (hb9.mono sG)
          replace sG := hG.size
          clear hb9
          refine hK.out _ _ ((b0.below hG).and2 ((b1.below hG).and2 ((b2.below hG).all2))) (fun hHeld => ?_)
          clear hK K
          (try simp only [getElem_toArray, getElem_cons_succ, getElem_cons_zero, Act.put, setIfInBounds_toArray, set_cons_zero, set_cons_succ])
          refine rd1 3 (by kernel_rfl) rfl (fun K hK => ?_)
          go_simp
          go_at_call 13
          refine (refI_v (h1.below hG)).mono ?_
          rintro e y4_15 ⟨s4, A4, n4, c4, rfl, m1, hb9⟩
          have szy4_15 := hb9.size
          replace m0 := m0.below hb9
          replace b11 := b11.below hb9
          replace hG := hG.trans (hb9.mono sG)
          replace sG := hG.size
          clear hb9
          go_wp2_with fail
          refine hK.out _ _ ((b0.below hG).and2 ((b1.below hG).and2 ((b2.below hG).all2))) (fun hHeld => ?_)
          clear hK K
          (try simp only [getElem_toArray, getElem_cons_succ, getElem_cons_zero, Act.put, setIfInBounds_toArray, set_cons_zero, set_cons_succ])
          refine rd1 5 (by kernel_rfl) rfl (fun K hK => ?_)
          go_simp
          go_at_call 13
          refine (refI_v (h2.below hG)).mono ?_
          rintro e y4_16 ⟨s5, A5, n5, c5, rfl, m2, hb9⟩
          have szy4_16 := hb9.size
          replace m0 := m0.below hb9
          replace m1 := m1.below hb9
          replace b11 := b11.below hb9
          replace hG := hG.trans (hb9.mono sG)
          replace sG := hG.size
          clear hb9
          go_wp2_with fail
          refine hK.out _ _ ((b0.below hG).and2 ((b1.below hG).and2 ((b2.below hG).all2))) (fun hHeld => ?_)
          clear hK K
          (try simp only [getElem_toArray, getElem_cons_succ, getElem_cons_zero, Act.put, setIfInBounds_toArray, set_cons_zero, set_cons_succ])
          refine rd1 6 (by kernel_rfl) rfl (fun K hK => ?_)
          go_simp
          go_at_call 12
          refine (gmakel_zn m0 m1 m2 HZ.out (by decide)).mono ?_
          rintro e y4_17 ⟨s21, A21, n21, c21, s22, A22, n22, c22, s23, A23, n23, c23, rfl, y0, y1, y2, hb9⟩
          have szy4_17 := hb9.size
          replace m0 := m0.below hb9
          replace m1 := m1.below hb9
          replace m2 := m2.below hb9
          replace b11 := b11.below hb9
          replace hG := hG.trans (hb9.mono sG)
          replace sG := hG.size
          clear hb9
          clear m0
          clear m1
          clear m2
          go_wp2_with fail
          refine hK.out _ _ ((b0.below hG).and2 ((b1.below hG).and2 ((b2.below hG).all2))) (fun hHeld => ?_)
          clear hK K
          (try simp only [getElem_toArray, getElem_cons_succ, getElem_cons_zero, Act.put, setIfInBounds_toArray, set_cons_zero, set_cons_succ])
          refine tk 7 ?_ rfl (by kernel_rfl) (by kernel_rfl) (by kernel_rfl) (fun _ _ _ h => h) (by rfl) ?_ (by assumption) ?_
          rotate_left
          · (intro w hSw; (try dsimp only at hSw); go_simp; (try with_reducible rfl))
          (try simp only [getElem_toArray, getElem_cons_succ, getElem_cons_zero, Act.put, setIfInBounds_toArray, set_cons_zero, set_cons_succ])
          refine tk 8 ?_ rfl (by kernel_rfl) (by kernel_rfl) (by kernel_rfl) (fun _ _ _ h => h) (by rfl) ?_ (by assumption) ?_
          rotate_left
          · (intro w hSw; (try dsimp only at hSw); go_simp; (try with_reducible rfl))
          (try simp only [getElem_toArray, getElem_cons_succ, getElem_cons_zero, Act.put, setIfInBounds_toArray, set_cons_zero, set_cons_succ])
          refine tk 9 ?_ rfl (by kernel_rfl) (by kernel_rfl) (by kernel_rfl) (fun _ _ _ h => h) (by rfl) ?_ (by assumption) ?_
          rotate_left
          · (intro w hSw; (try dsimp only at hSw); go_simp; (try with_reducible rfl))
          (try simp only [getElem_toArray, getElem_cons_succ, getElem_cons_zero, Act.put, setIfInBounds_toArray, set_cons_zero, set_cons_succ])
          have rb110 := b11.cell 0 _ rfl
          have qb110 := b11.frozen 0
          have rb111 := b11.cell 1 _ rfl
          have qb111 := b11.frozen 1
          have rb112 := b11.cell 2 _ rfl
          have qb112 := b11.frozen 2
          have rb113 := b11.cell 3 _ rfl
          have qb113 := b11.frozen 3
          have rb114 := b11.cell 4 _ rfl
          have qb114 := b11.frozen 4
          have rb115 := b11.cell 5 _ rfl
          have qb115 := b11.frozen 5
          refine rd1 11 (by kernel_rfl) rfl (fun K hK => ?_)
          go_simp
          clear rb110 qb110
          clear rb111 qb111
          clear rb112 qb112
          clear rb113 qb113
          clear rb114 qb114
          clear rb115 qb115
          have hg := only_store6 y4_17 (y4_1.heap.size) (.bool s21) (.slice A21 n21 c21) (.bool s22) (.slice A22 n22 c22) (.bool s23) (.slice A23 n23 c23)
          have hB := b11.stored6 (.bool s21) (.slice A21 n21 c21) (.bool s22) (.slice A22 n22 c22) (.bool s23) (.slice A23 n23 c23)
          generalize hX : ((((((y4_17.setCell ⟨y4_1.heap.size, 0, none⟩ (.bool s21)).setCell ⟨y4_1.heap.size, 1, none⟩ (.slice A21 n21 c21)).setCell ⟨y4_1.heap.size, 2, none⟩ (.bool s22)).setCell ⟨y4_1.heap.size, 3, none⟩ (.slice A22 n22 c22)).setCell ⟨y4_1.heap.size, 4, none⟩ (.bool s23)).setCell ⟨y4_1.heap.size, 5, none⟩ (.slice A23 n23 c23)) = Y4_18 at hg hB ⊢
          clear hX
          replace y0 := y0.kept b11 (by simp [notInt]) hg
          replace y1 := y1.kept b11 (by simp [notInt]) hg
          replace y2 := y2.kept b11 (by simp [notInt]) hg
          replace b11 := hB
          replace hG := below_only hG hg (by omega) sG
          replace sG := hG.size
          clear hg hB
          refine hK.out _ _ ((b0.below hG).and2 ((b1.below hG).and2 ((b2.below hG).all2))) (fun hHeld => ?_)
          clear hK K
          (try simp only [getElem_toArray, getElem_cons_succ, getElem_cons_zero, Act.put, setIfInBounds_toArray, set_cons_zero, set_cons_succ])
          refine tk 12 ?_ rfl (by kernel_rfl) (by kernel_rfl) (by kernel_rfl) (fun _ _ _ h => h) (by rfl) ?_ (by assumption) ?_
          rotate_left
          · (intro w hSw; (try dsimp only at hSw); go_simp; (try with_reducible rfl))
          (try simp only [getElem_toArray, getElem_cons_succ, getElem_cons_zero, Act.put, setIfInBounds_toArray, set_cons_zero, set_cons_succ])
          refine wpAnyH_done (by kernel_rfl) ?_ _
          refine NoPanic.normal ?_
          go_wp2_with fail
          go_meet
          exact ⟨y4_1.heap.size, s21, A21, n21, c21, s22, A22, n22, c22, s23, A23, n23, c23, rfl, rfl, y0.more (by decide), y1.more (by decide), y2.more (by decide), b11, (by omega), hG⟩
      · go_simp
        obtain ⟨y4_19, hV, b11, hb9, szy4_19⟩ := boxes1 v4 #[.bool false, .slice none 0 0, .bool false, .slice none 0 0, .bool false, .slice none 0 0] 37
        rw [hV]
        clear hV
        have gly4_19 : W3.heap.size ≤ v4.heap.size := sG
        replace szy4_19 : v4.heap.size < y4_19.heap.size := by omega
        replace hG := hG.trans (hb9.mono sG)
        replace sG := hG.size
        clear hb9
        refine hK.out _ _ ((b0.below hG).and2 ((b1.below hG).and2 ((b2.below hG).all2))) (fun hHeld => ?_)
        clear hK K
        (try simp only [getElem_toArray, getElem_cons_succ, getElem_cons_zero, Act.put, setIfInBounds_toArray, set_cons_zero, set_cons_succ])
        refine rd1 1 (by kernel_rfl) rfl (fun K hK => ?_)
        go_simp
        go_at_call 13
        refine (refI_v (h0.below hG)).mono ?_
        rintro e y4_20 ⟨s3, A3, n3, c3, rfl, m0, hb9⟩
        have szy4_20 := hb9.size
        replace b11 := b11.below hb9
        replace hG := hG.trans (hb9.mono sG)
        replace sG := hG.size
        clear hb9
        go_wp2_with fail
        refine hK.out _ _ ((b0.below hG).and2 ((b1.below hG).and2 ((b2.below hG).all2))) (fun hHeld => ?_)
        clear hK K
        (try simp only [getElem_toArray, getElem_cons_succ, getElem_cons_zero, Act.put, setIfInBounds_toArray, set_cons_zero, set_cons_succ])
        refine rd1 3 (by kernel_rfl) rfl (fun K hK => ?_)
        go_simp
        go_at_call 13
        refine (refI_v (h1.below hG)).mono ?_
        rintro e y4_21 ⟨s4, A4, n4, c4, rfl, m1, hb9⟩
        have szy4_21 := hb9.size
        replace m0 := m0.below hb9
        replace b11 := b11.below hb9
        replace hG := hG.trans (hb9.mono sG)
        replace sG := hG.size
        clear hb9
        go_wp2_with fail
        refine hK.out _ _ ((b0.below hG).and2 ((b1.below hG).and2 ((b2.below hG).all2))) (fun hHeld => ?_)
        clear hK K
        (try simp only [getElem_toArray, getElem_cons_succ, getElem_cons_zero, Act.put, setIfInBounds_toArray, set_cons_zero, set_cons_succ])
        refine rd1 5 (by kernel_rfl) rfl (fun K hK => ?_)
        go_simp
        go_at_call 13
        refine (refI_v (h2.below hG)).mono ?_
        rintro e y4_22 ⟨s5, A5, n5, c5, rfl, m2, hb9⟩
        have szy4_22 := hb9.size
        replace m0 := m0.below hb9
        replace m1 := m1.below hb9
        replace b11 := b11.below hb9
        replace hG := hG.trans (hb9.mono sG)
        replace sG := hG.size
        clear hb9
        go_wp2_with fail
        refine hK.out _ _ ((b0.below hG).and2 ((b1.below hG).and2 ((b2.below hG).all2))) (fun hHeld => ?_)
        clear hK K
        (try simp only [getElem_toArray, getElem_cons_succ, getElem_cons_zero, Act.put, setIfInBounds_toArray, set_cons_zero, set_cons_succ])
        refine rd1 6 (by kernel_rfl) rfl (fun K hK => ?_)
        go_simp
        go_at_call 12
        refine (gmakel_zn m0 m1 m2 HZ.out (by decide)).mono ?_
        rintro e y4_23 ⟨s21, A21, n21, c21, s22, A22, n22, c22, s23, A23, n23, c23, rfl, y0, y1, y2, hb9⟩
        have szy4_23 := hb9.size
        replace m0 := m0.below hb9
        replace m1 := m1.below hb9
        replace m2 := m2.below hb9
        replace b11 := b11.below hb9
        replace hG := hG.trans (hb9.mono sG)
        replace sG := hG.size
        clear hb9
        clear m0
        clear m1
        clear m2
        go_wp2_with fail
        refine hK.out _ _ ((b0.below hG).and2 ((b1.below hG).and2 ((b2.below hG).all2))) (fun hHeld => ?_)
        clear hK K
        (try simp only [getElem_toArray, getElem_cons_succ, getElem_cons_zero, Act.put, setIfInBounds_toArray, set_cons_zero, set_cons_succ])
        refine tk 7 ?_ rfl (by kernel_rfl) (by kernel_rfl) (by kernel_rfl) (fun _ _ _ h => h) (by rfl) ?_ (by assumption) ?_
        rotate_left
        · (intro w hSw; (try dsimp only at hSw); go_simp; (try with_reducible rfl))
        (try simp only [getElem_toArray, getElem_cons_succ, getElem_cons_zero, Act.put, setIfInBounds_toArray, set_cons_zero, set_cons_succ])
        refine tk 8 ?_ rfl (by kernel_rfl) (by kernel_rfl) (by kernel_rfl) (fun _ _ _ h => h) (by rfl) ?_ (by assumption) ?_
        rotate_left
        · (intro w hSw; (try dsimp only at hSw); go_simp; (try with_reducible rfl))
        (try simp only [getElem_toArray, getElem_cons_succ, getElem_cons_zero, Act.put, setIfInBounds_toArray, set_cons_zero, set_cons_succ])
        refine tk 9 ?_ rfl (by kernel_rfl) (by kernel_rfl) (by kernel_rfl) (fun _ _ _ h => h) (by rfl) ?_ (by assumption) ?_
        rotate_left
        · (intro w hSw; (try dsimp only at hSw); go_simp; (try with_reducible rfl))
        (try simp only [getElem_toArray, getElem_cons_succ, getElem_cons_zero, Act.put, setIfInBounds_toArray, set_cons_zero, set_cons_succ])
        have rb110 := b11.cell 0 _ rfl
        have qb110 := b11.frozen 0
        have rb111 := b11.cell 1 _ rfl
        have qb111 := b11.frozen 1
        have rb112 := b11.cell 2 _ rfl
        have qb112 := b11.frozen 2
        have rb113 := b11.cell 3 _ rfl
        have qb113 := b11.frozen 3
        have rb114 := b11.cell 4 _ rfl
        have qb114 := b11.frozen 4
        have rb115 := b11.cell 5 _ rfl
        have qb115 := b11.frozen 5
        refine rd1 11 (by kernel_rfl) rfl (fun K hK => ?_)
        go_simp
        clear rb110 qb110
        clear rb111 qb111
        clear rb112 qb112
        clear rb113 qb113
        clear rb114 qb114
        clear rb115 qb115
        have hg := only_store6 y4_23 (v4.heap.size) (.bool s21) (.slice A21 n21 c21) (.bool s22) (.slice A22 n22 c22) (.bool s23) (.slice A23 n23 c23)
        have hB := b11.stored6 (.bool s21) (.slice A21 n21 c21) (.bool s22) (.slice A22 n22 c22) (.bool s23) (.slice A23 n23 c23)
        generalize hX : ((((((y4_23.setCell ⟨v4.heap.size, 0, none⟩ (.bool s21)).setCell ⟨v4.heap.size, 1, none⟩ (.slice A21 n21 c21)).setCell ⟨v4.heap.size, 2, none⟩ (.bool s22)).setCell ⟨v4.heap.size, 3, none⟩ (.slice A22 n22 c22)).setCell ⟨v4.heap.size, 4, none⟩ (.bool s23)).setCell ⟨v4.heap.size, 5, none⟩ (.slice A23 n23 c23)) = Y4_24 at hg hB ⊢
        clear hX
        replace y0 := y0.kept b11 (by simp [notInt]) hg
        replace y1 := y1.kept b11 (by simp [notInt]) hg
        replace y2 := y2.kept b11 (by simp [notInt]) hg
        replace b11 := hB
        replace hG := below_only hG hg (by omega) sG
        replace sG := hG.size
        clear hg hB
        refine hK.out _ _ ((b0.below hG).and2 ((b1.below hG).and2 ((b2.below hG).all2))) (fun hHeld => ?_)
        clear hK K
        (try simp only [getElem_toArray, getElem_cons_succ, getElem_cons_zero, Act.put, setIfInBounds_toArray, set_cons_zero, set_cons_succ])
        refine tk 12 ?_ rfl (by kernel_rfl) (by kernel_rfl) (by kernel_rfl) (fun _ _ _ h => h) (by rfl) ?_ (by assumption) ?_
        rotate_left
        · (intro w hSw; (try dsimp only at hSw); go_simp; (try with_reducible rfl))
        (try simp only [getElem_toArray, getElem_cons_succ, getElem_cons_zero, Act.put, setIfInBounds_toArray, set_cons_zero, set_cons_succ])
        refine wpAnyH_done (by kernel_rfl) ?_ _
        refine NoPanic.normal ?_
        go_wp2_with fail
        go_meet
        exact ⟨v4.heap.size, s21, A21, n21, c21, s22, A22, n22, c22, s23, A23, n23, c23, rfl, rfl, y0.more (by decide), y1.more (by decide), y2.more (by decide), b11, (by omega), hG⟩
    obtain ⟨g4_0, s21, A21, n21, c21, s22, A22, n22, c22, s23, A23, n23, c23, rfl, rfl, y0, y1, y2, b11, glg4_0, hG⟩ := hcut
    replace h0 := h0.below hG
    replace h1 := h1.below hG
    replace h2 := h2.below hG
    replace x0 := x0.below hG
    replace x1 := x1.below hG
    replace x2 := x2.below hG
    replace b0 := b0.below hG
    replace b1 := b1.below hG
    replace b2 := b2.below hG
    replace b9 := b9.below hG
    replace H0 := H0.trans (hG.mono H0.size)
    clear hG
    clear h0
    clear h1
    clear h2
    clear b0
    clear b1
    clear b2
    obtain ⟨cb90, cb91, cb92, cb93, cb94, cb95⟩ := b9.cells6
    obtain ⟨cb110, cb111, cb112, cb113, cb114, cb115⟩ := b11.cells6
    go_wp2_with fail
    clear cb90 cb91 cb92 cb93 cb94 cb95 cb110 cb111 cb112 cb113 cb114 cb115
    refine (gsamel_t x0 x1 x2 (⟨slice_nil _, rfl⟩ : NI _ false (.slice none 0 0) 0 1) (⟨slice_nil _, rfl⟩ : NI _ false (.slice none 0 0) 0 1) (⟨slice_nil _, rfl⟩ : NI _ false (.slice none 0 0) 0 1) rfl rfl rfl).mono ?_
    rintro e w6 ⟨rfl, hb⟩
    replace x0 := x0.below hb
    replace x1 := x1.below hb
    replace x2 := x2.below hb
    replace y0 := y0.below hb
    replace y1 := y1.below hb
    replace y2 := y2.below hb
    replace b9 := b9.below hb
    replace b11 := b11.below hb
    replace H0 := H0.trans (hb.mono H0.size)
    clear hb
    clear x0
    clear x1
    clear x2
    clear y0
    clear y1
    clear y2
    clear HZ
    go_wp2_with fail
    refine (new_any (ints_below HI H0)).mono ?_
    rintro e w7 ⟨rfl, hT, hb9, hsz3⟩
    have hs0 : w.heap.size ≤ w6.heap.size := H0.size
    have hlt : w6.heap.size < w7.heap.size := by omega
    clear hsz3
    have lxb9 := b9.lt
    replace b9 := b9.below hb9
    have lxb11 := b11.lt
    replace b11 := b11.below hb9
    replace H0 := H0.trans (hb9.mono H0.size)
    clear hb9
    go_wp2_with fail
    refine (tpoint_v hT hlt).mono ?_
    rintro e w8 ⟨q0, q1, s16, A16, n16, c16, D16, m16, e16, s17, A17, n17, c17, D17, m17, e17, rfl, p0, p1, hT', hg⟩
    replace b9 := b9.other hg (by omega)
    replace b11 := b11.other hg (by omega)
    replace hlt := Nat.lt_of_lt_of_le hlt hg.size
    replace H0 := H0.grown hg H0.size (by rintro k hk; injection hk with hk; omega)
    clear hT
    have hT := hT'
    clear hT' hg
    go_wp2_with fail
    refine (tpoint_v hT hlt).mono ?_
    rintro e w9 ⟨q2, q3, s18, A18, n18, c18, D18, m18, e18, s19, A19, n19, c19, D19, m19, e19, rfl, p2, p3, hT', hg⟩
    replace p0 := p0.tape hT hg
    replace p1 := p1.tape hT hg
    replace b9 := b9.other hg (by omega)
    replace b11 := b11.other hg (by omega)
    replace hlt := Nat.lt_of_lt_of_le hlt hg.size
    replace H0 := H0.grown hg H0.size (by rintro k hk; injection hk with hk; omega)
    clear hT
    have hT := hT'
    clear hT' hg
    clear hT hlt
    have lb9_10 := b9.lt
    have lb11_10 := b11.lt
    obtain ⟨W10, hW, b14, b15, hbW, hszW10⟩ := boxes2 w9 #[.bool s16, .slice A16 n16 c16, .slice D16 m16 e16, .bool s17, .slice A17 n17 c17, .slice D17 m17 e17] #[.bool s18, .slice A18 n18 c18, .slice D18 m18 e18, .bool s19, .slice A19 n19 c19, .slice D19 m19 e19] 48 48
    skip
    skip
    replace p0 := p0.below hbW
    replace p1 := p1.below hbW
    replace p2 := p2.below hbW
    replace p3 := p3.below hbW
    replace b9 := b9.below hbW
    replace b11 := b11.below hbW
    replace H0 := H0.trans (hbW.mono H0.size)
    clear hbW
    obtain ⟨cb140, cb141, cb142, cb143, cb144, cb145⟩ := b14.cells6
    obtain ⟨cb150, cb151, cb152, cb153, cb154, cb155⟩ := b15.cells6
    go_wp2_with fail
    clear hW
    clear hszW10
    clear cb140 cb141 cb142 cb143 cb144 cb145 cb150 cb151 cb152 cb153 cb154 cb155
    by_cases he : q0 = q2 ∧ q1 = q3
    · have HE := Lib.hid he
      clear he
      have hD := drawn_below W10
      replace p0 := p0.below hD
      replace p1 := p1.below hD
      replace p2 := p2.below hD
      replace p3 := p3.below hD
      replace b9 := b9.below hD
      replace b11 := b11.below hD
      replace b14 := b14.below hD
      replace b15 := b15.below hD
      replace H0 := H0.trans (hD.mono H0.size)
      clear hD
      refine wp_region_noPanic ?_
      refine wp_region_held_drew (S := (fun V => V.cell? ⟨w9.heap.size, 0, none⟩ = some (.bool s16) ∧ V.cell? ⟨w9.heap.size, 1, none⟩ = some (.slice A16 n16 c16) ∧ V.cell? ⟨w9.heap.size, 2, none⟩ = some (.slice D16 m16 e16) ∧ V.cell? ⟨w9.heap.size, 3, none⟩ = some (.bool s17) ∧ V.cell? ⟨w9.heap.size, 4, none⟩ = some (.slice A17 n17 c17) ∧ V.cell? ⟨w9.heap.size, 5, none⟩ = some (.slice D17 m17 e17) ∧ V.cell? ⟨w9.heap.size + 1, 0, none⟩ = some (.bool s18) ∧ V.cell? ⟨w9.heap.size + 1, 1, none⟩ = some (.slice A18 n18 c18) ∧ V.cell? ⟨w9.heap.size + 1, 2, none⟩ = some (.slice D18 m18 e18) ∧ V.cell? ⟨w9.heap.size + 1, 3, none⟩ = some (.bool s19) ∧ V.cell? ⟨w9.heap.size + 1, 4, none⟩ = some (.slice A19 n19 c19) ∧ V.cell? ⟨w9.heap.size + 1, 5, none⟩ = some (.slice D19 m19 e19))) (by kernel_rfl) (b14.and6 (b15.all6)) (fun hHeld => ?_)
      generalize W10.drew = v11 at H0 hHeld p0 p1 p2 p3 b9 b11 b14 b15 ⊢
      refine tk 0 ?_ rfl (by kernel_rfl) (by kernel_rfl) (by kernel_rfl) (fun _ _ _ h => h) (by rfl) ?_ (by assumption) ?_
      rotate_left
      · (intro w hSw; (try dsimp only at hSw); go_simp; (try with_reducible rfl))
      (try simp only [getElem_toArray, getElem_cons_zero, Act.put, setIfInBounds_toArray, set_cons_zero, set_cons_succ])
      refine tk 2 ?_ rfl (by kernel_rfl) (by kernel_rfl) (by kernel_rfl) (fun _ _ _ h => h) (by rfl) ?_ (by assumption) ?_
      rotate_left
      · (intro w hSw; (try dsimp only at hSw); go_simp; (try with_reducible rfl))
      (try simp only [getElem_toArray, getElem_cons_succ, getElem_cons_zero, Act.put, setIfInBounds_toArray, set_cons_zero, set_cons_succ])
      refine rd1 1 (by kernel_rfl) rfl (fun K hK => ?_)
      go_simp
      go_at_call 19
      refine (gtop_v p0 p1 (by decide)).mono ?_
      rintro e w12 ⟨s0, A0, n0, c0, D0, m0, e0, s1, A1, n1, c1, D1, m1, e1, rfl, k0, k1, hb⟩
      replace p0 := p0.below hb
      replace p1 := p1.below hb
      replace p2 := p2.below hb
      replace p3 := p3.below hb
      replace b9 := b9.below hb
      replace b11 := b11.below hb
      replace b14 := b14.below hb
      replace b15 := b15.below hb
      replace H0 := H0.trans (hb.mono H0.size)
      clear hb
      go_wp2_with fail
      refine hK.out _ _ (b14.and6 (b15.all6)) (fun hHeld => ?_)
      clear hK K
      (try simp only [getElem_toArray, getElem_cons_succ, getElem_cons_zero, Act.put, setIfInBounds_toArray, set_cons_zero, set_cons_succ])
      refine rd1 3 (by kernel_rfl) rfl (fun K hK => ?_)
      go_simp
      go_at_call 19
      refine (gtop_v p2 p3 (by decide)).mono ?_
      rintro e w13 ⟨s2, A2, n2, c2, D2, m2, e2, s3, A3, n3, c3, D3, m3, e3, rfl, k2, k3, hb⟩
      replace p0 := p0.below hb
      replace p1 := p1.below hb
      replace p2 := p2.below hb
      replace p3 := p3.below hb
      replace k0 := k0.below hb
      replace k1 := k1.below hb
      replace b9 := b9.below hb
      replace b11 := b11.below hb
      replace b14 := b14.below hb
      replace b15 := b15.below hb
      replace H0 := H0.trans (hb.mono H0.size)
      clear hb
      go_wp2_with fail
      refine hK.out _ _ (b14.and6 (b15.all6)) (fun hHeld => ?_)
      clear hK K
      (try simp only [getElem_toArray, getElem_cons_succ, getElem_cons_zero, Act.put, setIfInBounds_toArray, set_cons_zero, set_cons_succ])
      refine rd1 4 (by kernel_rfl) rfl (fun K hK => ?_)
      go_simp
      go_at_call 18
      refine (lthrough_zn k0 k1 k2 k3 HE.out (by decide)).mono ?_
      rintro e w14 ⟨s18, A18, n18, c18, s19, A19, n19, c19, s20, A20, n20, c20, rfl, x0, x1, x2, hb⟩
      replace p0 := p0.below hb
      replace p1 := p1.below hb
      replace p2 := p2.below hb
      replace p3 := p3.below hb
      replace k0 := k0.below hb
      replace k1 := k1.below hb
      replace k2 := k2.below hb
      replace k3 := k3.below hb
      replace b9 := b9.below hb
      replace b11 := b11.below hb
      replace b14 := b14.below hb
      replace b15 := b15.below hb
      replace H0 := H0.trans (hb.mono H0.size)
      clear hb
      clear k0
      clear k1
      clear k2
      clear k3
      go_wp2_with fail
      refine hK.out _ _ (b14.and6 (b15.all6)) (fun hHeld => ?_)
      clear hK K
      (try simp only [getElem_toArray, getElem_cons_succ, getElem_cons_zero, Act.put, setIfInBounds_toArray, set_cons_zero, set_cons_succ])
      refine tk 5 ?_ rfl (by kernel_rfl) (by kernel_rfl) (by kernel_rfl) (fun _ _ _ h => h) (by rfl) ?_ (by assumption) ?_
      rotate_left
      · (intro w hSw; (try dsimp only at hSw); go_simp; (try with_reducible rfl))
      (try simp only [getElem_toArray, getElem_cons_succ, getElem_cons_zero, Act.put, setIfInBounds_toArray, set_cons_zero, set_cons_succ])
      refine tk 6 ?_ rfl (by kernel_rfl) (by kernel_rfl) (by kernel_rfl) (fun _ _ _ h => h) (by rfl) ?_ (by assumption) ?_
      rotate_left
      · (intro w hSw; (try dsimp only at hSw); go_simp; (try with_reducible rfl))
      (try simp only [getElem_toArray, getElem_cons_succ, getElem_cons_zero, Act.put, setIfInBounds_toArray, set_cons_zero, set_cons_succ])
      refine tk 7 ?_ rfl (by kernel_rfl) (by kernel_rfl) (by kernel_rfl) (fun _ _ _ h => h) (by rfl) ?_ (by assumption) ?_
      rotate_left
      · (intro w hSw; (try dsimp only at hSw); go_simp; (try with_reducible rfl))
      (try simp only [getElem_toArray, getElem_cons_succ, getElem_cons_zero, Act.put, setIfInBounds_toArray, set_cons_zero, set_cons_succ])
      obtain ⟨cb90, yb90, cb91, yb91, cb92, yb92, cb93, yb93, cb94, yb94, cb95, yb95⟩ := b9.cf6
      refine rd1 8 (by kernel_rfl) rfl (fun K hK => ?_)
      go_simp
      clear cb90 yb90 cb91 yb91 cb92 yb92 cb93 yb93 cb94 yb94 cb95 yb95
      have hg := only_store6 w14 (w2.heap.size) (.bool s18) (.slice A18 n18 c18) (.bool s19) (.slice A19 n19 c19) (.bool s20) (.slice A20 n20 c20)
      have hB := b9.stored6 (.bool s18) (.slice A18 n18 c18) (.bool s19) (.slice A19 n19 c19) (.bool s20) (.slice A20 n20 c20)
      generalize hX : ((((((w14.setCell ⟨w2.heap.size, 0, none⟩ (.bool s18)).setCell ⟨w2.heap.size, 1, none⟩ (.slice A18 n18 c18)).setCell ⟨w2.heap.size, 2, none⟩ (.bool s19)).setCell ⟨w2.heap.size, 3, none⟩ (.slice A19 n19 c19)).setCell ⟨w2.heap.size, 4, none⟩ (.bool s20)).setCell ⟨w2.heap.size, 5, none⟩ (.slice A20 n20 c20)) = X15 at hg hB ⊢
      clear hX
      replace p0 := p0.kept b9 (by simp [notInt]) hg
      replace p1 := p1.kept b9 (by simp [notInt]) hg
      replace p2 := p2.kept b9 (by simp [notInt]) hg
      replace p3 := p3.kept b9 (by simp [notInt]) hg
      replace x0 := x0.kept b9 (by simp [notInt]) hg
      replace x1 := x1.kept b9 (by simp [notInt]) hg
      replace x2 := x2.kept b9 (by simp [notInt]) hg
      replace b11 := b11.other hg (by omega)
      replace b14 := b14.other hg (by omega)
      replace b15 := b15.other hg (by omega)
      replace b9 := hB
      replace H0 := below_only H0 hg (by omega) H0.size
      clear hg hB
      refine hK.out _ _ (b14.and6 (b15.all6)) (fun hHeld => ?_)
      clear hK K
      (try simp only [getElem_toArray, getElem_cons_succ, getElem_cons_zero, Act.put, setIfInBounds_toArray, set_cons_zero, set_cons_succ])
      refine tk 9 ?_ rfl (by kernel_rfl) (by kernel_rfl) (by kernel_rfl) (fun _ _ _ h => h) (by rfl) ?_ (by assumption) ?_
      rotate_left
      · (intro w hSw; (try dsimp only at hSw); go_simp; (try with_reducible rfl))
      (try simp only [getElem_toArray, getElem_cons_succ, getElem_cons_zero, Act.put, setIfInBounds_toArray, set_cons_zero, set_cons_succ])
      refine wpAnyH_done (by kernel_rfl) ?_ _
      refine NoPanic.normal ?_
      go_wp2_with fail
      obtain ⟨cb140, cb141, cb142, cb143, cb144, cb145⟩ := b14.cells6
      obtain ⟨cb150, cb151, cb152, cb153, cb154, cb155⟩ := b15.cells6
      go_wp2_with fail
      clear cb140 cb141 cb142 cb143 cb144 cb145 cb150 cb151 cb152 cb153 cb154 cb155
      refine (gthrough_zn (p0.more (by decide)) (p1.more (by decide)) (p2.more (by decide)) (p3.more (by decide)) HE.out).mono ?_
      rintro e w16 ⟨s21, A21, n21, c21, s22, A22, n22, c22, s23, A23, n23, c23, rfl, y0, y1, y2, hb⟩
      replace p0 := p0.below hb
      replace p1 := p1.below hb
      replace p2 := p2.below hb
      replace p3 := p3.below hb
      replace x0 := x0.below hb
      replace x1 := x1.below hb
      replace x2 := x2.below hb
      replace b9 := b9.below hb
      replace b11 := b11.below hb
      replace b14 := b14.below hb
      replace b15 := b15.below hb
      replace H0 := H0.trans (hb.mono H0.size)
      clear hb
      obtain ⟨cb110, yb110, cb111, yb111, cb112, yb112, cb113, yb113, cb114, yb114, cb115, yb115⟩ := b11.cf6
      go_wp2_with fail
      clear cb110 yb110 cb111 yb111 cb112 yb112 cb113 yb113 cb114 yb114 cb115 yb115
      have hg := only_store6 w16 (g4_0) (.bool s21) (.slice A21 n21 c21) (.bool s22) (.slice A22 n22 c22) (.bool s23) (.slice A23 n23 c23)
      have hB := b11.stored6 (.bool s21) (.slice A21 n21 c21) (.bool s22) (.slice A22 n22 c22) (.bool s23) (.slice A23 n23 c23)
      generalize hX : ((((((w16.setCell ⟨g4_0, 0, none⟩ (.bool s21)).setCell ⟨g4_0, 1, none⟩ (.slice A21 n21 c21)).setCell ⟨g4_0, 2, none⟩ (.bool s22)).setCell ⟨g4_0, 3, none⟩ (.slice A22 n22 c22)).setCell ⟨g4_0, 4, none⟩ (.bool s23)).setCell ⟨g4_0, 5, none⟩ (.slice A23 n23 c23)) = X17 at hg hB ⊢
      clear hX
      replace p0 := p0.kept b11 (by simp [notInt]) hg
      replace p1 := p1.kept b11 (by simp [notInt]) hg
      replace p2 := p2.kept b11 (by simp [notInt]) hg
      replace p3 := p3.kept b11 (by simp [notInt]) hg
      replace x0 := x0.kept b11 (by simp [notInt]) hg
      replace x1 := x1.kept b11 (by simp [notInt]) hg
      replace x2 := x2.kept b11 (by simp [notInt]) hg
      replace y0 := y0.kept b11 (by simp [notInt]) hg
      replace y1 := y1.kept b11 (by simp [notInt]) hg
      replace y2 := y2.kept b11 (by simp [notInt]) hg
      replace b9 := b9.other hg (by omega)
      replace b14 := b14.other hg (by omega)
      replace b15 := b15.other hg (by omega)
      replace b11 := hB
      replace H0 := below_only H0 hg (by omega) H0.size
      clear hg hB
      refine (known5_any).mono ?_
      rintro e w18 ⟨rfl, hb⟩
      replace p0 := p0.below hb
      replace p1 := p1.below hb
      replace p2 := p2.below hb
      replace p3 := p3.below hb
      replace x0 := x0.below hb
      replace x1 := x1.below hb
      replace x2 := x2.below hb
      replace y0 := y0.below hb
      replace y1 := y1.below hb
      replace y2 := y2.below hb
      replace b9 := b9.below hb
      replace b11 := b11.below hb
      replace b14 := b14.below hb
      replace b15 := b15.below hb
      replace H0 := H0.trans (hb.mono H0.size)
      clear hb
      obtain ⟨cb90, cb91, cb92, cb93, cb94, cb95⟩ := b9.cells6
      obtain ⟨cb110, cb111, cb112, cb113, cb114, cb115⟩ := b11.cells6
      go_wp2_with fail
      clear cb90 cb91 cb92 cb93 cb94 cb95 cb110 cb111 cb112 cb113 cb114 cb115
      refine (gsamel_t x0 x1 x2 (⟨slice_nil _, rfl⟩ : NI _ false (.slice none 0 0) 0 1) (⟨slice_nil _, rfl⟩ : NI _ false (.slice none 0 0) 0 1) (⟨slice_nil _, rfl⟩ : NI _ false (.slice none 0 0) 0 1) rfl rfl rfl).mono ?_
      rintro e w19 ⟨rfl, hb⟩
      replace p0 := p0.below hb
      replace p1 := p1.below hb
      replace p2 := p2.below hb
      replace p3 := p3.below hb
      replace x0 := x0.below hb
      replace x1 := x1.below hb
      replace x2 := x2.below hb
      replace y0 := y0.below hb
      replace y1 := y1.below hb
      replace y2 := y2.below hb
      replace b9 := b9.below hb
      replace b11 := b11.below hb
      replace b14 := b14.below hb
      replace b15 := b15.below hb
      replace H0 := H0.trans (hb.mono H0.size)
      clear hb
      go_wp2_with fail
      go_returns
      exact ⟨rfl, H0⟩
    · have HE := Lib.hid he
      clear he
      have hD := drawn_below W10
      replace p0 := p0.below hD
      replace p1 := p1.below hD
      replace p2 := p2.below hD
      replace p3 := p3.below hD
      replace b9 := b9.below hD
      replace b11 := b11.below hD
      replace b14 := b14.below hD
      replace b15 := b15.below hD
      replace H0 := H0.trans (hD.mono H0.size)
      clear hD
      refine wp_region_noPanic ?_
      refine wp_region_held_drew (S := (fun V => V.cell? ⟨w9.heap.size, 0, none⟩ = some (.bool s16) ∧ V.cell? ⟨w9.heap.size, 1, none⟩ = some (.slice A16 n16 c16) ∧ V.cell? ⟨w9.heap.size, 2, none⟩ = some (.slice D16 m16 e16) ∧ V.cell? ⟨w9.heap.size, 3, none⟩ = some (.bool s17) ∧ V.cell? ⟨w9.heap.size, 4, none⟩ = some (.slice A17 n17 c17) ∧ V.cell? ⟨w9.heap.size, 5, none⟩ = some (.slice D17 m17 e17) ∧ V.cell? ⟨w9.heap.size + 1, 0, none⟩ = some (.bool s18) ∧ V.cell? ⟨w9.heap.size + 1, 1, none⟩ = some (.slice A18 n18 c18) ∧ V.cell? ⟨w9.heap.size + 1, 2, none⟩ = some (.slice D18 m18 e18) ∧ V.cell? ⟨w9.heap.size + 1, 3, none⟩ = some (.bool s19) ∧ V.cell? ⟨w9.heap.size + 1, 4, none⟩ = some (.slice A19 n19 c19) ∧ V.cell? ⟨w9.heap.size + 1, 5, none⟩ = some (.slice D19 m19 e19))) (by kernel_rfl) (b14.and6 (b15.all6)) (fun hHeld => ?_)
      generalize W10.drew = v11 at H0 hHeld p0 p1 p2 p3 b9 b11 b14 b15 ⊢
      refine tk 0 ?_ rfl (by kernel_rfl) (by kernel_rfl) (by kernel_rfl) (fun _ _ _ h => h) (by rfl) ?_ (by assumption) ?_
      rotate_left
      · (intro w hSw; (try dsimp only at hSw); go_simp; (try with_reducible rfl))
      (try simp only [getElem_toArray, getElem_cons_zero, Act.put, setIfInBounds_toArray, set_cons_zero, set_cons_succ])
      refine tk 2 ?_ rfl (by kernel_rfl) (by kernel_rfl) (by kernel_rfl) (fun _ _ _ h => h) (by rfl) ?_ (by assumption) ?_
      rotate_left
      · (intro w hSw; (try dsimp only at hSw); go_simp; (try with_reducible rfl))
      (try simp only [getElem_toArray, getElem_cons_succ, getElem_cons_zero, Act.put, setIfInBounds_toArray, set_cons_zero, set_cons_succ])
      refine rd1 1 (by kernel_rfl) rfl (fun K hK => ?_)
      go_simp
      go_at_call 19
      refine (gtop_v p0 p1 (by decide)).mono ?_
      rintro e w12 ⟨s0, A0, n0, c0, D0, m0, e0, s1, A1, n1, c1, D1, m1, e1, rfl, k0, k1, hb⟩
      replace p0 := p0.below hb
      replace p1 := p1.below hb
      replace p2 := p2.below hb
      replace p3 := p3.below hb
      replace b9 := b9.below hb
      replace b11 := b11.below hb
      replace b14 := b14.below hb
      replace b15 := b15.below hb
      replace H0 := H0.trans (hb.mono H0.size)
      clear hb
      go_wp2_with fail
      refine hK.out _ _ (b14.and6 (b15.all6)) (fun hHeld => ?_)
      clear hK K
      (try simp only [getElem_toArray, getElem_cons_succ, getElem_cons_zero, Act.put, setIfInBounds_toArray, set_cons_zero, set_cons_succ])
      refine rd1 3 (by kernel_rfl) rfl (fun K hK => ?_)
      go_simp
      go_at_call 19
      refine (gtop_v p2 p3 (by decide)).mono ?_
      rintro e w13 ⟨s2, A2, n2, c2, D2, m2, e2, s3, A3, n3, c3, D3, m3, e3, rfl, k2, k3, hb⟩
      replace p0 := p0.below hb
      replace p1 := p1.below hb
      replace p2 := p2.below hb
      replace p3 := p3.below hb
      replace k0 := k0.below hb
      replace k1 := k1.below hb
      replace b9 := b9.below hb
      replace b11 := b11.below hb
      replace b14 := b14.below hb
      replace b15 := b15.below hb
      replace H0 := H0.trans (hb.mono H0.size)
      clear hb
      go_wp2_with fail
      refine hK.out _ _ (b14.and6 (b15.all6)) (fun hHeld => ?_)
      clear hK K
      (try simp only [getElem_toArray, getElem_cons_succ, getElem_cons_zero, Act.put, setIfInBounds_toArray, set_cons_zero, set_cons_succ])
      refine rd1 4 (by kernel_rfl) rfl (fun K hK => ?_)
      go_simp
      go_at_call 18
      refine (lthrough_v k0 k1 k2 k3 HE.out (by decide)).mono ?_
      rintro e w14 ⟨t0, t1, t2, s18, A18, n18, c18, s19, A19, n19, c19, s20, A20, n20, c20, rfl, ht, x0, x1, x2, hb⟩
      replace p0 := p0.below hb
      replace p1 := p1.below hb
      replace p2 := p2.below hb
      replace p3 := p3.below hb
      replace k0 := k0.below hb
      replace k1 := k1.below hb
      replace k2 := k2.below hb
      replace k3 := k3.below hb
      replace b9 := b9.below hb
      replace b11 := b11.below hb
      replace b14 := b14.below hb
      replace b15 := b15.below hb
      replace H0 := H0.trans (hb.mono H0.size)
      clear hb
      clear k0
      clear k1
      clear k2
      clear k3
      go_wp2_with fail
      refine hK.out _ _ (b14.and6 (b15.all6)) (fun hHeld => ?_)
      clear hK K
      (try simp only [getElem_toArray, getElem_cons_succ, getElem_cons_zero, Act.put, setIfInBounds_toArray, set_cons_zero, set_cons_succ])
      refine tk 5 ?_ rfl (by kernel_rfl) (by kernel_rfl) (by kernel_rfl) (fun _ _ _ h => h) (by rfl) ?_ (by assumption) ?_
      rotate_left
      · (intro w hSw; (try dsimp only at hSw); go_simp; (try with_reducible rfl))
      (try simp only [getElem_toArray, getElem_cons_succ, getElem_cons_zero, Act.put, setIfInBounds_toArray, set_cons_zero, set_cons_succ])
      refine tk 6 ?_ rfl (by kernel_rfl) (by kernel_rfl) (by kernel_rfl) (fun _ _ _ h => h) (by rfl) ?_ (by assumption) ?_
      rotate_left
      · (intro w hSw; (try dsimp only at hSw); go_simp; (try with_reducible rfl))
      (try simp only [getElem_toArray, getElem_cons_succ, getElem_cons_zero, Act.put, setIfInBounds_toArray, set_cons_zero, set_cons_succ])
      refine tk 7 ?_ rfl (by kernel_rfl) (by kernel_rfl) (by kernel_rfl) (fun _ _ _ h => h) (by rfl) ?_ (by assumption) ?_
      rotate_left
      · (intro w hSw; (try dsimp only at hSw); go_simp; (try with_reducible rfl))
      (try simp only [getElem_toArray, getElem_cons_succ, getElem_cons_zero, Act.put, setIfInBounds_toArray, set_cons_zero, set_cons_succ])
      obtain ⟨cb90, yb90, cb91, yb91, cb92, yb92, cb93, yb93, cb94, yb94, cb95, yb95⟩ := b9.cf6
      refine rd1 8 (by kernel_rfl) rfl (fun K hK => ?_)
      go_simp
      clear cb90 yb90 cb91 yb91 cb92 yb92 cb93 yb93 cb94 yb94 cb95 yb95
      have hg := only_store6 w14 (w2.heap.size) (.bool s18) (.slice A18 n18 c18) (.bool s19) (.slice A19 n19 c19) (.bool s20) (.slice A20 n20 c20)
      have hB := b9.stored6 (.bool s18) (.slice A18 n18 c18) (.bool s19) (.slice A19 n19 c19) (.bool s20) (.slice A20 n20 c20)
      generalize hX : ((((((w14.setCell ⟨w2.heap.size, 0, none⟩ (.bool s18)).setCell ⟨w2.heap.size, 1, none⟩ (.slice A18 n18 c18)).setCell ⟨w2.heap.size, 2, none⟩ (.bool s19)).setCell ⟨w2.heap.size, 3, none⟩ (.slice A19 n19 c19)).setCell ⟨w2.heap.size, 4, none⟩ (.bool s20)).setCell ⟨w2.heap.size, 5, none⟩ (.slice A20 n20 c20)) = X15 at hg hB ⊢
      clear hX
      replace p0 := p0.kept b9 (by simp [notInt]) hg
      replace p1 := p1.kept b9 (by simp [notInt]) hg
      replace p2 := p2.kept b9 (by simp [notInt]) hg
      replace p3 := p3.kept b9 (by simp [notInt]) hg
      replace x0 := x0.kept b9 (by simp [notInt]) hg
      replace x1 := x1.kept b9 (by simp [notInt]) hg
      replace x2 := x2.kept b9 (by simp [notInt]) hg
      replace b11 := b11.other hg (by omega)
      replace b14 := b14.other hg (by omega)
      replace b15 := b15.other hg (by omega)
      replace b9 := hB
      replace H0 := below_only H0 hg (by omega) H0.size
      clear hg hB
      refine hK.out _ _ (b14.and6 (b15.all6)) (fun hHeld => ?_)
      clear hK K
      (try simp only [getElem_toArray, getElem_cons_succ, getElem_cons_zero, Act.put, setIfInBounds_toArray, set_cons_zero, set_cons_succ])
      refine tk 9 ?_ rfl (by kernel_rfl) (by kernel_rfl) (by kernel_rfl) (fun _ _ _ h => h) (by rfl) ?_ (by assumption) ?_
      rotate_left
      · (intro w hSw; (try dsimp only at hSw); go_simp; (try with_reducible rfl))
      (try simp only [getElem_toArray, getElem_cons_succ, getElem_cons_zero, Act.put, setIfInBounds_toArray, set_cons_zero, set_cons_succ])
      refine wpAnyH_done (by kernel_rfl) ?_ _
      refine NoPanic.normal ?_
      go_wp2_with fail
      obtain ⟨cb140, cb141, cb142, cb143, cb144, cb145⟩ := b14.cells6
      obtain ⟨cb150, cb151, cb152, cb153, cb154, cb155⟩ := b15.cells6
      go_wp2_with fail
      clear cb140 cb141 cb142 cb143 cb144 cb145 cb150 cb151 cb152 cb153 cb154 cb155
      refine (gthrough_v (p0.more (by decide)) (p1.more (by decide)) (p2.more (by decide)) (p3.more (by decide)) HE.out).mono ?_
      rintro e w16 ⟨t0', t1', t2', s21, A21, n21, c21, s22, A22, n22, c22, s23, A23, n23, c23, rfl, ht', y0, y1, y2, hb⟩
      replace p0 := p0.below hb
      replace p1 := p1.below hb
      replace p2 := p2.below hb
      replace p3 := p3.below hb
      replace x0 := x0.below hb
      replace x1 := x1.below hb
      replace x2 := x2.below hb
      replace b9 := b9.below hb
      replace b11 := b11.below hb
      replace b14 := b14.below hb
      replace b15 := b15.below hb
      replace H0 := H0.trans (hb.mono H0.size)
      clear hb
      obtain ⟨cb110, yb110, cb111, yb111, cb112, yb112, cb113, yb113, cb114, yb114, cb115, yb115⟩ := b11.cf6
      go_wp2_with fail
      clear cb110 yb110 cb111 yb111 cb112 yb112 cb113 yb113 cb114 yb114 cb115 yb115
      have hg := only_store6 w16 (g4_0) (.bool s21) (.slice A21 n21 c21) (.bool s22) (.slice A22 n22 c22) (.bool s23) (.slice A23 n23 c23)
      have hB := b11.stored6 (.bool s21) (.slice A21 n21 c21) (.bool s22) (.slice A22 n22 c22) (.bool s23) (.slice A23 n23 c23)
      generalize hX : ((((((w16.setCell ⟨g4_0, 0, none⟩ (.bool s21)).setCell ⟨g4_0, 1, none⟩ (.slice A21 n21 c21)).setCell ⟨g4_0, 2, none⟩ (.bool s22)).setCell ⟨g4_0, 3, none⟩ (.slice A22 n22 c22)).setCell ⟨g4_0, 4, none⟩ (.bool s23)).setCell ⟨g4_0, 5, none⟩ (.slice A23 n23 c23)) = X17 at hg hB ⊢
      clear hX
      replace p0 := p0.kept b11 (by simp [notInt]) hg
      replace p1 := p1.kept b11 (by simp [notInt]) hg
      replace p2 := p2.kept b11 (by simp [notInt]) hg
      replace p3 := p3.kept b11 (by simp [notInt]) hg
      replace x0 := x0.kept b11 (by simp [notInt]) hg
      replace x1 := x1.kept b11 (by simp [notInt]) hg
      replace x2 := x2.kept b11 (by simp [notInt]) hg
      replace y0 := y0.kept b11 (by simp [notInt]) hg
      replace y1 := y1.kept b11 (by simp [notInt]) hg
      replace y2 := y2.kept b11 (by simp [notInt]) hg
      replace b9 := b9.other hg (by omega)
      replace b14 := b14.other hg (by omega)
      replace b15 := b15.other hg (by omega)
      replace b11 := hB
      replace H0 := below_only H0 hg (by omega) H0.size
      clear hg hB
      refine (known5_any).mono ?_
      rintro e w18 ⟨rfl, hb⟩
      replace p0 := p0.below hb
      replace p1 := p1.below hb
      replace p2 := p2.below hb
      replace p3 := p3.below hb
      replace x0 := x0.below hb
      replace x1 := x1.below hb
      replace x2 := x2.below hb
      replace y0 := y0.below hb
      replace y1 := y1.below hb
      replace y2 := y2.below hb
      replace b9 := b9.below hb
      replace b11 := b11.below hb
      replace b14 := b14.below hb
      replace b15 := b15.below hb
      replace H0 := H0.trans (hb.mono H0.size)
      clear hb
      obtain ⟨cb90, cb91, cb92, cb93, cb94, cb95⟩ := b9.cells6
      obtain ⟨cb110, cb111, cb112, cb113, cb114, cb115⟩ := b11.cells6
      go_wp2_with fail
      obtain ⟨e1, e2, e3⟩ := thr_pr ht ht'
      clear cb90 cb91 cb92 cb93 cb94 cb95 cb110 cb111 cb112 cb113 cb114 cb115
      refine (lsame_t x0 x1 x2 y0 y1 y2 e1 e2 e3 (by decide)).mono ?_
      rintro e w19 ⟨rfl, hb⟩
      replace p0 := p0.below hb
      replace p1 := p1.below hb
      replace p2 := p2.below hb
      replace p3 := p3.below hb
      replace x0 := x0.below hb
      replace x1 := x1.below hb
      replace x2 := x2.below hb
      replace y0 := y0.below hb
      replace y1 := y1.below hb
      replace y2 := y2.below hb
      replace b9 := b9.below hb
      replace b11 := b11.below hb
      replace b14 := b14.below hb
      replace b15 := b15.below hb
      replace H0 := H0.trans (hb.mono H0.size)
      clear hb
      go_wp2_with fail
      go_returns
      exact ⟨rfl, H0⟩
  · have HZ := Lib.hid hz
    clear hz
    refine (lnew_v h0 h1 h2 HZ.out (by decide)).mono ?_
    rintro e w2 ⟨s18, A18, n18, c18, s19, A19, n19, c19, s20, A20, n20, c20, rfl, x0, x1, x2, hb⟩
    replace h0 := h0.below hb
    replace h1 := h1.below hb
    replace h2 := h2.below hb
    replace b0 := b0.below hb
    replace b1 := b1.below hb
    replace b2 := b2.below hb
    replace H0 := H0.trans (hb.mono H0.size)
    clear hb
    have lb0_3 := b0.lt
    have lb1_3 := b1.lt
    have lb2_3 := b2.lt
    obtain ⟨W3, hW, b9, hbW, hszW3⟩ := boxes1 w2 #[.bool s18, .slice A18 n18 c18, .bool s19, .slice A19 n19 c19, .bool s20, .slice A20 n20 c20] 30
    skip
    skip
    replace h0 := h0.below hbW
    replace h1 := h1.below hbW
    replace h2 := h2.below hbW
    replace x0 := x0.below hbW
    replace x1 := x1.below hbW
    replace x2 := x2.below hbW
    replace b0 := b0.below hbW
    replace b1 := b1.below hbW
    replace b2 := b2.below hbW
    replace H0 := H0.trans (hbW.mono H0.size)
    clear hbW
    obtain ⟨cb00, cb01⟩ := b0.cells2
    obtain ⟨cb10, cb11⟩ := b1.cells2
    obtain ⟨cb20, cb21⟩ := b2.cells2
    go_wp2_with fail
    clear hW
    clear hszW3
    clear cb00 cb01 cb10 cb11 cb20 cb21
    have lcb0_4 := b0.lt
    have lcb1_4 := b1.lt
    have lcb2_4 := b2.lt
    have lcb9_4 := b9.lt
    go_cut [11, 12] from 13 (fun u4_0 _x0 wx => ∃ g4_0 s21 A21 n21 c21 s22 A22 n22 c22 s23 A23 n23 c23, u4_0 = .pointer (some ⟨g4_0, 0, none⟩) ∧ _x0 = .bool true ∧ NI wx s21 (.slice A21 n21 c21) (pr z0 z0 z1 z2) 5 ∧ NI wx s22 (.slice A22 n22 c22) (pr z1 z0 z1 z2) 5 ∧ NI wx s23 (.slice A23 n23 c23) (pr z2 z0 z1 z2) 5 ∧ Box wx g4_0 #[.bool s21, .slice A21 n21 c21, .bool s22, .slice A22 n22 c22, .bool s23, .slice A23 n23 c23] 37 ∧ W3.heap.size ≤ g4_0 ∧ Below W3.heap.size W3 wx)
    case first =>
      have hG := drawn_below W3
      refine wp_region_noPanic ?_
      refine wp_region_held_drew (S := (fun V => V.cell? ⟨w.heap.size, 0, none⟩ = some (.bool s0) ∧ V.cell? ⟨w.heap.size, 1, none⟩ = some (.slice A0 n0 c0) ∧ V.cell? ⟨w.heap.size + 1, 0, none⟩ = some (.bool s1) ∧ V.cell? ⟨w.heap.size + 1, 1, none⟩ = some (.slice A1 n1 c1) ∧ V.cell? ⟨w.heap.size + 1 + 1, 0, none⟩ = some (.bool s2) ∧ V.cell? ⟨w.heap.size + 1 + 1, 1, none⟩ = some (.slice A2 n2 c2))) (by kernel_rfl) ((b0.below hG).and2 ((b1.below hG).and2 ((b2.below hG).all2))) (fun hHeld => ?_)
      generalize W3.drew = v4 at hG hHeld ⊢
      have sG := hG.size
      refine tk 0 ?_ rfl (by kernel_rfl) (by kernel_rfl) (by kernel_rfl) (fun _ _ _ h => h) (by rfl) ?_ (by assumption) ?_
      rotate_left
      · (intro w hSw; (try dsimp only at hSw); go_simp; (try with_reducible rfl))
      (try simp only [getElem_toArray, getElem_cons_zero, Act.put, setIfInBounds_toArray, set_cons_zero, set_cons_succ])
      refine tk 2 ?_ rfl (by kernel_rfl) (by kernel_rfl) (by kernel_rfl) (fun _ _ _ h => h) (by rfl) ?_ (by assumption) ?_
      rotate_left
      · (intro w hSw; (try dsimp only at hSw); go_simp; (try with_reducible rfl))
      (try simp only [getElem_toArray, getElem_cons_succ, getElem_cons_zero, Act.put, setIfInBounds_toArray, set_cons_zero, set_cons_succ])
      refine tk 4 ?_ rfl (by kernel_rfl) (by kernel_rfl) (by kernel_rfl) (fun _ _ _ h => h) (by rfl) ?_ (by assumption) ?_
      rotate_left
      · (intro w hSw; (try dsimp only at hSw); go_simp; (try with_reducible rfl))
      (try simp only [getElem_toArray, getElem_cons_succ, getElem_cons_zero, Act.put, setIfInBounds_toArray, set_cons_zero, set_cons_succ])
      refine wpAnyH_ready (rs := [1, 10]) (by kernel_rfl) (by simp) (AllReadyH.cons (o := _) rfl (fun K hK => ?_) (AllReadyH.cons (o := _) rfl (fun K hK => ?_) AllReadyH.nil))
      · go_simp
        go_at_call 13
        refine (refI_v (h0.below hG)).mono ?_
        rintro e y4_1 ⟨s3, A3, n3, c3, rfl, m0, hb9⟩
        have szy4_1 := hb9.size
        replace hG := hG.trans (hb9.mono sG)
        replace sG := hG.size
        clear hb9
        go_wp2_with fail
        refine hK.out _ _ ((b0.below hG).and2 ((b1.below hG).and2 ((b2.below hG).all2))) (fun hHeld => ?_)
        clear hK K
        (try simp only [getElem_toArray, getElem_cons_succ, getElem_cons_zero, Act.put, setIfInBounds_toArray, set_cons_zero, set_cons_succ])
        refine wpAnyH_ready (rs := [3, 10]) (by kernel_rfl) (by simp) (AllReadyH.cons (o := _) rfl (fun K hK => ?_) (AllReadyH.cons (o := _) rfl (fun K hK => ?_) AllReadyH.nil))
        · go_simp
          go_at_call 13
          refine (refI_v (h1.below hG)).mono ?_
          rintro e y4_2 ⟨s4, A4, n4, c4, rfl, m1, hb9⟩
          have szy4_2 := hb9.size
          replace m0 := m0.below hb9
          replace hG := hG.trans (hb9.mono sG)
          replace sG := hG.size
          clear hb9
          go_wp2_with fail
          refine hK.out _ _ ((b0.below hG).and2 ((b1.below hG).and2 ((b2.below hG).all2))) (fun hHeld => ?_)
          clear hK K
          (try simp only [getElem_toArray, getElem_cons_succ, getElem_cons_zero, Act.put, setIfInBounds_toArray, set_cons_zero, set_cons_succ])
          refine wpAnyH_ready (rs := [5, 10]) (by kernel_rfl) (by simp) (AllReadyH.cons (o := _) rfl (fun K hK => ?_) (AllReadyH.cons (o := _) rfl (fun K hK => ?_) AllReadyH.nil))
          · go_simp
            go_at_call 13
            refine (refI_v (h2.below hG)).mono ?_
            rintro e y4_3 ⟨s5, A5, n5, c5, rfl, m2, hb9⟩
            have szy4_3 := hb9.size
            replace m0 := m0.below hb9
            replace m1 := m1.below hb9
            replace hG := hG.trans (hb9.mono sG)
            replace sG := hG.size
            clear hb9
            go_wp2_with fail
            refine hK.out _ _ ((b0.below hG).and2 ((b1.below hG).and2 ((b2.below hG).all2))) (fun hHeld => ?_)
            clear hK K
            (try simp only [getElem_toArray, getElem_cons_succ, getElem_cons_zero, Act.put, setIfInBounds_toArray, set_cons_zero, set_cons_succ])
            refine wpAnyH_ready (rs := [6, 10]) (by kernel_rfl) (by simp) (AllReadyH.cons (o := _) rfl (fun K hK => ?_) (AllReadyH.cons (o := _) rfl (fun K hK => ?_) AllReadyH.nil))
            · go_simp
              go_at_call 12
              refine (gmakel_v m0 m1 m2 HZ.out (by decide)).mono ?_
              rintro e y4_4 ⟨s21, A21, n21, c21, s22, A22, n22, c22, s23, A23, n23, c23, rfl, y0, y1, y2, hb9⟩
              have szy4_4 := hb9.size
              replace m0 := m0.below hb9
              replace m1 := m1.below hb9
              replace m2 := m2.below hb9
              replace hG := hG.trans (hb9.mono sG)
              replace sG := hG.size
              clear hb9
              clear m0
              clear m1
              clear m2
              go_wp2_with fail
              refine hK.out _ _ ((b0.below hG).and2 ((b1.below hG).and2 ((b2.below hG).all2))) (fun hHeld => ?_)
              clear hK K
              (try simp only [getElem_toArray, getElem_cons_succ, getElem_cons_zero, Act.put, setIfInBounds_toArray, set_cons_zero, set_cons_succ])
              refine tk 7 ?_ rfl (by kernel_rfl) (by kernel_rfl) (by kernel_rfl) (fun _ _ _ h => h) (by rfl) ?_ (by assumption) ?_
              rotate_left
              · (intro w hSw; (try dsimp only at hSw); go_simp; (try with_reducible rfl))
              (try simp only [getElem_toArray, getElem_cons_succ, getElem_cons_zero, Act.put, setIfInBounds_toArray, set_cons_zero, set_cons_succ])
              refine tk 8 ?_ rfl (by kernel_rfl) (by kernel_rfl) (by kernel_rfl) (fun _ _ _ h => h) (by rfl) ?_ (by assumption) ?_
              rotate_left
              · (intro w hSw; (try dsimp only at hSw); go_simp; (try with_reducible rfl))
              (try simp only [getElem_toArray, getElem_cons_succ, getElem_cons_zero, Act.put, setIfInBounds_toArray, set_cons_zero, set_cons_succ])
              refine tk 9 ?_ rfl (by kernel_rfl) (by kernel_rfl) (by kernel_rfl) (fun _ _ _ h => h) (by rfl) ?_ (by assumption) ?_
              rotate_left
              · (intro w hSw; (try dsimp only at hSw); go_simp; (try with_reducible rfl))
              (try simp only [getElem_toArray, getElem_cons_succ, getElem_cons_zero, Act.put, setIfInBounds_toArray, set_cons_zero, set_cons_succ])
              refine rd1 10 (by kernel_rfl) rfl (fun K hK => ?_)
              go_simp
              obtain ⟨y4_5, hV, b11, hb9, szy4_5⟩ := boxes1 y4_4 #[.bool false, .slice none 0 0, .bool false, .slice none 0 0, .bool false, .slice none 0 0] 37
              rw [hV]
              clear hV
              have gly4_5 : W3.heap.size ≤ y4_4.heap.size := sG
              replace szy4_5 : y4_4.heap.size < y4_5.heap.size := by omega
              replace y0 := y0.below hb9
              replace y1 := y1.below hb9
              replace y2 := y2.below hb9
              replace hG := hG.trans (hb9.mono sG)
              replace sG := hG.size
              clear hb9
              refine hK.out _ _ ((b0.below hG).and2 ((b1.below hG).and2 ((b2.below hG).all2))) (fun hHeld => ?_)
              clear hK K
              (try simp only [getElem_toArray, getElem_cons_succ, getElem_cons_zero, Act.put, setIfInBounds_toArray, set_cons_zero, set_cons_succ])
              have rb110 := b11.cell 0 _ rfl
              have qb110 := b11.frozen 0
              have rb111 := b11.cell 1 _ rfl
              have qb111 := b11.frozen 1
              have rb112 := b11.cell 2 _ rfl
              have qb112 := b11.frozen 2
              have rb113 := b11.cell 3 _ rfl
              have qb113 := b11.frozen 3
              have rb114 := b11.cell 4 _ rfl
              have qb114 := b11.frozen 4
              have rb115 := b11.cell 5 _ rfl
              have qb115 := b11.frozen 5
              refine rd1 11 (by kernel_rfl) rfl (fun K hK => ?_)
              go_simp
              clear rb110 qb110
              clear rb111 qb111
              clear rb112 qb112
              clear rb113 qb113
              clear rb114 qb114
              clear rb115 qb115
              have hg := only_store6 y4_5 (y4_4.heap.size) (.bool s21) (.slice A21 n21 c21) (.bool s22) (.slice A22 n22 c22) (.bool s23) (.slice A23 n23 c23)
              have hB := b11.stored6 (.bool s21) (.slice A21 n21 c21) (.bool s22) (.slice A22 n22 c22) (.bool s23) (.slice A23 n23 c23)
              generalize hX : ((((((y4_5.setCell ⟨y4_4.heap.size, 0, none⟩ (.bool s21)).setCell ⟨y4_4.heap.size, 1, none⟩ (.slice A21 n21 c21)).setCell ⟨y4_4.heap.size, 2, none⟩ (.bool s22)).setCell ⟨y4_4.heap.size, 3, none⟩ (.slice A22 n22 c22)).setCell ⟨y4_4.heap.size, 4, none⟩ (.bool s23)).setCell ⟨y4_4.heap.size, 5, none⟩ (.slice A23 n23 c23)) = Y4_6 at hg hB ⊢
              clear hX
              replace y0 := y0.kept b11 (by simp [notInt]) hg
              replace y1 := y1.kept b11 (by simp [notInt]) hg
              replace y2 := y2.kept b11 (by simp [notInt]) hg
              replace b11 := hB
              replace hG := below_only hG hg (by omega) sG
              replace sG := hG.size
              clear hg hB
              refine hK.out _ _ ((b0.below hG).and2 ((b1.below hG).and2 ((b2.below hG).all2))) (fun hHeld => ?_)
              clear hK K
              (try simp only [getElem_toArray, getElem_cons_succ, getElem_cons_zero, Act.put, setIfInBounds_toArray, set_cons_zero, set_cons_succ])
              refine tk 12 ?_ rfl (by kernel_rfl) (by kernel_rfl) (by kernel_rfl) (fun _ _ _ h => h) (by rfl) ?_ (by assumption) ?_
              rotate_left
              · (intro w hSw; (try dsimp only at hSw); go_simp; (try with_reducible rfl))
              (try simp only [getElem_toArray, getElem_cons_succ, getElem_cons_zero, Act.put, setIfInBounds_toArray, set_cons_zero, set_cons_succ])
              refine wpAnyH_done (by kernel_rfl) ?_ _
              refine NoPanic.normal ?_
              go_wp2_with fail
              go_meet
              exact ⟨y4_4.heap.size, s21, A21, n21, c21, s22, A22, n22, c22, s23, A23, n23, c23, rfl, rfl, y0, y1, y2, b11, (by omega), hG⟩
            · go_simp
              obtain ⟨y4_7, hV, b11, hb9, szy4_7⟩ := boxes1 y4_3 #[.bool false, .slice none 0 0, .bool false, .slice none 0 0, .bool false, .slice none 0 0] 37
              rw [hV]
              clear hV
              have gly4_7 : W3.heap.size ≤ y4_3.heap.size := sG
              replace szy4_7 : y4_3.heap.size < y4_7.heap.size := by omega
              replace m0 := m0.below hb9
              replace m1 := m1.below hb9
              replace m2 := m2.below hb9
              replace hG := hG.trans (hb9.mono sG)
              replace sG := hG.size
              clear hb9
              refine hK.out _ _ ((b0.below hG).and2 ((b1.below hG).and2 ((b2.below hG).all2))) (fun hHeld => ?_)
              clear hK K
              (try simp only [getElem_toArray, getElem_cons_succ, getElem_cons_zero, Act.put, setIfInBounds_toArray, set_cons_zero, set_cons_succ])
              refine rd1 6 (by kernel_rfl) rfl (fun K hK => ?_)
              go_simp
              go_at_call 12
              refine (gmakel_v m0 m1 m2 HZ.out (by decide)).mono ?_
              rintro e y4_8 ⟨s21, A21, n21, c21, s22, A22, n22, c22, s23, A23, n23, c23, rfl, y0, y1, y2, hb9⟩
              have szy4_8 := hb9.size
              replace m0 := m0.below hb9
              replace m1 := m1.below hb9
              replace m2 := m2.below hb9
              replace b11 := b11.below hb9
              replace hG := hG.trans (hb9.mono sG)
              replace sG := hG.size
              clear hb9
              clear m0
              clear m1
              clear m2
              go_wp2_with fail
              refine hK.out _ _ ((b0.below hG).and2 ((b1.below hG).and2 ((b2.below hG).all2))) (fun hHeld => ?_)
              clear hK K
              (try simp only [getElem_toArray, getElem_cons_succ, getElem_cons_zero, Act.put, setIfInBounds_toArray, set_cons_zero, set_cons_succ])
              refine tk 7 ?_ rfl (by kernel_rfl) (by kernel_rfl) (by kernel_rfl) (fun _ _ _ h => h) (by rfl) ?_ (by assumption) ?_
              rotate_left
              · (intro w hSw; (try dsimp only at hSw); go_simp; (try with_reducible rfl))
              (try simp only [getElem_toArray, getElem_cons_succ, getElem_cons_zero, Act.put, setIfInBounds_toArray, set_cons_zero, set_cons_succ])
              refine tk 8 ?_ rfl (by kernel_rfl) (by kernel_rfl) (by kernel_rfl) (fun _ _ _ h => h) (by rfl) ?_ (by assumption) ?_
              rotate_left
              · (intro w hSw; (try dsimp only at hSw); go_simp; (try with_reducible rfl))
              (try simp only [getElem_toArray, getElem_cons_succ, getElem_cons_zero, Act.put, setIfInBounds_toArray, set_cons_zero, set_cons_succ])
              refine tk 9 ?_ rfl (by kernel_rfl) (by kernel_rfl) (by kernel_rfl) (fun _ _ _ h => h) (by rfl) ?_ (by assumption) ?_
              rotate_left
              · (intro w hSw; (try dsimp only at hSw); go_simp; (try with_reducible rfl))
              (try simp only [getElem_toArray, getElem_cons_succ, getElem_cons_zero, Act.put, setIfInBounds_toArray, set_cons_zero, set_cons_succ])
              have rb110 := b11.cell 0 _ rfl
              have qb110 := b11.frozen 0
              have rb111 := b11.cell 1 _ rfl
              have qb111 := b11.frozen 1
              have rb112 := b11.cell 2 _ rfl
              have qb112 := b11.frozen 2
              have rb113 := b11.cell 3 _ rfl
              have qb113 := b11.frozen 3
              have rb114 := b11.cell 4 _ rfl
              have qb114 := b11.frozen 4
              have rb115 := b11.cell 5 _ rfl
              have qb115 := b11.frozen 5
              refine rd1 11 (by kernel_rfl) rfl (fun K hK => ?_)
              go_simp
              clear rb110 qb110
              clear rb111 qb111
              clear rb112 qb112
              clear rb113 qb113
              clear rb114 qb114
              clear rb115 qb115
              have hg := only_store6 y4_8 (y4_3.heap.size) (.bool s21) (.slice A21 n21 c21) (.bool s22) (.slice A22 n22 c22) (.bool s23) (.slice A23 n23 c23)
              have hB := b11.stored6 (.bool s21) (.slice A21 n21 c21) (.bool s22) (.slice A22 n22 c22) (.bool s23) (.slice A23 n23 c23)
              generalize hX : ((((((y4_8.setCell ⟨y4_3.heap.size, 0, none⟩ (.bool s21)).setCell ⟨y4_3.heap.size, 1, none⟩ (.slice A21 n21 c21)).setCell ⟨y4_3.heap.size, 2, none⟩ (.bool s22)).setCell ⟨y4_3.heap.size, 3, none⟩ (.slice A22 n22 c22)).setCell ⟨y4_3.heap.size, 4, none⟩ (.bool s23)).setCell ⟨y4_3.heap.size, 5, none⟩ (.slice A23 n23 c23)) = Y4_9 at hg hB ⊢
              clear hX
              replace y0 := y0.kept b11 (by simp [notInt]) hg
              replace y1 := y1.kept b11 (by simp [notInt]) hg
              replace y2 := y2.kept b11 (by simp [notInt]) hg
              replace b11 := hB
              replace hG := below_only hG hg (by omega) sG
              replace sG := hG.size
              clear hg hB
              refine hK.out _ _ ((b0.below hG).and2 ((b1.below hG).and2 ((b2.below hG).all2))) (fun hHeld => ?_)
              clear hK K
              (try simp only [getElem_toArray, getElem_cons_succ, getElem_cons_zero, Act.put, setIfInBounds_toArray, set_cons_zero, set_cons_succ])
              refine tk 12 ?_ rfl (by kernel_rfl) (by kernel_rfl) (by kernel_rfl) (fun _ _ _ h => h) (by rfl) ?_ (by assumption) ?_
              rotate_left
              · (intro w hSw; (try dsimp only at hSw); go_simp; (try with_reducible rfl))
              (try simp only [getElem_toArray, getElem_cons_succ, getElem_cons_zero, Act.put, setIfInBounds_toArray, set_cons_zero, set_cons_succ])
              refine wpAnyH_done (by kernel_rfl) ?_ _
              refine NoPanic.normal ?_
              go_wp2_with fail
              go_meet
              exact ⟨y4_3.heap.size, s21, A21, n21, c21, s22, A22, n22, c22, s23, A23, n23, c23, rfl, rfl, y0, y1, y2, b11, (by omega), hG⟩
          · go_simp
            obtain ⟨y4_10, hV, b11, hb9, szy4_10⟩ := boxes1 y4_2 #[.bool false, .slice none 0 0, .bool false, .slice none 0 0, .bool false, .slice none 0 0] 37
            rw [hV]
            clear hV
            have gly4_10 : W3.heap.size ≤ y4_2.heap.size := sG
            replace szy4_10 : y4_2.heap.size < y4_10.heap.size := by omega
            replace m0 := m0.below hb9
            replace m1 := m1.below hb9
            replace hG := hG.trans (hb9.mono sG)
            replace sG := hG.size
            clear hb9
            refine hK.out _ _ ((b0.below hG).and2 ((b1.below hG).and2 ((b2.below hG).all2))) (fun hHeld => ?_)
            clear hK K
            (try simp only [getElem_toArray, getElem_cons_succ, getElem_cons_zero, Act.put, setIfInBounds_toArray, set_cons_zero, set_cons_succ])
            refine rd1 5 (by kernel_rfl) rfl (fun K hK => ?_)
            go_simp
            go_at_call 13
            refine (refI_v (h2.below hG)).mono ?_
            rintro e y4_11 ⟨s5, A5, n5, c5, rfl, m2, hb9⟩
            have szy4_11 := hb9.size
            replace m0 := m0.below hb9
            replace m1 := m1.below hb9
            replace b11 := b11.below hb9
            replace hG := hG.trans (hb9.mono sG)
            replace sG := hG.size
            clear hb9
            go_wp2_with fail
            refine hK.out _ _ ((b0.below hG).and2 ((b1.below hG).and2 ((b2.below hG).all2))) (fun hHeld => ?_)
            clear hK K
            (try simp only [getElem_toArray, getElem_cons_succ, getElem_cons_zero, Act.put, setIfInBounds_toArray, set_cons_zero, set_cons_succ])
            refine rd1 6 (by kernel_rfl) rfl (fun K hK => ?_)
            go_simp
            go_at_call 12
            refine (gmakel_v m0 m1 m2 HZ.out (by decide)).mono ?_
            rintro e y4_12 ⟨s21, A21, n21, c21, s22, A22, n22, c22, s23, A23, n23, c23, rfl, y0, y1, y2, hb9⟩
            have szy4_12 := hb9.size
            replace m0 := m0.below hb9
            replace m1 := m1.below hb9
            replace m2 := m2.below hb9
            replace b11 := b11.below hb9
            replace hG := hG.trans (hb9.mono sG)
            replace sG := hG.size
            clear hb9
            clear m0
            clear m1
            clear m2
            go_wp2_with fail
            refine hK.out _ _ ((b0.below hG).and2 ((b1.below hG).and2 ((b2.below hG).all2))) (fun hHeld => ?_)
            clear hK K
            (try simp only [getElem_toArray, getElem_cons_succ, getElem_cons_zero, Act.put, setIfInBounds_toArray, set_cons_zero, set_cons_succ])
            refine tk 7 ?_ rfl (by kernel_rfl) (by kernel_rfl) (by kernel_rfl) (fun _ _ _ h => h) (by rfl) ?_ (by assumption) ?_
            rotate_left
            · (intro w hSw; (try dsimp only at hSw); go_simp; (try with_reducible rfl))
            (try simp only [getElem_toArray, getElem_cons_succ, getElem_cons_zero, Act.put, setIfInBounds_toArray, set_cons_zero, set_cons_succ])
            refine tk 8 ?_ rfl (by kernel_rfl) (by kernel_rfl) (by kernel_rfl) (fun _ _ _ h => h) (by rfl) ?_ (by assumption) ?_
            rotate_left
            · (intro w hSw; (try dsimp only at hSw); go_simp; (try with_reducible rfl))
            (try simp only [getElem_toArray, getElem_cons_succ, getElem_cons_zero, Act.put, setIfInBounds_toArray, set_cons_zero, set_cons_succ])
            refine tk 9 ?_ rfl (by kernel_rfl) (by kernel_rfl) (by kernel_rfl) (fun _ _ _ h => h) (by rfl) ?_ (by assumption) ?_
            rotate_left
            · (intro w hSw; (try dsimp only at hSw); go_simp; (try with_reducible rfl))
            (try simp only [getElem_toArray, getElem_cons_succ, getElem_cons_zero, Act.put, setIfInBounds_toArray, set_cons_zero, set_cons_succ])
            have rb110 := b11.cell 0 _ rfl
            have qb110 := b11.frozen 0
            have rb111 := b11.cell 1 _ rfl
            have qb111 := b11.frozen 1
            have rb112 := b11.cell 2 _ rfl
            have qb112 := b11.frozen 2
            have rb113 := b11.cell 3 _ rfl
            have qb113 := b11.frozen 3
            have rb114 := b11.cell 4 _ rfl
            have qb114 := b11.frozen 4
            have rb115 := b11.cell 5 _ rfl
            have qb115 := b11.frozen 5
            refine rd1 11 (by kernel_rfl) rfl (fun K hK => ?_)
            go_simp
            clear rb110 qb110
            clear rb111 qb111
            clear rb112 qb112
            clear rb113 qb113
            clear rb114 qb114
            clear rb115 qb115
            have hg := only_store6 y4_12 (y4_2.heap.size) (.bool s21) (.slice A21 n21 c21) (.bool s22) (.slice A22 n22 c22) (.bool s23) (.slice A23 n23 c23)
            have hB := b11.stored6 (.bool s21) (.slice A21 n21 c21) (.bool s22) (.slice A22 n22 c22) (.bool s23) (.slice A23 n23 c23)
            generalize hX : ((((((y4_12.setCell ⟨y4_2.heap.size, 0, none⟩ (.bool s21)).setCell ⟨y4_2.heap.size, 1, none⟩ (.slice A21 n21 c21)).setCell ⟨y4_2.heap.size, 2, none⟩ (.bool s22)).setCell ⟨y4_2.heap.size, 3, none⟩ (.slice A22 n22 c22)).setCell ⟨y4_2.heap.size, 4, none⟩ (.bool s23)).setCell ⟨y4_2.heap.size, 5, none⟩ (.slice A23 n23 c23)) = Y4_13 at hg hB ⊢
            clear hX
            replace y0 := y0.kept b11 (by simp [notInt]) hg
            replace y1 := y1.kept b11 (by simp [notInt]) hg
            replace y2 := y2.kept b11 (by simp [notInt]) hg
            replace b11 := hB
            replace hG := below_only hG hg (by omega) sG
            replace sG := hG.size
            clear hg hB
            refine hK.out _ _ ((b0.below hG).and2 ((b1.below hG).and2 ((b2.below hG).all2))) (fun hHeld => ?_)
            clear hK K
            (try simp only [getElem_toArray, getElem_cons_succ, getElem_cons_zero, Act.put, setIfInBounds_toArray, set_cons_zero, set_cons_succ])
            refine tk 12 ?_ rfl (by kernel_rfl) (by kernel_rfl) (by kernel_rfl) (fun _ _ _ h => h) (by rfl) ?_ (by assumption) ?_
            rotate_left
            · (intro w hSw; (try dsimp only at hSw); go_simp; (try with_reducible rfl))
            (try simp only [getElem_toArray, getElem_cons_succ, getElem_cons_zero, Act.put, setIfInBounds_toArray, set_cons_zero, set_cons_succ])
            refine wpAnyH_done (by kernel_rfl) ?_ _
            refine NoPanic.normal ?_
            go_wp2_with fail
            go_meet
            exact ⟨y4_2.heap.size, s21, A21, n21, c21, s22, A22, n22, c22, s23, A23, n23, c23, rfl, rfl, y0, y1, y2, b11, (by omega), hG⟩
        · go_simp
          obtain ⟨y4_14, hV, b11, hb9, szy4_14⟩ := boxes1 y4_1 #[.bool false, .slice none 0 0, .bool false, .slice none 0 0, .bool false, .slice none 0 0] 37
          rw [hV]
          clear hV
          have gly4_14 : W3.heap.size ≤ y4_1.heap.size := sG
          replace szy4_14 : y4_1.heap.size < y4_14.heap.size := by omega
          replace m0 := m0.below hb9
          replace hG := hG.trans (hb9.mono sG)
          replace sG := hG.size
          clear hb9
          refine hK.out _ _ ((b0.below hG).and2 ((b1.below hG).and2 ((b2.below hG).all2))) (fun hHeld => ?_)
          clear hK K
          (try simp only [getElem_toArray, getElem_cons_succ, getElem_cons_zero, Act.put, setIfInBounds_toArray, set_cons_zero, set_cons_succ])
          refine rd1 3 (by kernel_rfl) rfl (fun K hK => ?_)
          go_simp
          go_at_call 13
          refine (refI_v (h1.below hG)).mono ?_
          rintro e y4_15 ⟨s4, A4, n4, c4, rfl, m1, hb9⟩
          have szy4_15 := hb9.size
          replace m0 := m0.below hb9
          replace b11 := b11.below hb9
          replace hG := hG.trans (hb9.mono sG)
          replace sG := hG.size
          clear hb9
          go_wp2_with fail
          refine hK.out _ _ ((b0.below hG).and2 ((b1.below hG).and2 ((b2.below hG).all2))) (fun hHeld => ?_)
          clear hK K
          (try simp only [getElem_toArray, getElem_cons_succ, getElem_cons_zero, Act.put, setIfInBounds_toArray, set_cons_zero, set_cons_succ])
          refine rd1 5 (by kernel_rfl) rfl (fun K hK => ?_)
          go_simp
          go_at_call 13
          refine (refI_v (h2.below hG)).mono ?_
          rintro e y4_16 ⟨s5, A5, n5, c5, rfl, m2, hb9⟩
          have szy4_16 := hb9.size
          replace m0 := m0.below hb9
          replace m1 := m1.below hb9
          replace b11 := b11.below hb9
          replace hG := hG.trans (hb9.mono sG)
          replace sG := hG.size
          clear hb9
          go_wp2_with fail
          refine hK.out _ _ ((b0.below hG).and2 ((b1.below hG).and2 ((b2.below hG).all2))) (fun hHeld => ?_)
          clear hK K
          (try simp only [getElem_toArray, getElem_cons_succ, getElem_cons_zero, Act.put, setIfInBounds_toArray, set_cons_zero, set_cons_succ])
          refine rd1 6 (by kernel_rfl) rfl (fun K hK => ?_)
          go_simp
          go_at_call 12
          refine (gmakel_v m0 m1 m2 HZ.out (by decide)).mono ?_
          rintro e y4_17 ⟨s21, A21, n21, c21, s22, A22, n22, c22, s23, A23, n23, c23, rfl, y0, y1, y2, hb9⟩
          have szy4_17 := hb9.size
          replace m0 := m0.below hb9
          replace m1 := m1.below hb9
          replace m2 := m2.below hb9
          replace b11 := b11.below hb9
          replace hG := hG.trans (hb9.mono sG)
          replace sG := hG.size
          clear hb9
          clear m0
          clear m1
          clear m2
          go_wp2_with fail
          refine hK.out _ _ ((b0.below hG).and2 ((b1.below hG).and2 ((b2.below hG).all2))) (fun hHeld => ?_)
          clear hK K
          (try simp only [getElem_toArray, getElem_cons_succ, getElem_cons_zero, Act.put, setIfInBounds_toArray, set_cons_zero, set_cons_succ])
          refine tk 7 ?_ rfl (by kernel_rfl) (by kernel_rfl) (by kernel_rfl) (fun _ _ _ h => h) (by rfl) ?_ (by assumption) ?_
          rotate_left
          · (intro w hSw; (try dsimp only at hSw); go_simp; (try with_reducible rfl))
          (try simp only [getElem_toArray, getElem_cons_succ, getElem_cons_zero, Act.put, setIfInBounds_toArray, set_cons_zero, set_cons_succ])
          refine tk 8 ?_ rfl (by kernel_rfl) (by kernel_rfl) (by kernel_rfl) (fun _ _ _ h => h) (by rfl) ?_ (by assumption) ?_
          rotate_left
          · (intro w hSw; (try dsimp only at hSw); go_simp; (try with_reducible rfl))
          (try simp only [getElem_toArray, getElem_cons_succ, getElem_cons_zero, Act.put, setIfInBounds_toArray, set_cons_zero, set_cons_succ])
          refine tk 9 ?_ rfl (by kernel_rfl) (by kernel_rfl) (by kernel_rfl) (fun _ _ _ h => h) (by rfl) ?_ (by assumption) ?_
          rotate_left
          · (intro w hSw; (try dsimp only at hSw); go_simp; (try with_reducible rfl))
          (try simp only [getElem_toArray, getElem_cons_succ, getElem_cons_zero, Act.put, setIfInBounds_toArray, set_cons_zero, set_cons_succ])
          have rb110 := b11.cell 0 _ rfl
          have qb110 := b11.frozen 0
          have rb111 := b11.cell 1 _ rfl
          have qb111 := b11.frozen 1
          have rb112 := b11.cell 2 _ rfl
          have qb112 := b11.frozen 2
          have rb113 := b11.cell 3 _ rfl
          have qb113 := b11.frozen 3
          have rb114 := b11.cell 4 _ rfl
          have qb114 := b11.frozen 4
          have rb115 := b11.cell 5 _ rfl
          have qb115 := b11.frozen 5
          refine rd1 11 (by kernel_rfl) rfl (fun K hK => ?_)
          go_simp
          clear rb110 qb110
          clear rb111 qb111
          clear rb112 qb112
          clear rb113 qb113
          clear rb114 qb114
          clear rb115 qb115
          have hg := only_store6 y4_17 (y4_1.heap.size) (.bool s21) (.slice A21 n21 c21) (.bool s22) (.slice A22 n22 c22) (.bool s23) (.slice A23 n23 c23)
          have hB := b11.stored6 (.bool s21) (.slice A21 n21 c21) (.bool s22) (.slice A22 n22 c22) (.bool s23) (.slice A23 n23 c23)
          generalize hX : ((((((y4_17.setCell ⟨y4_1.heap.size, 0, none⟩ (.bool s21)).setCell ⟨y4_1.heap.size, 1, none⟩ (.slice A21 n21 c21)).setCell ⟨y4_1.heap.size, 2, none⟩ (.bool s22)).setCell ⟨y4_1.heap.size, 3, none⟩ (.slice A22 n22 c22)).setCell ⟨y4_1.heap.size, 4, none⟩ (.bool s23)).setCell ⟨y4_1.heap.size, 5, none⟩ (.slice A23 n23 c23)) = Y4_18 at hg hB ⊢
          clear hX
          replace y0 := y0.kept b11 (by simp [notInt]) hg
          replace y1 := y1.kept b11 (by simp [notInt]) hg
          replace y2 := y2.kept b11 (by simp [notInt]) hg
          replace b11 := hB
          replace hG := below_only hG hg (by omega) sG
          replace sG := hG.size
          clear hg hB
          refine hK.out _ _ ((b0.below hG).and2 ((b1.below hG).and2 ((b2.below hG).all2))) (fun hHeld => ?_)
          clear hK K
          (try simp only [getElem_toArray, getElem_cons_succ, getElem_cons_zero, Act.put, setIfInBounds_toArray, set_cons_zero, set_cons_succ])
          refine tk 12 ?_ rfl (by kernel_rfl) (by kernel_rfl) (by kernel_rfl) (fun _ _ _ h => h) (by rfl) ?_ (by assumption) ?_
          rotate_left
          · (intro w hSw; (try dsimp only at hSw); go_simp; (try with_reducible rfl))
          (try simp only [getElem_toArray, getElem_cons_succ, getElem_cons_zero, Act.put, setIfInBounds_toArray, set_cons_zero, set_cons_succ])
          refine wpAnyH_done (by kernel_rfl) ?_ _
          refine NoPanic.normal ?_
          go_wp2_with fail
          go_meet
          exact ⟨y4_1.heap.size, s21, A21, n21, c21, s22, A22, n22, c22, s23, A23, n23, c23, rfl, rfl, y0, y1, y2, b11, (by omega), hG⟩
      · go_simp
        obtain ⟨y4_19, hV, b11, hb9, szy4_19⟩ := boxes1 v4 #[.bool false, .slice none 0 0, .bool false, .slice none 0 0, .bool false, .slice none 0 0] 37
        rw [hV]
        clear hV
        have gly4_19 : W3.heap.size ≤ v4.heap.size := sG
        replace szy4_19 : v4.heap.size < y4_19.heap.size := by omega
        replace hG := hG.trans (hb9.mono sG)
        replace sG := hG.size
        clear hb9
        refine hK.out _ _ ((b0.below hG).and2 ((b1.below hG).and2 ((b2.below hG).all2))) (fun hHeld => ?_)
        clear hK K
        (try simp only [getElem_toArray, getElem_cons_succ, getElem_cons_zero, Act.put, setIfInBounds_toArray, set_cons_zero, set_cons_succ])
        refine rd1 1 (by kernel_rfl) rfl (fun K hK => ?_)
        go_simp
        go_at_call 13
        refine (refI_v (h0.below hG)).mono ?_
        rintro e y4_20 ⟨s3, A3, n3, c3, rfl, m0, hb9⟩
        have szy4_20 := hb9.size
        replace b11 := b11.below hb9
        replace hG := hG.trans (hb9.mono sG)
        replace sG := hG.size
        clear hb9
        go_wp2_with fail
        refine hK.out _ _ ((b0.below hG).and2 ((b1.below hG).and2 ((b2.below hG).all2))) (fun hHeld => ?_)
        clear hK K
        (try simp only [getElem_toArray, getElem_cons_succ, getElem_cons_zero, Act.put, setIfInBounds_toArray, set_cons_zero, set_cons_succ])
        refine rd1 3 (by kernel_rfl) rfl (fun K hK => ?_)
        go_simp
        go_at_call 13
        refine (refI_v (h1.below hG)).mono ?_
        rintro e y4_21 ⟨s4, A4, n4, c4, rfl, m1, hb9⟩
        have szy4_21 := hb9.size
        replace m0 := m0.below hb9
        replace b11 := b11.below hb9
        replace hG := hG.trans (hb9.mono sG)
        replace sG := hG.size
        clear hb9
        go_wp2_with fail
        refine hK.out _ _ ((b0.below hG).and2 ((b1.below hG).and2 ((b2.below hG).all2))) (fun hHeld => ?_)
        clear hK K
        (try simp only [getElem_toArray, getElem_cons_succ, getElem_cons_zero, Act.put, setIfInBounds_toArray, set_cons_zero, set_cons_succ])
        refine rd1 5 (by kernel_rfl) rfl (fun K hK => ?_)
        go_simp
        go_at_call 13
        refine (refI_v (h2.below hG)).mono ?_
        rintro e y4_22 ⟨s5, A5, n5, c5, rfl, m2, hb9⟩
        have szy4_22 := hb9.size
        replace m0 := m0.below hb9
        replace m1 := m1.below hb9
        replace b11 := b11.below hb9
        replace hG := hG.trans (hb9.mono sG)
        replace sG := hG.size
        clear hb9
        go_wp2_with fail
        refine hK.out _ _ ((b0.below hG).and2 ((b1.below hG).and2 ((b2.below hG).all2))) (fun hHeld => ?_)
        clear hK K
        (try simp only [getElem_toArray, getElem_cons_succ, getElem_cons_zero, Act.put, setIfInBounds_toArray, set_cons_zero, set_cons_succ])
        refine rd1 6 (by kernel_rfl) rfl (fun K hK => ?_)
        go_simp
        go_at_call 12
        refine (gmakel_v m0 m1 m2 HZ.out (by decide)).mono ?_
        rintro e y4_23 ⟨s21, A21, n21, c21, s22, A22, n22, c22, s23, A23, n23, c23, rfl, y0, y1, y2, hb9⟩
        have szy4_23 := hb9.size
        replace m0 := m0.below hb9
        replace m1 := m1.below hb9
        replace m2 := m2.below hb9
        replace b11 := b11.below hb9
        replace hG := hG.trans (hb9.mono sG)
        replace sG := hG.size
        clear hb9
        clear m0
        clear m1
        clear m2
        go_wp2_with fail
        refine hK.out _ _ ((b0.below hG).and2 ((b1.below hG).and2 ((b2.below hG).all2))) (fun hHeld => ?_)
        clear hK K
        (try simp only [getElem_toArray, getElem_cons_succ, getElem_cons_zero, Act.put, setIfInBounds_toArray, set_cons_zero, set_cons_succ])
        refine tk 7 ?_ rfl (by kernel_rfl) (by kernel_rfl) (by kernel_rfl) (fun _ _ _ h => h) (by rfl) ?_ (by assumption) ?_
        rotate_left
        · (intro w hSw; (try dsimp only at hSw); go_simp; (try with_reducible rfl))
        (try simp only [getElem_toArray, getElem_cons_succ, getElem_cons_zero, Act.put, setIfInBounds_toArray, set_cons_zero, set_cons_succ])
        refine tk 8 ?_ rfl (by kernel_rfl) (by kernel_rfl) (by kernel_rfl) (fun _ _ _ h => h) (by rfl) ?_ (by assumption) ?_
        rotate_left
        · (intro w hSw; (try dsimp only at hSw); go_simp; (try with_reducible rfl))
        (try simp only [getElem_toArray, getElem_cons_succ, getElem_cons_zero, Act.put, setIfInBounds_toArray, set_cons_zero, set_cons_succ])
        refine tk 9 ?_ rfl (by kernel_rfl) (by kernel_rfl) (by kernel_rfl) (fun _ _ _ h => h) (by rfl) ?_ (by assumption) ?_
        rotate_left
        · (intro w hSw; (try dsimp only at hSw); go_simp; (try with_reducible rfl))
        (try simp only [getElem_toArray, getElem_cons_succ, getElem_cons_zero, Act.put, setIfInBounds_toArray, set_cons_zero, set_cons_succ])
        have rb110 := b11.cell 0 _ rfl
        have qb110 := b11.frozen 0
        have rb111 := b11.cell 1 _ rfl
        have qb111 := b11.frozen 1
        have rb112 := b11.cell 2 _ rfl
        have qb112 := b11.frozen 2
        have rb113 := b11.cell 3 _ rfl
        have qb113 := b11.frozen 3
        have rb114 := b11.cell 4 _ rfl
        have qb114 := b11.frozen 4
        have rb115 := b11.cell 5 _ rfl
        have qb115 := b11.frozen 5
        refine rd1 11 (by kernel_rfl) rfl (fun K hK => ?_)
        go_simp
        clear rb110 qb110
        clear rb111 qb111
        clear rb112 qb112
        clear rb113 qb113
        clear rb114 qb114
        clear rb115 qb115
        have hg := only_store6 y4_23 (v4.heap.size) (.bool s21) (.slice A21 n21 c21) (.bool s22) (.slice A22 n22 c22) (.bool s23) (.slice A23 n23 c23)
        have hB := b11.stored6 (.bool s21) (.slice A21 n21 c21) (.bool s22) (.slice A22 n22 c22) (.bool s23) (.slice A23 n23 c23)
        generalize hX : ((((((y4_23.setCell ⟨v4.heap.size, 0, none⟩ (.bool s21)).setCell ⟨v4.heap.size, 1, none⟩ (.slice A21 n21 c21)).setCell ⟨v4.heap.size, 2, none⟩ (.bool s22)).setCell ⟨v4.heap.size, 3, none⟩ (.slice A22 n22 c22)).setCell ⟨v4.heap.size, 4, none⟩ (.bool s23)).setCell ⟨v4.heap.size, 5, none⟩ (.slice A23 n23 c23)) = Y4_24 at hg hB ⊢
        clear hX
        replace y0 := y0.kept b11 (by simp [notInt]) hg
        replace y1 := y1.kept b11 (by simp [notInt]) hg
        replace y2 := y2.kept b11 (by simp [notInt]) hg
        replace b11 := hB
        replace hG := below_only hG hg (by omega) sG
        replace sG := hG.size
        clear hg hB
        refine hK.out _ _ ((b0.below hG).and2 ((b1.below hG).and2 ((b2.below hG).all2))) (fun hHeld => ?_)
        clear hK K
        (try simp only [getElem_toArray, getElem_cons_succ, getElem_cons_zero, Act.put, setIfInBounds_toArray, set_cons_zero, set_cons_succ])
        refine tk 12 ?_ rfl (by kernel_rfl) (by kernel_rfl) (by kernel_rfl) (fun _ _ _ h => h) (by rfl) ?_ (by assumption) ?_
        rotate_left
        · (intro w hSw; (try dsimp only at hSw); go_simp; (try with_reducible rfl))
        (try simp only [getElem_toArray, getElem_cons_succ, getElem_cons_zero, Act.put, setIfInBounds_toArray, set_cons_zero, set_cons_succ])
        refine wpAnyH_done (by kernel_rfl) ?_ _
        refine NoPanic.normal ?_
        go_wp2_with fail
        go_meet
        exact ⟨v4.heap.size, s21, A21, n21, c21, s22, A22, n22, c22, s23, A23, n23, c23, rfl, rfl, y0, y1, y2, b11, (by omega), hG⟩
    obtain ⟨g4_0, s21, A21, n21, c21, s22, A22, n22, c22, s23, A23, n23, c23, rfl, rfl, y0, y1, y2, b11, glg4_0, hG⟩ := hcut
    replace h0 := h0.below hG
    replace h1 := h1.below hG
    replace h2 := h2.below hG
    replace x0 := x0.below hG
    replace x1 := x1.below hG
    replace x2 := x2.below hG
    replace b0 := b0.below hG
    replace b1 := b1.below hG
    replace b2 := b2.below hG
    replace b9 := b9.below hG
    replace H0 := H0.trans (hG.mono H0.size)
    clear hG
    clear h0
    clear h1
    clear h2
    clear b0
    clear b1
    clear b2
    obtain ⟨cb90, cb91, cb92, cb93, cb94, cb95⟩ := b9.cells6
    obtain ⟨cb110, cb111, cb112, cb113, cb114, cb115⟩ := b11.cells6
    go_wp2_with fail
    clear cb90 cb91 cb92 cb93 cb94 cb95 cb110 cb111 cb112 cb113 cb114 cb115
    refine (lsame_t x0 x1 x2 y0 y1 y2 rfl rfl rfl (by decide)).mono ?_
    rintro e w6 ⟨rfl, hb⟩
    replace x0 := x0.below hb
    replace x1 := x1.below hb
    replace x2 := x2.below hb
    replace y0 := y0.below hb
    replace y1 := y1.below hb
    replace y2 := y2.below hb
    replace b9 := b9.below hb
    replace b11 := b11.below hb
    replace H0 := H0.trans (hb.mono H0.size)
    clear hb
    clear x0
    clear x1
    clear x2
    clear y0
    clear y1
    clear y2
    clear HZ
    go_wp2_with fail
    refine (new_any (ints_below HI H0)).mono ?_
    rintro e w7 ⟨rfl, hT, hb9, hsz3⟩
    have hs0 : w.heap.size ≤ w6.heap.size := H0.size
    have hlt : w6.heap.size < w7.heap.size := by omega
    clear hsz3
    have lxb9 := b9.lt
    replace b9 := b9.below hb9
    have lxb11 := b11.lt
    replace b11 := b11.below hb9
    replace H0 := H0.trans (hb9.mono H0.size)
    clear hb9
    go_wp2_with fail
    refine (tpoint_v hT hlt).mono ?_
    rintro e w8 ⟨q0, q1, s16, A16, n16, c16, D16, m16, e16, s17, A17, n17, c17, D17, m17, e17, rfl, p0, p1, hT', hg⟩
    replace b9 := b9.other hg (by omega)
    replace b11 := b11.other hg (by omega)
    replace hlt := Nat.lt_of_lt_of_le hlt hg.size
    replace H0 := H0.grown hg H0.size (by rintro k hk; injection hk with hk; omega)
    clear hT
    have hT := hT'
    clear hT' hg
    go_wp2_with fail
    refine (tpoint_v hT hlt).mono ?_
    rintro e w9 ⟨q2, q3, s18, A18, n18, c18, D18, m18, e18, s19, A19, n19, c19, D19, m19, e19, rfl, p2, p3, hT', hg⟩
    replace p0 := p0.tape hT hg
    replace p1 := p1.tape hT hg
    replace b9 := b9.other hg (by omega)
    replace b11 := b11.other hg (by omega)
    replace hlt := Nat.lt_of_lt_of_le hlt hg.size
    replace H0 := H0.grown hg H0.size (by rintro k hk; injection hk with hk; omega)
    clear hT
    have hT := hT'
    clear hT' hg
    clear hT hlt
    have lb9_10 := b9.lt
    have lb11_10 := b11.lt
    obtain ⟨W10, hW, b14, b15, hbW, hszW10⟩ := boxes2 w9 #[.bool s16, .slice A16 n16 c16, .slice D16 m16 e16, .bool s17, .slice A17 n17 c17, .slice D17 m17 e17] #[.bool s18, .slice A18 n18 c18, .slice D18 m18 e18, .bool s19, .slice A19 n19 c19, .slice D19 m19 e19] 48 48
    skip
    skip
    replace p0 := p0.below hbW
    replace p1 := p1.below hbW
    replace p2 := p2.below hbW
    replace p3 := p3.below hbW
    replace b9 := b9.below hbW
    replace b11 := b11.below hbW
    replace H0 := H0.trans (hbW.mono H0.size)
    clear hbW
    obtain ⟨cb140, cb141, cb142, cb143, cb144, cb145⟩ := b14.cells6
    obtain ⟨cb150, cb151, cb152, cb153, cb154, cb155⟩ := b15.cells6
    go_wp2_with fail
    clear hW
    clear hszW10
    clear cb140 cb141 cb142 cb143 cb144 cb145 cb150 cb151 cb152 cb153 cb154 cb155
    by_cases he : q0 = q2 ∧ q1 = q3
    · have HE := Lib.hid he
      clear he
      have hD := drawn_below W10
      replace p0 := p0.below hD
      replace p1 := p1.below hD
      replace p2 := p2.below hD
      replace p3 := p3.below hD
      replace b9 := b9.below hD
      replace b11 := b11.below hD
      replace b14 := b14.below hD
      replace b15 := b15.below hD
      replace H0 := H0.trans (hD.mono H0.size)
      clear hD
      refine wp_region_noPanic ?_
      refine wp_region_held_drew (S := (fun V => V.cell? ⟨w9.heap.size, 0, none⟩ = some (.bool s16) ∧ V.cell? ⟨w9.heap.size, 1, none⟩ = some (.slice A16 n16 c16) ∧ V.cell? ⟨w9.heap.size, 2, none⟩ = some (.slice D16 m16 e16) ∧ V.cell? ⟨w9.heap.size, 3, none⟩ = some (.bool s17) ∧ V.cell? ⟨w9.heap.size, 4, none⟩ = some (.slice A17 n17 c17) ∧ V.cell? ⟨w9.heap.size, 5, none⟩ = some (.slice D17 m17 e17) ∧ V.cell? ⟨w9.heap.size + 1, 0, none⟩ = some (.bool s18) ∧ V.cell? ⟨w9.heap.size + 1, 1, none⟩ = some (.slice A18 n18 c18) ∧ V.cell? ⟨w9.heap.size + 1, 2, none⟩ = some (.slice D18 m18 e18) ∧ V.cell? ⟨w9.heap.size + 1, 3, none⟩ = some (.bool s19) ∧ V.cell? ⟨w9.heap.size + 1, 4, none⟩ = some (.slice A19 n19 c19) ∧ V.cell? ⟨w9.heap.size + 1, 5, none⟩ = some (.slice D19 m19 e19))) (by kernel_rfl) (b14.and6 (b15.all6)) (fun hHeld => ?_)
      generalize W10.drew = v11 at H0 hHeld p0 p1 p2 p3 b9 b11 b14 b15 ⊢
      refine tk 0 ?_ rfl (by kernel_rfl) (by kernel_rfl) (by kernel_rfl) (fun _ _ _ h => h) (by rfl) ?_ (by assumption) ?_
      rotate_left
      · (intro w hSw; (try dsimp only at hSw); go_simp; (try with_reducible rfl))
      (try simp only [getElem_toArray, getElem_cons_zero, Act.put, setIfInBounds_toArray, set_cons_zero, set_cons_succ])
      refine tk 2 ?_ rfl (by kernel_rfl) (by kernel_rfl) (by kernel_rfl) (fun _ _ _ h => h) (by rfl) ?_ (by assumption) ?_
      rotate_left
      · (intro w hSw; (try dsimp only at hSw); go_simp; (try with_reducible rfl))
      (try simp only [getElem_toArray, getElem_cons_succ, getElem_cons_zero, Act.put, setIfInBounds_toArray, set_cons_zero, set_cons_succ])
      refine rd1 1 (by kernel_rfl) rfl (fun K hK => ?_)
      go_simp
      go_at_call 19
      refine (gtop_v p0 p1 (by decide)).mono ?_
      rintro e w12 ⟨s0, A0, n0, c0, D0, m0, e0, s1, A1, n1, c1, D1, m1, e1, rfl, k0, k1, hb⟩
      replace p0 := p0.below hb
      replace p1 := p1.below hb
      replace p2 := p2.below hb
      replace p3 := p3.below hb
      replace b9 := b9.below hb
      replace b11 := b11.below hb
      replace b14 := b14.below hb
      replace b15 := b15.below hb
      replace H0 := H0.trans (hb.mono H0.size)
      clear hb
      go_wp2_with fail
      refine hK.out _ _ (b14.and6 (b15.all6)) (fun hHeld => ?_)
      clear hK K
      (try simp only [getElem_toArray, getElem_cons_succ, getElem_cons_zero, Act.put, setIfInBounds_toArray, set_cons_zero, set_cons_succ])
      refine rd1 3 (by kernel_rfl) rfl (fun K hK => ?_)
      go_simp
      go_at_call 19
      refine (gtop_v p2 p3 (by decide)).mono ?_
      rintro e w13 ⟨s2, A2, n2, c2, D2, m2, e2, s3, A3, n3, c3, D3, m3, e3, rfl, k2, k3, hb⟩
      replace p0 := p0.below hb
      replace p1 := p1.below hb
      replace p2 := p2.below hb
      replace p3 := p3.below hb
      replace k0 := k0.below hb
      replace k1 := k1.below hb
      replace b9 := b9.below hb
      replace b11 := b11.below hb
      replace b14 := b14.below hb
      replace b15 := b15.below hb
      replace H0 := H0.trans (hb.mono H0.size)
      clear hb
      go_wp2_with fail
      refine hK.out _ _ (b14.and6 (b15.all6)) (fun hHeld => ?_)
      clear hK K
      (try simp only [getElem_toArray, getElem_cons_succ, getElem_cons_zero, Act.put, setIfInBounds_toArray, set_cons_zero, set_cons_succ])
      refine rd1 4 (by kernel_rfl) rfl (fun K hK => ?_)
      go_simp
      go_at_call 18
      refine (lthrough_zn k0 k1 k2 k3 HE.out (by decide)).mono ?_
      rintro e w14 ⟨s18, A18, n18, c18, s19, A19, n19, c19, s20, A20, n20, c20, rfl, x0, x1, x2, hb⟩
      replace p0 := p0.below hb
      replace p1 := p1.below hb
      replace p2 := p2.below hb
      replace p3 := p3.below hb
      replace k0 := k0.below hb
      replace k1 := k1.below hb
      replace k2 := k2.below hb
      replace k3 := k3.below hb
      replace b9 := b9.below hb
      replace b11 := b11.below hb
      replace b14 := b14.below hb
      replace b15 := b15.below hb
      replace H0 := H0.trans (hb.mono H0.size)
      clear hb
      clear k0
      clear k1
      clear k2
      clear k3
      go_wp2_with fail
      refine hK.out _ _ (b14.and6 (b15.all6)) (fun hHeld => ?_)
      clear hK K
      (try simp only [getElem_toArray, getElem_cons_succ, getElem_cons_zero, Act.put, setIfInBounds_toArray, set_cons_zero, set_cons_succ])
      refine tk 5 ?_ rfl (by kernel_rfl) (by kernel_rfl) (by kernel_rfl) (fun _ _ _ h => h) (by rfl) ?_ (by assumption) ?_
      rotate_left
      · (intro w hSw; (try dsimp only at hSw); go_simp; (try with_reducible rfl))
      (try simp only [getElem_toArray, getElem_cons_succ, getElem_cons_zero, Act.put, setIfInBounds_toArray, set_cons_zero, set_cons_succ])
      refine tk 6 ?_ rfl (by kernel_rfl) (by kernel_rfl) (by kernel_rfl) (fun _ _ _ h => h) (by rfl) ?_ (by assumption) ?_
      rotate_left
      · (intro w hSw; (try dsimp only at hSw); go_simp; (try with_reducible rfl))
      (try simp only [getElem_toArray, getElem_cons_succ, getElem_cons_zero, Act.put, setIfInBounds_toArray, set_cons_zero, set_cons_succ])
      refine tk 7 ?_ rfl (by kernel_rfl) (by kernel_rfl) (by kernel_rfl) (fun _ _ _ h => h) (by rfl) ?_ (by assumption) ?_
      rotate_left
      · (intro w hSw; (try dsimp only at hSw); go_simp; (try with_reducible rfl))
      (try simp only [getElem_toArray, getElem_cons_succ, getElem_cons_zero, Act.put, setIfInBounds_toArray, set_cons_zero, set_cons_succ])
      obtain ⟨cb90, yb90, cb91, yb91, cb92, yb92, cb93, yb93, cb94, yb94, cb95, yb95⟩ := b9.cf6
      refine rd1 8 (by kernel_rfl) rfl (fun K hK => ?_)
      go_simp
      clear cb90 yb90 cb91 yb91 cb92 yb92 cb93 yb93 cb94 yb94 cb95 yb95
      have hg := only_store6 w14 (w2.heap.size) (.bool s18) (.slice A18 n18 c18) (.bool s19) (.slice A19 n19 c19) (.bool s20) (.slice A20 n20 c20)
      have hB := b9.stored6 (.bool s18) (.slice A18 n18 c18) (.bool s19) (.slice A19 n19 c19) (.bool s20) (.slice A20 n20 c20)
      generalize hX : ((((((w14.setCell ⟨w2.heap.size, 0, none⟩ (.bool s18)).setCell ⟨w2.heap.size, 1, none⟩ (.slice A18 n18 c18)).setCell ⟨w2.heap.size, 2, none⟩ (.bool s19)).setCell ⟨w2.heap.size, 3, none⟩ (.slice A19 n19 c19)).setCell ⟨w2.heap.size, 4, none⟩ (.bool s20)).setCell ⟨w2.heap.size, 5, none⟩ (.slice A20 n20 c20)) = X15 at hg hB ⊢
      clear hX
      replace p0 := p0.kept b9 (by simp [notInt]) hg
      replace p1 := p1.kept b9 (by simp [notInt]) hg
      replace p2 := p2.kept b9 (by simp [notInt]) hg
      replace p3 := p3.kept b9 (by simp [notInt]) hg
      replace x0 := x0.kept b9 (by simp [notInt]) hg
      replace x1 := x1.kept b9 (by simp [notInt]) hg
      replace x2 := x2.kept b9 (by simp [notInt]) hg
      replace b11 := b11.other hg (by omega)
      replace b14 := b14.other hg (by omega)
      replace b15 := b15.other hg (by omega)
      replace b9 := hB
      replace H0 := below_only H0 hg (by omega) H0.size
      clear hg hB
      refine hK.out _ _ (b14.and6 (b15.all6)) (fun hHeld => ?_)
      clear hK K
      (try simp only [getElem_toArray, getElem_cons_succ, getElem_cons_zero, Act.put, setIfInBounds_toArray, set_cons_zero, set_cons_succ])
      refine tk 9 ?_ rfl (by kernel_rfl) (by kernel_rfl) (by kernel_rfl) (fun _ _ _ h => h) (by rfl) ?_ (by assumption) ?_
      rotate_left
      · (intro w hSw; (try dsimp only at hSw); go_simp; (try with_reducible rfl))
      (try simp only [getElem_toArray, getElem_cons_succ, getElem_cons_zero, Act.put, setIfInBounds_toArray, set_cons_zero, set_cons_succ])
      refine wpAnyH_done (by kernel_rfl) ?_ _
      refine NoPanic.normal ?_
      go_wp2_with fail
      obtain ⟨cb140, cb141, cb142, cb143, cb144, cb145⟩ := b14.cells6
      obtain ⟨cb150, cb151, cb152, cb153, cb154, cb155⟩ := b15.cells6
      go_wp2_with fail
      clear cb140 cb141 cb142 cb143 cb144 cb145 cb150 cb151 cb152 cb153 cb154 cb155
      refine (gthrough_zn (p0.more (by decide)) (p1.more (by decide)) (p2.more (by decide)) (p3.more (by decide)) HE.out).mono ?_
      rintro e w16 ⟨s21, A21, n21, c21, s22, A22, n22, c22, s23, A23, n23, c23, rfl, y0, y1, y2, hb⟩
      replace p0 := p0.below hb
      replace p1 := p1.below hb
      replace p2 := p2.below hb
      replace p3 := p3.below hb
      replace x0 := x0.below hb
      replace x1 := x1.below hb
      replace x2 := x2.below hb
      replace b9 := b9.below hb
      replace b11 := b11.below hb
      replace b14 := b14.below hb
      replace b15 := b15.below hb
      replace H0 := H0.trans (hb.mono H0.size)
      clear hb
      obtain ⟨cb110, yb110, cb111, yb111, cb112, yb112, cb113, yb113, cb114, yb114, cb115, yb115⟩ := b11.cf6
      go_wp2_with fail
      clear cb110 yb110 cb111 yb111 cb112 yb112 cb113 yb113 cb114 yb114 cb115 yb115
      have hg := only_store6 w16 (g4_0) (.bool s21) (.slice A21 n21 c21) (.bool s22) (.slice A22 n22 c22) (.bool s23) (.slice A23 n23 c23)
      have hB := b11.stored6 (.bool s21) (.slice A21 n21 c21) (.bool s22) (.slice A22 n22 c22) (.bool s23) (.slice A23 n23 c23)
      generalize hX : ((((((w16.setCell ⟨g4_0, 0, none⟩ (.bool s21)).setCell ⟨g4_0, 1, none⟩ (.slice A21 n21 c21)).setCell ⟨g4_0, 2, none⟩ (.bool s22)).setCell ⟨g4_0, 3, none⟩ (.slice A22 n22 c22)).setCell ⟨g4_0, 4, none⟩ (.bool s23)).setCell ⟨g4_0, 5, none⟩ (.slice A23 n23 c23)) = X17 at hg hB ⊢
      clear hX
      replace p0 := p0.kept b11 (by simp [notInt]) hg
      replace p1 := p1.kept b11 (by simp [notInt]) hg
      replace p2 := p2.kept b11 (by simp [notInt]) hg
      replace p3 := p3.kept b11 (by simp [notInt]) hg
      replace x0 := x0.kept b11 (by simp [notInt]) hg
      replace x1 := x1.kept b11 (by simp [notInt]) hg
      replace x2 := x2.kept b11 (by simp [notInt]) hg
      replace y0 := y0.kept b11 (by simp [notInt]) hg
      replace y1 := y1.kept b11 (by simp [notInt]) hg
      replace y2 := y2.kept b11 (by simp [notInt]) hg
      replace b9 := b9.other hg (by omega)
      replace b14 := b14.other hg (by omega)
      replace b15 := b15.other hg (by omega)
      replace b11 := hB
      replace H0 := below_only H0 hg (by omega) H0.size
      clear hg hB
      refine (known5_any).mono ?_
      rintro e w18 ⟨rfl, hb⟩
      replace p0 := p0.below hb
      replace p1 := p1.below hb
      replace p2 := p2.below hb
      replace p3 := p3.below hb
      replace x0 := x0.below hb
      replace x1 := x1.below hb
      replace x2 := x2.below hb
      replace y0 := y0.below hb
      replace y1 := y1.below hb
      replace y2 := y2.below hb
      replace b9 := b9.below hb
      replace b11 := b11.below hb
      replace b14 := b14.below hb
      replace b15 := b15.below hb
      replace H0 := H0.trans (hb.mono H0.size)
      clear hb
      obtain ⟨cb90, cb91, cb92, cb93, cb94, cb95⟩ := b9.cells6
      obtain ⟨cb110, cb111, cb112, cb113, cb114, cb115⟩ := b11.cells6
      go_wp2_with fail
      clear cb90 cb91 cb92 cb93 cb94 cb95 cb110 cb111 cb112 cb113 cb114 cb115
      refine (gsamel_t x0 x1 x2 (⟨slice_nil _, rfl⟩ : NI _ false (.slice none 0 0) 0 1) (⟨slice_nil _, rfl⟩ : NI _ false (.slice none 0 0) 0 1) (⟨slice_nil _, rfl⟩ : NI _ false (.slice none 0 0) 0 1) rfl rfl rfl).mono ?_
      rintro e w19 ⟨rfl, hb⟩
      replace p0 := p0.below hb
      replace p1 := p1.below hb
      replace p2 := p2.below hb
      replace p3 := p3.below hb
      replace x0 := x0.below hb
      replace x1 := x1.below hb
      replace x2 := x2.below hb
      replace y0 := y0.below hb
      replace y1 := y1.below hb
      replace y2 := y2.below hb
      replace b9 := b9.below hb
      replace b11 := b11.below hb
      replace b14 := b14.below hb
      replace b15 := b15.below hb
      replace H0 := H0.trans (hb.mono H0.size)
      clear hb
      go_wp2_with fail
      go_returns
      exact ⟨rfl, H0⟩
    · have HE := Lib.hid he
      clear he
      have hD := drawn_below W10
      replace p0 := p0.below hD
      replace p1 := p1.below hD
      replace p2 := p2.below hD
      replace p3 := p3.below hD
      replace b9 := b9.below hD
      replace b11 := b11.below hD
      replace b14 := b14.below hD
      replace b15 := b15.below hD
      replace H0 := H0.trans (hD.mono H0.size)
      clear hD
      refine wp_region_noPanic ?_
      refine wp_region_held_drew (S := (fun V => V.cell? ⟨w9.heap.size, 0, none⟩ = some (.bool s16) ∧ V.cell? ⟨w9.heap.size, 1, none⟩ = some (.slice A16 n16 c16) ∧ V.cell? ⟨w9.heap.size, 2, none⟩ = some (.slice D16 m16 e16) ∧ V.cell? ⟨w9.heap.size, 3, none⟩ = some (.bool s17) ∧ V.cell? ⟨w9.heap.size, 4, none⟩ = some (.slice A17 n17 c17) ∧ V.cell? ⟨w9.heap.size, 5, none⟩ = some (.slice D17 m17 e17) ∧ V.cell? ⟨w9.heap.size + 1, 0, none⟩ = some (.bool s18) ∧ V.cell? ⟨w9.heap.size + 1, 1, none⟩ = some (.slice A18 n18 c18) ∧ V.cell? ⟨w9.heap.size + 1, 2, none⟩ = some (.slice D18 m18 e18) ∧ V.cell? ⟨w9.heap.size + 1, 3, none⟩ = some (.bool s19) ∧ V.cell? ⟨w9.heap.size + 1, 4, none⟩ = some (.slice A19 n19 c19) ∧ V.cell? ⟨w9.heap.size + 1, 5, none⟩ = some (.slice D19 m19 e19))) (by kernel_rfl) (b14.and6 (b15.all6)) (fun hHeld => ?_)
      generalize W10.drew = v11 at H0 hHeld p0 p1 p2 p3 b9 b11 b14 b15 ⊢
      refine tk 0 ?_ rfl (by kernel_rfl) (by kernel_rfl) (by kernel_rfl) (fun _ _ _ h => h) (by rfl) ?_ (by assumption) ?_
      rotate_left
      · (intro w hSw; (try dsimp only at hSw); go_simp; (try with_reducible rfl))
      (try simp only [getElem_toArray, getElem_cons_zero, Act.put, setIfInBounds_toArray, set_cons_zero, set_cons_succ])
      refine tk 2 ?_ rfl (by kernel_rfl) (by kernel_rfl) (by kernel_rfl) (fun _ _ _ h => h) (by rfl) ?_ (by assumption) ?_
      rotate_left
      · (intro w hSw; (try dsimp only at hSw); go_simp; (try with_reducible rfl))
      (try simp only [getElem_toArray, getElem_cons_succ, getElem_cons_zero, Act.put, setIfInBounds_toArray, set_cons_zero, set_cons_succ])
      refine rd1 1 (by kernel_rfl) rfl (fun K hK => ?_)
      go_simp
      go_at_call 19
      refine (gtop_v p0 p1 (by decide)).mono ?_
      rintro e w12 ⟨s0, A0, n0, c0, D0, m0, e0, s1, A1, n1, c1, D1, m1, e1, rfl, k0, k1, hb⟩
      replace p0 := p0.below hb
      replace p1 := p1.below hb
      replace p2 := p2.below hb
      replace p3 := p3.below hb
      replace b9 := b9.below hb
      replace b11 := b11.below hb
      replace b14 := b14.below hb
      replace b15 := b15.below hb
      replace H0 := H0.trans (hb.mono H0.size)
      clear hb
      go_wp2_with fail
      refine hK.out _ _ (b14.and6 (b15.all6)) (fun hHeld => ?_)
      clear hK K
      (try simp only [getElem_toArray, getElem_cons_succ, getElem_cons_zero, Act.put, setIfInBounds_toArray, set_cons_zero, set_cons_succ])
      refine rd1 3 (by kernel_rfl) rfl (fun K hK => ?_)
      go_simp
      go_at_call 19
      refine (gtop_v p2 p3 (by decide)).mono ?_
      rintro e w13 ⟨s2, A2, n2, c2, D2, m2, e2, s3, A3, n3, c3, D3, m3, e3, rfl, k2, k3, hb⟩
      replace p0 := p0.below hb
      replace p1 := p1.below hb
      replace p2 := p2.below hb
      replace p3 := p3.below hb
      replace k0 := k0.below hb
      replace k1 := k1.below hb
      replace b9 := b9.below hb
      replace b11 := b11.below hb
      replace b14 := b14.below hb
      replace b15 := b15.below hb
      replace H0 := H0.trans (hb.mono H0.size)
      clear hb
      go_wp2_with fail
      refine hK.out _ _ (b14.and6 (b15.all6)) (fun hHeld => ?_)
      clear hK K
      (try simp only [getElem_toArray, getElem_cons_succ, getElem_cons_zero, Act.put, setIfInBounds_toArray, set_cons_zero, set_cons_succ])
      refine rd1 4 (by kernel_rfl) rfl (fun K hK => ?_)
      go_simp
      go_at_call 18
      refine (lthrough_v k0 k1 k2 k3 HE.out (by decide)).mono ?_
      rintro e w14 ⟨t0, t1, t2, s18, A18, n18, c18, s19, A19, n19, c19, s20, A20, n20, c20, rfl, ht, x0, x1, x2, hb⟩
      replace p0 := p0.below hb
      replace p1 := p1.below hb
      replace p2 := p2.below hb
      replace p3 := p3.below hb
      replace k0 := k0.below hb
      replace k1 := k1.below hb
      replace k2 := k2.below hb
      replace k3 := k3.below hb
      replace b9 := b9.below hb
      replace b11 := b11.below hb
      replace b14 := b14.below hb
      replace b15 := b15.below hb
      replace H0 := H0.trans (hb.mono H0.size)
      clear hb
      clear k0
      clear k1
      clear k2
      clear k3
      go_wp2_with fail
      refine hK.out _ _ (b14.and6 (b15.all6)) (fun hHeld => ?_)
      clear hK K
      (try simp only [getElem_toArray, getElem_cons_succ, getElem_cons_zero, Act.put, setIfInBounds_toArray, set_cons_zero, set_cons_succ])
      refine tk 5 ?_ rfl (by kernel_rfl) (by kernel_rfl) (by kernel_rfl) (fun _ _ _ h => h) (by rfl) ?_ (by assumption) ?_
      rotate_left
      · (intro w hSw; (try dsimp only at hSw); go_simp; (try with_reducible rfl))
      (try simp only [getElem_toArray, getElem_cons_succ, getElem_cons_zero, Act.put, setIfInBounds_toArray, set_cons_zero, set_cons_succ])
      refine tk 6 ?_ rfl (by kernel_rfl) (by kernel_rfl) (by kernel_rfl) (fun _ _ _ h => h) (by rfl) ?_ (by assumption) ?_
      rotate_left
      · (intro w hSw; (try dsimp only at hSw); go_simp; (try with_reducible rfl))
      (try simp only [getElem_toArray, getElem_cons_succ, getElem_cons_zero, Act.put, setIfInBounds_toArray, set_cons_zero, set_cons_succ])
      refine tk 7 ?_ rfl (by kernel_rfl) (by kernel_rfl) (by kernel_rfl) (fun _ _ _ h => h) (by rfl) ?_ (by assumption) ?_
      rotate_left
      · (intro w hSw; (try dsimp only at hSw); go_simp; (try with_reducible rfl))
      (try simp only [getElem_toArray, getElem_cons_succ, getElem_cons_zero, Act.put, setIfInBounds_toArray, set_cons_zero, set_cons_succ])
      obtain ⟨cb90, yb90, cb91, yb91, cb92, yb92, cb93, yb93, cb94, yb94, cb95, yb95⟩ := b9.cf6
      refine rd1 8 (by kernel_rfl) rfl (fun K hK => ?_)
      go_simp
      clear cb90 yb90 cb91 yb91 cb92 yb92 cb93 yb93 cb94 yb94 cb95 yb95
      have hg := only_store6 w14 (w2.heap.size) (.bool s18) (.slice A18 n18 c18) (.bool s19) (.slice A19 n19 c19) (.bool s20) (.slice A20 n20 c20)
      have hB := b9.stored6 (.bool s18) (.slice A18 n18 c18) (.bool s19) (.slice A19 n19 c19) (.bool s20) (.slice A20 n20 c20)
      generalize hX : ((((((w14.setCell ⟨w2.heap.size, 0, none⟩ (.bool s18)).setCell ⟨w2.heap.size, 1, none⟩ (.slice A18 n18 c18)).setCell ⟨w2.heap.size, 2, none⟩ (.bool s19)).setCell ⟨w2.heap.size, 3, none⟩ (.slice A19 n19 c19)).setCell ⟨w2.heap.size, 4, none⟩ (.bool s20)).setCell ⟨w2.heap.size, 5, none⟩ (.slice A20 n20 c20)) = X15 at hg hB ⊢
      clear hX
      replace p0 := p0.kept b9 (by simp [notInt]) hg
      replace p1 := p1.kept b9 (by simp [notInt]) hg
      replace p2 := p2.kept b9 (by simp [notInt]) hg
      replace p3 := p3.kept b9 (by simp [notInt]) hg
      replace x0 := x0.kept b9 (by simp [notInt]) hg
      replace x1 := x1.kept b9 (by simp [notInt]) hg
      replace x2 := x2.kept b9 (by simp [notInt]) hg
      replace b11 := b11.other hg (by omega)
      replace b14 := b14.other hg (by omega)
      replace b15 := b15.other hg (by omega)
      replace b9 := hB
      replace H0 := below_only H0 hg (by omega) H0.size
      clear hg hB
      refine hK.out _ _ (b14.and6 (b15.all6)) (fun hHeld => ?_)
      clear hK K
      (try simp only [getElem_toArray, getElem_cons_succ, getElem_cons_zero, Act.put, setIfInBounds_toArray, set_cons_zero, set_cons_succ])
      refine tk 9 ?_ rfl (by kernel_rfl) (by kernel_rfl) (by kernel_rfl) (fun _ _ _ h => h) (by rfl) ?_ (by assumption) ?_
      rotate_left
      · (intro w hSw; (try dsimp only at hSw); go_simp; (try with_reducible rfl))
      (try simp only [getElem_toArray, getElem_cons_succ, getElem_cons_zero, Act.put, setIfInBounds_toArray, set_cons_zero, set_cons_succ])
      refine wpAnyH_done (by kernel_rfl) ?_ _
      refine NoPanic.normal ?_
      go_wp2_with fail
      obtain ⟨cb140, cb141, cb142, cb143, cb144, cb145⟩ := b14.cells6
      obtain ⟨cb150, cb151, cb152, cb153, cb154, cb155⟩ := b15.cells6
      go_wp2_with fail
      clear cb140 cb141 cb142 cb143 cb144 cb145 cb150 cb151 cb152 cb153 cb154 cb155
      refine (gthrough_v (p0.more (by decide)) (p1.more (by decide)) (p2.more (by decide)) (p3.more (by decide)) HE.out).mono ?_
      rintro e w16 ⟨t0', t1', t2', s21, A21, n21, c21, s22, A22, n22, c22, s23, A23, n23, c23, rfl, ht', y0, y1, y2, hb⟩
      replace p0 := p0.below hb
      replace p1 := p1.below hb
      replace p2 := p2.below hb
      replace p3 := p3.below hb
      replace x0 := x0.below hb
      replace x1 := x1.below hb
      replace x2 := x2.below hb
      replace b9 := b9.below hb
      replace b11 := b11.below hb
      replace b14 := b14.below hb
      replace b15 := b15.below hb
      replace H0 := H0.trans (hb.mono H0.size)
      clear hb
      obtain ⟨cb110, yb110, cb111, yb111, cb112, yb112, cb113, yb113, cb114, yb114, cb115, yb115⟩ := b11.cf6
      go_wp2_with fail
      clear cb110 yb110 cb111 yb111 cb112 yb112 cb113 yb113 cb114 yb114 cb115 yb115
      have hg := only_store6 w16 (g4_0) (.bool s21) (.slice A21 n21 c21) (.bool s22) (.slice A22 n22 c22) (.bool s23) (.slice A23 n23 c23)
      have hB := b11.stored6 (.bool s21) (.slice A21 n21 c21) (.bool s22) (.slice A22 n22 c22) (.bool s23) (.slice A23 n23 c23)
      generalize hX : ((((((w16.setCell ⟨g4_0, 0, none⟩ (.bool s21)).setCell ⟨g4_0, 1, none⟩ (.slice A21 n21 c21)).setCell ⟨g4_0, 2, none⟩ (.bool s22)).setCell ⟨g4_0, 3, none⟩ (.slice A22 n22 c22)).setCell ⟨g4_0, 4, none⟩ (.bool s23)).setCell ⟨g4_0, 5, none⟩ (.slice A23 n23 c23)) = X17 at hg hB ⊢
      clear hX
      replace p0 := p0.kept b11 (by simp [notInt]) hg
      replace p1 := p1.kept b11 (by simp [notInt]) hg
      replace p2 := p2.kept b11 (by simp [notInt]) hg
      replace p3 := p3.kept b11 (by simp [notInt]) hg
      replace x0 := x0.kept b11 (by simp [notInt]) hg
      replace x1 := x1.kept b11 (by simp [notInt]) hg
      replace x2 := x2.kept b11 (by simp [notInt]) hg
      replace y0 := y0.kept b11 (by simp [notInt]) hg
      replace y1 := y1.kept b11 (by simp [notInt]) hg
      replace y2 := y2.kept b11 (by simp [notInt]) hg
      replace b9 := b9.other hg (by omega)
      replace b14 := b14.other hg (by omega)
      replace b15 := b15.other hg (by omega)
      replace b11 := hB
      replace H0 := below_only H0 hg (by omega) H0.size
      clear hg hB
      refine (known5_any).mono ?_
      rintro e w18 ⟨rfl, hb⟩
      replace p0 := p0.below hb
      replace p1 := p1.below hb
      replace p2 := p2.below hb
      replace p3 := p3.below hb
      replace x0 := x0.below hb
      replace x1 := x1.below hb
      replace x2 := x2.below hb
      replace y0 := y0.below hb
      replace y1 := y1.below hb
      replace y2 := y2.below hb
      replace b9 := b9.below hb
      replace b11 := b11.below hb
      replace b14 := b14.below hb
      replace b15 := b15.below hb
      replace H0 := H0.trans (hb.mono H0.size)
      clear hb
      obtain ⟨cb90, cb91, cb92, cb93, cb94, cb95⟩ := b9.cells6
      obtain ⟨cb110, cb111, cb112, cb113, cb114, cb115⟩ := b11.cells6
      go_wp2_with fail
      obtain ⟨e1, e2, e3⟩ := thr_pr ht ht'
      clear cb90 cb91 cb92 cb93 cb94 cb95 cb110 cb111 cb112 cb113 cb114 cb115
      refine (lsame_t x0 x1 x2 y0 y1 y2 e1 e2 e3 (by decide)).mono ?_
      rintro e w19 ⟨rfl, hb⟩
      replace p0 := p0.below hb
      replace p1 := p1.below hb
      replace p2 := p2.below hb
      replace p3 := p3.below hb
      replace x0 := x0.below hb
      replace x1 := x1.below hb
      replace x2 := x2.below hb
      replace y0 := y0.below hb
      replace y1 := y1.below hb
      replace y2 := y2.below hb
      replace b9 := b9.below hb
      replace b11 := b11.below hb
      replace b14 := b14.below hb
      replace b15 := b15.below hb
      replace H0 := H0.trans (hb.mono H0.size)
      clear hb
      go_wp2_with fail
      go_returns
      exact ⟨rfl, H0⟩
set_option maxRecDepth 100000 in
set_option maxHeartbeats 16000000 in
theorem linemakes_big0  (k0 : 5 < n0) {v : Value} :
    Calls Tryz.prog 3 #[.agg #[.bool s0, .slice A0 n0 c0], .agg #[.bool s1, .slice A1 n1 c1], .agg #[.bool s2, .slice A2 n2 c2], v] w fun e w' => e = .returned (.bool true) ∧ Below w.heap.size w w' := by
  go_enter Tryz.func3, Tryz.ntmps3
  go_wp2_with fail
  have H0 := Below.refl w.heap.size w
  obtain ⟨W0, hW, b0, b1, b2, bs, hbW, hszW0⟩ := boxes4 w #[.bool s0, .slice A0 n0 c0] #[.bool s1, .slice A1 n1 c1] #[.bool s2, .slice A2 n2 c2] #[.slice A0 n0 c0, .slice A1 n1 c1, .slice A2 n2 c2] 25 25 25 23
  rw [hW]
  clear hW
  replace H0 := H0.trans (hbW.mono H0.size)
  clear hbW
  refine (small3_n0 bs k0).mono ?_
  rintro e w1 ⟨rfl, hb⟩
  replace b0 := b0.below hb
  replace b1 := b1.below hb
  replace b2 := b2.below hb
  replace bs := bs.below hb
  replace H0 := H0.trans (hb.mono H0.size)
  clear hb
  clear bs
  go_wp2_with fail
  refine (known5_any).mono ?_
  rintro e w2 ⟨rfl, hb⟩
  replace b0 := b0.below hb
  replace b1 := b1.below hb
  replace b2 := b2.below hb
  replace H0 := H0.trans (hb.mono H0.size)
  clear hb
  go_wp2_with fail
  go_returns
  exact ⟨rfl, H0⟩
set_option maxRecDepth 100000 in
set_option maxHeartbeats 16000000 in
theorem linemakes_big1 (k0 : n0 ≤ 5) (k1 : 5 < n1) {v : Value} :
    Calls Tryz.prog 3 #[.agg #[.bool s0, .slice A0 n0 c0], .agg #[.bool s1, .slice A1 n1 c1], .agg #[.bool s2, .slice A2 n2 c2], v] w fun e w' => e = .returned (.bool true) ∧ Below w.heap.size w w' := by
  go_enter Tryz.func3, Tryz.ntmps3
  go_wp2_with fail
  have H0 := Below.refl w.heap.size w
  obtain ⟨W0, hW, b0, b1, b2, bs, hbW, hszW0⟩ := boxes4 w #[.bool s0, .slice A0 n0 c0] #[.bool s1, .slice A1 n1 c1] #[.bool s2, .slice A2 n2 c2] #[.slice A0 n0 c0, .slice A1 n1 c1, .slice A2 n2 c2] 25 25 25 23
  rw [hW]
  clear hW
  replace H0 := H0.trans (hbW.mono H0.size)
  clear hbW
  refine (small3_n1 bs k0 k1).mono ?_
  rintro e w1 ⟨rfl, hb⟩
  replace b0 := b0.below hb
  replace b1 := b1.below hb
  replace b2 := b2.below hb
  replace bs := bs.below hb
  replace H0 := H0.trans (hb.mono H0.size)
  clear hb
  clear bs
  go_wp2_with fail
  refine (known5_any).mono ?_
  rintro e w2 ⟨rfl, hb⟩
  replace b0 := b0.below hb
  replace b1 := b1.below hb
  replace b2 := b2.below hb
  replace H0 := H0.trans (hb.mono H0.size)
  clear hb
  go_wp2_with fail
  go_returns
  exact ⟨rfl, H0⟩
set_option maxRecDepth 100000 in
set_option maxHeartbeats 16000000 in
theorem linemakes_big2 (k0 : n0 ≤ 5) (k1 : n1 ≤ 5) (k2 : 5 < n2) {v : Value} :
    Calls Tryz.prog 3 #[.agg #[.bool s0, .slice A0 n0 c0], .agg #[.bool s1, .slice A1 n1 c1], .agg #[.bool s2, .slice A2 n2 c2], v] w fun e w' => e = .returned (.bool true) ∧ Below w.heap.size w w' := by
  go_enter Tryz.func3, Tryz.ntmps3
  go_wp2_with fail
  have H0 := Below.refl w.heap.size w
  obtain ⟨W0, hW, b0, b1, b2, bs, hbW, hszW0⟩ := boxes4 w #[.bool s0, .slice A0 n0 c0] #[.bool s1, .slice A1 n1 c1] #[.bool s2, .slice A2 n2 c2] #[.slice A0 n0 c0, .slice A1 n1 c1, .slice A2 n2 c2] 25 25 25 23
  rw [hW]
  clear hW
  replace H0 := H0.trans (hbW.mono H0.size)
  clear hbW
  refine (small3_n2 bs k0 k1 k2).mono ?_
  rintro e w1 ⟨rfl, hb⟩
  replace b0 := b0.below hb
  replace b1 := b1.below hb
  replace b2 := b2.below hb
  replace bs := bs.below hb
  replace H0 := H0.trans (hb.mono H0.size)
  clear hb
  clear bs
  go_wp2_with fail
  refine (known5_any).mono ?_
  rintro e w2 ⟨rfl, hb⟩
  replace b0 := b0.below hb
  replace b1 := b1.below hb
  replace b2 := b2.below hb
  replace H0 := H0.trans (hb.mono H0.size)
  clear hb
  go_wp2_with fail
  go_returns
  exact ⟨rfl, H0⟩
theorem ri_raw {ds : List Nat} {A : Option Addr} {n c : Nat} {s : Bool} (h : Raw w (.slice A n c) ds) (hn : n ≤ 5) : RI w s (.slice A n c) (sg s (val ds)) 5 := ⟨_, ⟨ds, h, rfl, by have := h.cap.1; omega⟩, rfl⟩
set_option maxRecDepth 100000 in
set_option maxHeartbeats 16000000 in
theorem linemakes_any (HR0 : n0 ≤ 5 → ∃ ds, Raw w (.slice A0 n0 c0) ds) (HR1 : n1 ≤ 5 → ∃ ds, Raw w (.slice A1 n1 c1) ds) (HR2 : n2 ≤ 5 → ∃ ds, Raw w (.slice A2 n2 c2) ds) {v : Value} (HI : Ints w v) :
    Calls Tryz.prog 3 #[.agg #[.bool s0, .slice A0 n0 c0], .agg #[.bool s1, .slice A1 n1 c1], .agg #[.bool s2, .slice A2 n2 c2], v] w fun e w' => e = .returned (.bool true) ∧ Below w.heap.size w w' := by
  rcases Nat.lt_or_ge 5 n0 with k0 | k0
  · exact linemakes_big0 k0
  rcases Nat.lt_or_ge 5 n1 with k1 | k1
  · exact linemakes_big1 k0 k1
  rcases Nat.lt_or_ge 5 n2 with k2 | k2
  · exact linemakes_big2 k0 k1 k2
  obtain ⟨ds0, r0⟩ := HR0 k0
  obtain ⟨ds1, r1⟩ := HR1 k1
  obtain ⟨ds2, r2⟩ := HR2 k2
  exact linemakes_small (ri_raw r0 k0) (ri_raw r1 k1) (ri_raw r2 k2) k0 k1 k2 HI
end
end Go.Proofs.YtancgkmkbgkncaaGreat
