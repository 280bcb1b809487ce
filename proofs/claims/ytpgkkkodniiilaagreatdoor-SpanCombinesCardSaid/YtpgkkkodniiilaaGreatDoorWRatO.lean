/-
  The contracts of the reference's quotients.
-/
import Derived.Test.YtpgkkkodniiilaaGreatDoorWSq
import Derived.Test.YtpgkkkodniiilaaGreatDoorWRatR
import Derived.Deep.Cut
namespace Go.Proofs.YtpgkkkodniiilaaGreatDoor
open List (getElem_toArray getElem_cons_succ getElem_cons_zero setIfInBounds_toArray set_cons_zero set_cons_succ)
open Go.RowKit
section
variable {A0 A1 A2 A3 D0 D1 D2 D3 : Option Addr} {n0 n1 n2 n3 c0 c1 c2 c3 m0 m1 m2 m3 e0 e1 e2 e3 : Nat} {s0 s1 s2 s3 : Bool} {z z' z0 z1 z2 : Int} {q q' q0 q1 q2 : Rat} {L L0 L1 L2 x x0 x1 y : Nat} {k : Int} {w : World}
theorem over_mk {q q' : Rat} {s : Bool} (hs : s = decide (q'.num < 0)) : mkRat (q.num * sg s q'.den) (q.den * q'.num.natAbs) = q / q' := by
  have h0 : q / q' = mkRat q.num q.den / mkRat q'.num q'.den := by rw [Rat.mkRat_self, Rat.mkRat_self]
  rw [h0, div_mk]
  have hsg : q'.num = sg s q'.num.natAbs := by
    subst hs
    by_cases h : q'.num < 0
    · rw [decide_eq_true h, sg_true]; omega
    · rw [decide_eq_false h, sg_false]; omega
  generalize q'.num.natAbs = m at hsg ⊢
  rw [hsg]
  cases s
  · rw [sg_false, sg_false, ← Rat.divInt_ofNat, Int.natCast_mul, Int.mul_comm (m : Int)]
  · rw [sg_true, sg_true, Int.neg_mul, Rat.divInt_neg', ← Rat.divInt_ofNat, Int.natCast_mul, Int.mul_comm (m : Int), Int.mul_neg]
theorem over_ne {q' : Rat} (h : q' ≠ 0) : q'.num.natAbs ≠ 0 := fun h1 => h (Rat.num_eq_zero.1 (by omega))
set_option maxRecDepth 100000 in
set_option maxHeartbeats 800000 in
theorem nover_v (h : PQ w s0 (.slice A0 n0 c0) (.slice D0 m0 e0) q L) (h' : PQ w s1 (.slice A1 n1 c1) (.slice D1 m1 e1) q' L0) (hL : L ≤ 100) (hL' : L0 ≤ 100) (h0 : q' ≠ 0) :
    Calls Tryz.prog 138 #[.agg #[.bool s0, .slice A0 n0 c0, .slice D0 m0 e0], .agg #[.bool s1, .slice A1 n1 c1, .slice D1 m1 e1]] w fun e w' => ∃ s3 A3 n3 c3 D3 m3 e3, e = .returned (.agg #[.bool s3, .slice A3 n3 c3, .slice D3 m3 e3]) ∧ PQ w' s3 (.slice A3 n3 c3) (.slice D3 m3 e3) (q / q') (max L 1 + max L0 1) ∧ Below w.heap.size w w' := by
  have HE : Hid (q / q' = mkRat (q.num * sg s1 q'.den) (q.den * q'.num.natAbs)) := Lib.hid (over_mk h'.1.2).symm
  have HN : Hid (q.den * q'.num.natAbs ≠ 0) := Lib.hid (Nat.mul_ne_zero q.den_nz (over_ne h0))
  have h1 := h.1
  have h1' := h'.1.1
  clear h0
  go_enter Tryz.func138, Tryz.ntmps138
  go_wp2_with fail
  obtain ⟨W0, hW, b0, b1, b2, hbW, hszW0⟩ := boxes3 w #[.bool s0, .slice A0 n0 c0, .slice D0 m0 e0] #[.bool s1, .slice A1 n1 c1, .slice D1 m1 e1] #[.bool false, .slice none 0 0, .slice none 0 0] 37 37 37
  rw [hW]
  clear hW
  replace h := h.below hbW
  replace h' := h'.below hbW
  replace h1 := h1.below hbW
  replace h1' := h1'.below hbW
  have H0 := hbW
  clear hbW
  have lcb0_1 := b0.lt
  have lcb1_1 := b1.lt
  have lcb2_1 := b2.lt
  go_cut [5] from 6 (fun u1_0 wx => ∃ g1_0 s6 A6 n6 c6, u1_0 = .pointer (some ⟨g1_0, 0, none⟩) ∧ NI wx s6 (.slice A6 n6 c6) (q.num * sg s1 q'.den) (L + max L0 1) ∧ Box wx g1_0 #[.bool s6, .slice A6 n6 c6] 35 ∧ W0.heap.size ≤ g1_0 ∧ Below W0.heap.size W0 wx)
  case first =>
    have hG := drawn_below W0
    refine wp_region_noPanic ?_
    refine wp_region_held_drew (S := (fun V => V.cell? ⟨w.heap.size, 0, none⟩ = some (.bool s0) ∧ V.cell? ⟨w.heap.size, 1, none⟩ = some (.slice A0 n0 c0) ∧ V.cell? ⟨w.heap.size, 2, none⟩ = some (.slice D0 m0 e0) ∧ V.cell? ⟨w.heap.size + 1, 0, none⟩ = some (.bool s1) ∧ V.cell? ⟨w.heap.size + 1, 1, none⟩ = some (.slice A1 n1 c1) ∧ V.cell? ⟨w.heap.size + 1, 2, none⟩ = some (.slice D1 m1 e1))) (by kernel_rfl) ((b0.below hG).and3 ((b1.below hG).all3)) (fun hHeld => ?_)
    generalize W0.drew = v1 at hG hHeld ⊢
    have sG := hG.size
    refine todo [0, 1, 2, 3, 4, 5] ?_
    iterate 6
      refine tkT ?_ rfl (by kernel_rfl) (fun _ _ _ h => h) (by rfl) (by assumption) ?_ ?_
      rotate_left
      · (intro w hSw; (try dsimp only at hSw); go_simp; (try with_reducible rfl))
      (try simp only [getElem_toArray, getElem_cons_succ, getElem_cons_zero, Act.put, setIfInBounds_toArray, set_cons_zero, set_cons_succ])
    refine tdone ?_
    refine wpAnyH_ready (rs := [6, 9]) (by kernel_rfl) (by simp) (AllReadyH.cons (o := _) rfl (fun K hK => ?_) (AllReadyH.cons (o := _) rfl (fun K hK => ?_) AllReadyH.nil))
    · go_simp
      go_at_call 71
      refine (nden_v (h'.below hG)).mono ?_
      rintro e y1_1 ⟨A4, n4, c4, rfl, f4, hb9⟩
      have szy1_1 := hb9.size
      replace hG := hG.trans (hb9.mono sG)
      replace sG := hG.size
      clear hb9
      go_wp2_with fail
      refine hK.out _ _ ((b0.below hG).and3 ((b1.below hG).all3)) (fun hHeld => ?_)
      clear hK K
      (try simp only [getElem_toArray, getElem_cons_succ, getElem_cons_zero, Act.put, setIfInBounds_toArray, set_cons_zero, set_cons_succ])
      refine wpAnyH_ready (rs := [7, 9]) (by kernel_rfl) (by simp) (AllReadyH.cons (o := _) rfl (fun K hK => ?_) (AllReadyH.cons (o := _) rfl (fun K hK => ?_) AllReadyH.nil))
      · go_simp
        go_at_call 74
        refine (nmake_v s1 f4 rfl).mono ?_
        rintro e y1_2 ⟨s5, rfl, f5, hb9⟩
        have szy1_2 := hb9.size
        replace f4 := f4.below hb9
        replace hG := hG.trans (hb9.mono sG)
        replace sG := hG.size
        clear hb9
        clear f4
        go_wp2_with fail
        refine hK.out _ _ ((b0.below hG).and3 ((b1.below hG).all3)) (fun hHeld => ?_)
        clear hK K
        (try simp only [getElem_toArray, getElem_cons_succ, getElem_cons_zero, Act.put, setIfInBounds_toArray, set_cons_zero, set_cons_succ])
        refine wpAnyH_ready (rs := [8, 9]) (by kernel_rfl) (by simp) (AllReadyH.cons (o := _) rfl (fun K hK => ?_) (AllReadyH.cons (o := _) rfl (fun K hK => ?_) AllReadyH.nil))
        · go_simp
          go_at_call 73
          refine (nmul_v (h1.below hG) f5 (by omega) (by omega)).mono ?_
          rintro e y1_3 ⟨s6, A6, n6, c6, rfl, f6, hb9⟩
          have szy1_3 := hb9.size
          replace f5 := f5.below hb9
          replace hG := hG.trans (hb9.mono sG)
          replace sG := hG.size
          clear hb9
          clear f5
          go_wp2_with fail
          refine hK.out _ _ ((b0.below hG).and3 ((b1.below hG).all3)) (fun hHeld => ?_)
          clear hK K
          (try simp only [getElem_toArray, getElem_cons_succ, getElem_cons_zero, Act.put, setIfInBounds_toArray, set_cons_zero, set_cons_succ])
          refine rd1 9 (by kernel_rfl) rfl (fun K hK => ?_)
          go_simp
          obtain ⟨y1_4, hV, b3, hb9, szy1_4⟩ := boxes1 y1_3 #[.bool false, .slice none 0 0] 35
          rw [hV]
          clear hV
          have gly1_4 : W0.heap.size ≤ y1_3.heap.size := sG
          replace f6 := f6.below hb9
          replace hG := hG.trans (hb9.mono sG)
          replace sG := hG.size
          clear hb9
          refine hK.out _ _ ((b0.below hG).and3 ((b1.below hG).all3)) (fun hHeld => ?_)
          clear hK K
          (try simp only [getElem_toArray, getElem_cons_succ, getElem_cons_zero, Act.put, setIfInBounds_toArray, set_cons_zero, set_cons_succ])
          have rb30 := b3.cell 0 _ rfl
          have qb30 := b3.frozen 0
          have rb31 := b3.cell 1 _ rfl
          have qb31 := b3.frozen 1
          refine rd1 10 (by kernel_rfl) rfl (fun K hK => ?_)
          go_simp
          clear rb30 qb30
          clear rb31 qb31
          have hg := only_store y1_4 (y1_3.heap.size) (.bool s6) (.slice A6 n6 c6)
          have hB := b3.stored (.bool s6) (.slice A6 n6 c6)
          generalize hX : ((y1_4.setCell ⟨y1_3.heap.size, 0, none⟩ (.bool s6)).setCell ⟨y1_3.heap.size, 1, none⟩ (.slice A6 n6 c6)) = Y1_5 at hg hB ⊢
          clear hX
          replace f6 := f6.kept b3 (by simp [notInt]) hg
          replace b3 := hB
          replace hG := below_only hG hg (by omega) sG
          replace sG := hG.size
          clear hg hB
          refine hK.out _ _ ((b0.below hG).and3 ((b1.below hG).all3)) (fun hHeld => ?_)
          clear hK K
          (try simp only [getElem_toArray, getElem_cons_succ, getElem_cons_zero, Act.put, setIfInBounds_toArray, set_cons_zero, set_cons_succ])
          refine wpAnyH_done (by kernel_rfl) ?_ _
          refine NoPanic.normal ?_
          go_wp2_with fail
          go_meet
          exact ⟨y1_3.heap.size, s6, A6, n6, c6, rfl, f6.more (by omega), b3, (by omega), hG⟩
        · go_simp
          obtain ⟨y1_6, hV, b3, hb9, szy1_6⟩ := boxes1 y1_2 #[.bool false, .slice none 0 0] 35
          rw [hV]
          clear hV
          have gly1_6 : W0.heap.size ≤ y1_2.heap.size := sG
          replace f5 := f5.below hb9
          replace hG := hG.trans (hb9.mono sG)
          replace sG := hG.size
          clear hb9
          refine hK.out _ _ ((b0.below hG).and3 ((b1.below hG).all3)) (fun hHeld => ?_)
          clear hK K
          (try simp only [getElem_toArray, getElem_cons_succ, getElem_cons_zero, Act.put, setIfInBounds_toArray, set_cons_zero, set_cons_succ])
          refine rd1 8 (by kernel_rfl) rfl (fun K hK => ?_)
          go_simp
          go_at_call 73
          refine (nmul_v (h1.below hG) f5 (by omega) (by omega)).mono ?_
          rintro e y1_7 ⟨s6, A6, n6, c6, rfl, f6, hb9⟩
          have szy1_7 := hb9.size
          replace f5 := f5.below hb9
          replace b3 := b3.below hb9
          replace hG := hG.trans (hb9.mono sG)
          replace sG := hG.size
          clear hb9
          clear f5
          go_wp2_with fail
          refine hK.out _ _ ((b0.below hG).and3 ((b1.below hG).all3)) (fun hHeld => ?_)
          clear hK K
          (try simp only [getElem_toArray, getElem_cons_succ, getElem_cons_zero, Act.put, setIfInBounds_toArray, set_cons_zero, set_cons_succ])
          have rb30 := b3.cell 0 _ rfl
          have qb30 := b3.frozen 0
          have rb31 := b3.cell 1 _ rfl
          have qb31 := b3.frozen 1
          refine rd1 10 (by kernel_rfl) rfl (fun K hK => ?_)
          go_simp
          clear rb30 qb30
          clear rb31 qb31
          have hg := only_store y1_7 (y1_2.heap.size) (.bool s6) (.slice A6 n6 c6)
          have hB := b3.stored (.bool s6) (.slice A6 n6 c6)
          generalize hX : ((y1_7.setCell ⟨y1_2.heap.size, 0, none⟩ (.bool s6)).setCell ⟨y1_2.heap.size, 1, none⟩ (.slice A6 n6 c6)) = Y1_8 at hg hB ⊢
          clear hX
          replace f6 := f6.kept b3 (by simp [notInt]) hg
          replace b3 := hB
          replace hG := below_only hG hg (by omega) sG
          replace sG := hG.size
          clear hg hB
          refine hK.out _ _ ((b0.below hG).and3 ((b1.below hG).all3)) (fun hHeld => ?_)
          clear hK K
          (try simp only [getElem_toArray, getElem_cons_succ, getElem_cons_zero, Act.put, setIfInBounds_toArray, set_cons_zero, set_cons_succ])
          refine wpAnyH_done (by kernel_rfl) ?_ _
          refine NoPanic.normal ?_
          go_wp2_with fail
          go_meet
          exact ⟨y1_2.heap.size, s6, A6, n6, c6, rfl, f6.more (by omega), b3, (by omega), hG⟩
      · go_simp
        obtain ⟨y1_9, hV, b3, hb9, szy1_9⟩ := boxes1 y1_1 #[.bool false, .slice none 0 0] 35
        rw [hV]
        clear hV
        have gly1_9 : W0.heap.size ≤ y1_1.heap.size := sG
        replace f4 := f4.below hb9
        replace hG := hG.trans (hb9.mono sG)
        replace sG := hG.size
        clear hb9
        refine hK.out _ _ ((b0.below hG).and3 ((b1.below hG).all3)) (fun hHeld => ?_)
        clear hK K
        (try simp only [getElem_toArray, getElem_cons_succ, getElem_cons_zero, Act.put, setIfInBounds_toArray, set_cons_zero, set_cons_succ])
        refine rd1 7 (by kernel_rfl) rfl (fun K hK => ?_)
        go_simp
        go_at_call 74
        refine (nmake_v s1 f4 rfl).mono ?_
        rintro e y1_10 ⟨s5, rfl, f5, hb9⟩
        have szy1_10 := hb9.size
        replace f4 := f4.below hb9
        replace b3 := b3.below hb9
        replace hG := hG.trans (hb9.mono sG)
        replace sG := hG.size
        clear hb9
        clear f4
        go_wp2_with fail
        refine hK.out _ _ ((b0.below hG).and3 ((b1.below hG).all3)) (fun hHeld => ?_)
        clear hK K
        (try simp only [getElem_toArray, getElem_cons_succ, getElem_cons_zero, Act.put, setIfInBounds_toArray, set_cons_zero, set_cons_succ])
        refine rd1 8 (by kernel_rfl) rfl (fun K hK => ?_)
        go_simp
        go_at_call 73
        refine (nmul_v (h1.below hG) f5 (by omega) (by omega)).mono ?_
        rintro e y1_11 ⟨s6, A6, n6, c6, rfl, f6, hb9⟩
        have szy1_11 := hb9.size
        replace f5 := f5.below hb9
        replace b3 := b3.below hb9
        replace hG := hG.trans (hb9.mono sG)
        replace sG := hG.size
        clear hb9
        clear f5
        go_wp2_with fail
        refine hK.out _ _ ((b0.below hG).and3 ((b1.below hG).all3)) (fun hHeld => ?_)
        clear hK K
        (try simp only [getElem_toArray, getElem_cons_succ, getElem_cons_zero, Act.put, setIfInBounds_toArray, set_cons_zero, set_cons_succ])
        have rb30 := b3.cell 0 _ rfl
        have qb30 := b3.frozen 0
        have rb31 := b3.cell 1 _ rfl
        have qb31 := b3.frozen 1
        refine rd1 10 (by kernel_rfl) rfl (fun K hK => ?_)
        go_simp
        clear rb30 qb30
        clear rb31 qb31
        have hg := only_store y1_11 (y1_1.heap.size) (.bool s6) (.slice A6 n6 c6)
        have hB := b3.stored (.bool s6) (.slice A6 n6 c6)
        generalize hX : ((y1_11.setCell ⟨y1_1.heap.size, 0, none⟩ (.bool s6)).setCell ⟨y1_1.heap.size, 1, none⟩ (.slice A6 n6 c6)) = Y1_12 at hg hB ⊢
        clear hX
        replace f6 := f6.kept b3 (by simp [notInt]) hg
        replace b3 := hB
        replace hG := below_only hG hg (by omega) sG
        replace sG := hG.size
        clear hg hB
        refine hK.out _ _ ((b0.below hG).and3 ((b1.below hG).all3)) (fun hHeld => ?_)
        clear hK K
        (try simp only [getElem_toArray, getElem_cons_succ, getElem_cons_zero, Act.put, setIfInBounds_toArray, set_cons_zero, set_cons_succ])
        refine wpAnyH_done (by kernel_rfl) ?_ _
        refine NoPanic.normal ?_
        go_wp2_with fail
        go_meet
        exact ⟨y1_1.heap.size, s6, A6, n6, c6, rfl, f6.more (by omega), b3, (by omega), hG⟩
    · go_simp
      obtain ⟨y1_13, hV, b3, hb9, szy1_13⟩ := boxes1 v1 #[.bool false, .slice none 0 0] 35
      rw [hV]
      clear hV
      have gly1_13 : W0.heap.size ≤ v1.heap.size := sG
      replace hG := hG.trans (hb9.mono sG)
      replace sG := hG.size
      clear hb9
      refine hK.out _ _ ((b0.below hG).and3 ((b1.below hG).all3)) (fun hHeld => ?_)
      clear hK K
      (try simp only [getElem_toArray, getElem_cons_succ, getElem_cons_zero, Act.put, setIfInBounds_toArray, set_cons_zero, set_cons_succ])
      refine rd1 6 (by kernel_rfl) rfl (fun K hK => ?_)
      go_simp
      go_at_call 71
      refine (nden_v (h'.below hG)).mono ?_
      rintro e y1_14 ⟨A4, n4, c4, rfl, f4, hb9⟩
      have szy1_14 := hb9.size
      replace b3 := b3.below hb9
      replace hG := hG.trans (hb9.mono sG)
      replace sG := hG.size
      clear hb9
      go_wp2_with fail
      refine hK.out _ _ ((b0.below hG).and3 ((b1.below hG).all3)) (fun hHeld => ?_)
      clear hK K
      (try simp only [getElem_toArray, getElem_cons_succ, getElem_cons_zero, Act.put, setIfInBounds_toArray, set_cons_zero, set_cons_succ])
      refine rd1 7 (by kernel_rfl) rfl (fun K hK => ?_)
      go_simp
      go_at_call 74
      refine (nmake_v s1 f4 rfl).mono ?_
      rintro e y1_15 ⟨s5, rfl, f5, hb9⟩
      have szy1_15 := hb9.size
      replace f4 := f4.below hb9
      replace b3 := b3.below hb9
      replace hG := hG.trans (hb9.mono sG)
      replace sG := hG.size
      clear hb9
      clear f4
      go_wp2_with fail
      refine hK.out _ _ ((b0.below hG).and3 ((b1.below hG).all3)) (fun hHeld => ?_)
      clear hK K
      (try simp only [getElem_toArray, getElem_cons_succ, getElem_cons_zero, Act.put, setIfInBounds_toArray, set_cons_zero, set_cons_succ])
      refine rd1 8 (by kernel_rfl) rfl (fun K hK => ?_)
      go_simp
      go_at_call 73
      refine (nmul_v (h1.below hG) f5 (by omega) (by omega)).mono ?_
      rintro e y1_16 ⟨s6, A6, n6, c6, rfl, f6, hb9⟩
      have szy1_16 := hb9.size
      replace f5 := f5.below hb9
      replace b3 := b3.below hb9
      replace hG := hG.trans (hb9.mono sG)
      replace sG := hG.size
      clear hb9
      clear f5
      go_wp2_with fail
      refine hK.out _ _ ((b0.below hG).and3 ((b1.below hG).all3)) (fun hHeld => ?_)
      clear hK K
      (try simp only [getElem_toArray, getElem_cons_succ, getElem_cons_zero, Act.put, setIfInBounds_toArray, set_cons_zero, set_cons_succ])
      have rb30 := b3.cell 0 _ rfl
      have qb30 := b3.frozen 0
      have rb31 := b3.cell 1 _ rfl
      have qb31 := b3.frozen 1
      refine rd1 10 (by kernel_rfl) rfl (fun K hK => ?_)
      go_simp
      clear rb30 qb30
      clear rb31 qb31
      have hg := only_store y1_16 (v1.heap.size) (.bool s6) (.slice A6 n6 c6)
      have hB := b3.stored (.bool s6) (.slice A6 n6 c6)
      generalize hX : ((y1_16.setCell ⟨v1.heap.size, 0, none⟩ (.bool s6)).setCell ⟨v1.heap.size, 1, none⟩ (.slice A6 n6 c6)) = Y1_17 at hg hB ⊢
      clear hX
      replace f6 := f6.kept b3 (by simp [notInt]) hg
      replace b3 := hB
      replace hG := below_only hG hg (by omega) sG
      replace sG := hG.size
      clear hg hB
      refine hK.out _ _ ((b0.below hG).and3 ((b1.below hG).all3)) (fun hHeld => ?_)
      clear hK K
      (try simp only [getElem_toArray, getElem_cons_succ, getElem_cons_zero, Act.put, setIfInBounds_toArray, set_cons_zero, set_cons_succ])
      refine wpAnyH_done (by kernel_rfl) ?_ _
      refine NoPanic.normal ?_
      go_wp2_with fail
      go_meet
      exact ⟨v1.heap.size, s6, A6, n6, c6, rfl, f6.more (by omega), b3, (by omega), hG⟩
  obtain ⟨g1_0, s6, A6, n6, c6, rfl, f6, b3, glg1_0, hG⟩ := hcut
  replace h := h.below hG
  replace h' := h'.below hG
  replace h1 := h1.below hG
  replace h1' := h1'.below hG
  replace b0 := b0.below hG
  replace b1 := b1.below hG
  replace b2 := b2.below hG
  replace H0 := H0.trans (hG.mono H0.size)
  clear hG
  clear h'
  clear h1
  obtain ⟨cb00, cb01, cb02⟩ := b0.cells3
  obtain ⟨cb10, cb11, cb12⟩ := b1.cells3
  obtain ⟨cb30, cb31⟩ := b3.cells2
  go_wp2_with fail
  clear cb00 cb01 cb02 cb10 cb11 cb12 cb30 cb31
  have hD := drawn_below wc
  replace h := h.below hD
  replace h1' := h1'.below hD
  replace f6 := f6.below hD
  replace b0 := b0.below hD
  replace b1 := b1.below hD
  replace b2 := b2.below hD
  replace b3 := b3.below hD
  replace H0 := H0.trans (hD.mono H0.size)
  clear hD
  have K0 := (b0.and3 (b1.and3 (b3.all2)))
  go_region_held3 (fun V => V.cell? ⟨w.heap.size, 0, none⟩ = some (.bool s0) ∧ V.cell? ⟨w.heap.size, 1, none⟩ = some (.slice A0 n0 c0) ∧ V.cell? ⟨w.heap.size, 2, none⟩ = some (.slice D0 m0 e0) ∧ V.cell? ⟨w.heap.size + 1, 0, none⟩ = some (.bool s1) ∧ V.cell? ⟨w.heap.size + 1, 1, none⟩ = some (.slice A1 n1 c1) ∧ V.cell? ⟨w.heap.size + 1, 2, none⟩ = some (.slice D1 m1 e1) ∧ V.cell? ⟨g1_0, 0, none⟩ = some (.bool s6) ∧ V.cell? ⟨g1_0, 1, none⟩ = some (.slice A6 n6 c6)) (first | exact KS | exact K3 | exact K2 | exact K1 | exact K0 | go_keep)
    (first
      | (go_at_call 59; have hK9 := K2; clear hK9; with_reducible refine (nfrac_v (L := max L 1 + max L0 1) (f6.more (by omega)) (NV.more f8 (by omega)) HN.out (by omega)).mono ?_; rintro e v5 ⟨s9, A9, n9, c9, D9, m9, e9, rfl, fq, hb⟩; have f6 := f6.below hb; have f8 := f8.below hb; have b0 := b0.below hb; have b1 := b1.below hb; have b2 := b2.below hb; have b3 := b3.below hb; have H0 := H0.trans (hb.mono H0.size); clear f6; clear f8; have K3 := (b0.and3 (b1.and3 (b3.all2))); have r0 := b2.cell 0 _ rfl; have f_0 := b2.frozen 0; have r1 := b2.cell 1 _ rfl; have f_1 := b2.frozen 1; have r2 := b2.cell 2 _ rfl; have f_2 := b2.frozen 2; have hg := only_store3 v5 (w.heap.size + 1 + 1) (.bool s9) (.slice A9 n9 c9) (.slice D9 m9 e9); have KS := ((b0.other hg (by omega)).and3 ((b1.other hg (by omega)).and3 ((b3.other hg (by omega)).all2))); clear hb)
      | (go_at_call 75; have hK9 := K1; clear hK9; with_reducible refine (nprod_v f7 h1' (by omega) (by omega)).mono ?_; rintro e v4 ⟨A8, n8, c8, rfl, f8, hb⟩; have h1' := h1'.below hb; have f6 := f6.below hb; have f7 := f7.below hb; have b0 := b0.below hb; have b1 := b1.below hb; have b2 := b2.below hb; have b3 := b3.below hb; have H0 := H0.trans (hb.mono H0.size); clear f7; clear h1'; have K2 := (b0.and3 (b1.and3 (b3.all2))); clear hb)
      | (go_at_call 71; have hK9 := K0; clear hK9; with_reducible refine (nden_v h).mono ?_; rintro e v3 ⟨A7, n7, c7, rfl, f7, hb⟩; have h := h.below hb; have h1' := h1'.below hb; have f6 := f6.below hb; have b0 := b0.below hb; have b1 := b1.below hb; have b2 := b2.below hb; have b3 := b3.below hb; have H0 := H0.trans (hb.mono H0.size); clear h; have K1 := (b0.and3 (b1.and3 (b3.all2))); clear hb)
    )
  have hB := b2.stored3 (.bool s9) (.slice A9 n9 c9) (.slice D9 m9 e9)
  go_wp2_with fail
  generalize hX : (((v5.setCell ⟨w.heap.size + 1 + 1, 0, none⟩ (.bool s9)).setCell ⟨w.heap.size + 1 + 1, 1, none⟩ (.slice A9 n9 c9)).setCell ⟨w.heap.size + 1 + 1, 2, none⟩ (.slice D9 m9 e9)) = X6 at hg hB ⊢
  clear hX r0 f_0 r1 f_1 r2 f_2
  replace fq := fq.kept b2 (by simp [notInt]) hg
  replace b0 := b0.other hg (by omega)
  replace b1 := b1.other hg (by omega)
  replace b3 := b3.other hg (by omega)
  replace b2 := hB
  replace H0 := below_only H0 hg (by omega) H0.size
  clear hg hB
  refine bodyPost_ret (ret_numq rfl rfl b2) rfl ?_
  exact ⟨s9, A9, n9, c9, D9, m9, e9, rfl, by rw [HE.out]; exact fq, H0⟩
set_option maxRecDepth 100000 in
set_option maxHeartbeats 800000 in
theorem nhalf_v (h : PQ w s0 (.slice A0 n0 c0) (.slice D0 m0 e0) q L) (hL : L ≤ 100) :
    Calls Tryz.prog 111 #[.agg #[.bool s0, .slice A0 n0 c0, .slice D0 m0 e0]] w fun e w' => ∃ s2 A2 n2 c2 D2 m2 e2, e = .returned (.agg #[.bool s2, .slice A2 n2 c2, .slice D2 m2 e2]) ∧ PQ w' s2 (.slice A2 n2 c2) (.slice D2 m2 e2) (q / 2) (max L 1 + 2) ∧ Below w.heap.size w w' := by
  have HI := Lib.hid (fun W => nof_v 2 (by omega) (by omega) W)
  go_enter Tryz.func111, Tryz.ntmps111
  go_wp2_with fail
  obtain ⟨W0, hW, b0, b1, hbW, hszW0⟩ := boxes2 w #[.bool s0, .slice A0 n0 c0, .slice D0 m0 e0] #[.bool false, .slice none 0 0, .slice none 0 0] 37 37
  rw [hW]
  clear hW
  replace h := h.below hbW
  have H0 := hbW
  clear hbW
  have hD := drawn_below W0
  replace h := h.below hD
  replace b0 := b0.below hD
  replace b1 := b1.below hD
  replace H0 := H0.trans (hD.mono H0.size)
  clear hD
  have K0 := (b0.all3)
  go_region_held3 (fun V => V.cell? ⟨w.heap.size, 0, none⟩ = some (.bool s0) ∧ V.cell? ⟨w.heap.size, 1, none⟩ = some (.slice A0 n0 c0) ∧ V.cell? ⟨w.heap.size, 2, none⟩ = some (.slice D0 m0 e0)) (first | exact KS | exact K2 | exact K1 | exact K0 | go_keep)
    (first
      | (go_at_call 138; have hK9 := K1; clear hK9; with_reducible refine (nover_v h f1 (by omega) (by omega) (by decide)).mono ?_; rintro e v2 ⟨s2, A2, n2, c2, D2, m2, e2, rfl, fq, hb⟩; have h := h.below hb; have f1 := f1.below hb; have b0 := b0.below hb; have b1 := b1.below hb; have H0 := H0.trans (hb.mono H0.size); clear f1; clear h; have K2 := (b0.all3); have r0 := b1.cell 0 _ rfl; have f_0 := b1.frozen 0; have r1 := b1.cell 1 _ rfl; have f_1 := b1.frozen 1; have r2 := b1.cell 2 _ rfl; have f_2 := b1.frozen 2; have hg := only_store3 v2 (w.heap.size + 1) (.bool s2) (.slice A2 n2 c2) (.slice D2 m2 e2); have KS := ((b0.other hg (by omega)).all3); clear hb)
      | (go_at_call 42; have hK9 := K0; clear hK9; with_reducible refine (HI.out _).mono ?_; rintro e v1 ⟨s1, A1, n1, c1, D1, m1, e1, rfl, f1, hb⟩; have h := h.below hb; have b0 := b0.below hb; have b1 := b1.below hb; have H0 := H0.trans (hb.mono H0.size); have K1 := (b0.all3); clear hb)
    )
  have hB := b1.stored3 (.bool s2) (.slice A2 n2 c2) (.slice D2 m2 e2)
  go_wp2_with fail
  generalize hX : (((v2.setCell ⟨w.heap.size + 1, 0, none⟩ (.bool s2)).setCell ⟨w.heap.size + 1, 1, none⟩ (.slice A2 n2 c2)).setCell ⟨w.heap.size + 1, 2, none⟩ (.slice D2 m2 e2)) = X3 at hg hB ⊢
  clear hX r0 f_0 r1 f_1 r2 f_2
  replace fq := fq.kept b1 (by simp [notInt]) hg
  replace b0 := b0.other hg (by omega)
  replace b1 := hB
  replace H0 := below_only H0 hg (by omega) H0.size
  clear hg hB
  refine bodyPost_ret (ret_numq rfl rfl b1) rfl ?_
  exact ⟨s2, A2, n2, c2, D2, m2, e2, rfl, fq.more (by omega), H0⟩
set_option maxRecDepth 100000 in
set_option maxHeartbeats 800000 in
theorem nmid_v (h : PQ w s0 (.slice A0 n0 c0) (.slice D0 m0 e0) q L) (h' : PQ w s1 (.slice A1 n1 c1) (.slice D1 m1 e1) q' L0) (hL : L ≤ 40) (hL' : L0 ≤ 40) :
    Calls Tryz.prog 85 #[.agg #[.bool s0, .slice A0 n0 c0, .slice D0 m0 e0], .agg #[.bool s1, .slice A1 n1 c1, .slice D1 m1 e1]] w fun e w' => ∃ s2 A2 n2 c2 D2 m2 e2, e = .returned (.agg #[.bool s2, .slice A2 n2 c2, .slice D2 m2 e2]) ∧ PQ w' s2 (.slice A2 n2 c2) (.slice D2 m2 e2) ((q + q') / 2) (max L 1 + max L0 1 + 3) ∧ Below w.heap.size w w' := by
  go_enter Tryz.func85, Tryz.ntmps85
  go_wp2_with fail
  obtain ⟨W0, hW, b0, b1, b2, hbW, hszW0⟩ := boxes3 w #[.bool s0, .slice A0 n0 c0, .slice D0 m0 e0] #[.bool s1, .slice A1 n1 c1, .slice D1 m1 e1] #[.bool false, .slice none 0 0, .slice none 0 0] 37 37 37
  rw [hW]
  clear hW
  replace h := h.below hbW
  replace h' := h'.below hbW
  have H0 := hbW
  clear hbW
  obtain ⟨cb00, cb01, cb02⟩ := b0.cells3
  obtain ⟨cb10, cb11, cb12⟩ := b1.cells3
  go_wp2_with fail
  clear cb00 cb01 cb02 cb10 cb11 cb12
  refine (nplus_v h h' (by omega) (by omega)).mono ?_
  rintro e w1 ⟨s3, A3, n3, c3, D3, m3, e3, rfl, f3, hb⟩
  replace h := h.below hb
  replace h' := h'.below hb
  replace b0 := b0.below hb
  replace b1 := b1.below hb
  replace b2 := b2.below hb
  replace H0 := H0.trans (hb.mono H0.size)
  clear hb
  go_wp2_with fail
  clear h
  clear h'
  refine (nhalf_v f3 (by omega)).mono ?_
  rintro e w2 ⟨s4, A4, n4, c4, D4, m4, e4, rfl, fq, hb⟩
  replace f3 := f3.below hb
  replace b0 := b0.below hb
  replace b1 := b1.below hb
  replace b2 := b2.below hb
  replace H0 := H0.trans (hb.mono H0.size)
  clear hb
  obtain ⟨cb20, yb20, cb21, yb21, cb22, yb22⟩ := b2.cf3
  clear f3
  clear cb20 yb20 cb21 yb21 cb22 yb22
  obtain ⟨cb20, yb20, cb21, yb21, cb22, yb22⟩ := b2.cf3
  go_wp2_with fail
  clear cb20 yb20 cb21 yb21 cb22 yb22
  have hg := only_store3 w2 (w.heap.size + 1 + 1) (.bool s4) (.slice A4 n4 c4) (.slice D4 m4 e4)
  have hB := b2.stored3 (.bool s4) (.slice A4 n4 c4) (.slice D4 m4 e4)
  generalize hX : (((w2.setCell ⟨w.heap.size + 1 + 1, 0, none⟩ (.bool s4)).setCell ⟨w.heap.size + 1 + 1, 1, none⟩ (.slice A4 n4 c4)).setCell ⟨w.heap.size + 1 + 1, 2, none⟩ (.slice D4 m4 e4)) = X3 at hg hB ⊢
  clear hX
  replace fq := fq.kept b2 (by simp [notInt]) hg
  replace b0 := b0.other hg (by omega)
  replace b1 := b1.other hg (by omega)
  replace b2 := hB
  replace H0 := below_only H0 hg (by omega) H0.size
  clear hg hB
  refine bodyPost_ret (ret_numq rfl rfl b2) rfl ?_
  exact ⟨s4, A4, n4, c4, D4, m4, e4, rfl, fq.more (by omega), H0⟩
end
end Go.Proofs.YtpgkkkodniiilaaGreatDoor
