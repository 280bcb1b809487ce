/-
  The walk of the law IntegerForms: its beginning.
-/
import Derived.Test.YtacfdcfkfjildaaDoorFormI
import Derived.Test.YtacfdcfkfjildaaDoorSmall2
import Derived.Deep.Cut
namespace Go.Proofs.YtacfdcfkfjildaaDoor
open Go.RowKit

set_option maxRecDepth 100000 in
set_option maxHeartbeats 16000000 in
theorem integerforms_small {A A' : Option Addr} {n n' c c' : Nat} {s s' : Bool} {za zb z : Int} {w : World} {ds : List Nat} (h : n ≤ 20) (h' : n' ≤ 20) (fa0 : RI w s (.slice A n c) za 20) (fb0 : RI w s' (.slice A' n' c') zb 20) (fr0 : Raw w (.slice A n c) ds) (hz0 : -9223372036854775808 ≤ z) (hz1 : z ≤ 9223372036854775807) :
    Calls Tryd.prog 9 #[.agg #[.bool s, .slice A n c], .agg #[.bool s', .slice A' n' c'], .int .i64 z] w fun e w' => e = .returned (.bool true) ∧ Below w.heap.size w w' := by
  go_enter Tryd.func9, Tryd.ntmps9
  go_wp2_with fail
  obtain ⟨W, hW, b0, b1, b2, hbW, hsz⟩ := boxes3 w #[.bool s, .slice A n c] #[.bool s', .slice A' n' c'] #[.slice A n c, .slice A' n' c'] 64 64 23
  rw [hW]
  refine (smallb_yes (b2.cell 0 _ rfl) (b2.cell 1 _ rfl) h h').mono ?_
  rintro e w' ⟨rfl, rfl⟩
  have fa := fa0.below hbW
  have fb := fb0.below hbW
  have fr := fr0.below hbW
  clear hW fa0 fb0 fr0
  go_wp2_with fail
  go_cut [7, 8] from 14 (fun s7 s8 wx => ∃ g7 g8 t7 B7 k7 d7 t8 B8 k8 d8, s7 = .pointer (some ⟨g7, 0, none⟩) ∧ s8 = .pointer (some ⟨g8, 0, none⟩) ∧ NI wx t7 (.slice B7 k7 d7) za 20 ∧ NI wx t8 (.slice B8 k8 d8) zb 20 ∧ Box wx g7 #[.bool t7, .slice B7 k7 d7] 66 ∧ Box wx g8 #[.bool t8, .slice B8 k8 d8] 66 ∧ Below W.heap.size W wx)
  case first =>
    refine wp_region_noPanic ?_
    refine wp_region_held_drew (S := (fun V => V.cell? ⟨w.heap.size, 0, none⟩ = some (.bool s) ∧ V.cell? ⟨w.heap.size, 1, none⟩ = some (.slice A n c) ∧ V.cell? ⟨w.heap.size + 1, 0, none⟩ = some (.bool s') ∧ V.cell? ⟨w.heap.size + 1, 1, none⟩ = some (.slice A' n' c'))) (by kernel_rfl) ?_ (fun hHeld => ?_)
    · exact ⟨b0.cell 0 _ rfl, b0.cell 1 _ rfl, b1.cell 0 _ rfl, b1.cell 1 _ rfl⟩
    have hG := drawn_below W
    generalize W.drew = v at hG hHeld ⊢
    have sG := hG.size
    have sG0 := sG
    refine wpAnyH_take (i := 0) (v := ?_) rfl (by kernel_rfl) (by kernel_rfl) (by kernel_rfl) (fun _ _ _ h => h) (Or.inl ⟨by rfl, ?_⟩) (by assumption) ?_
    rotate_left
    · (intro w hSw; (try dsimp only at hSw); go_simp; (try with_reducible rfl))
    (try simp only [List.getElem_toArray, List.getElem_cons_zero, Act.put, List.setIfInBounds_toArray, List.set_cons_zero, List.set_cons_succ])
    refine wpAnyH_take (i := 2) (v := ?_) rfl (by kernel_rfl) (by kernel_rfl) (by kernel_rfl) (fun _ _ _ h => h) (Or.inl ⟨by rfl, ?_⟩) (by assumption) ?_
    rotate_left
    · (intro w hSw; (try dsimp only at hSw); go_simp; (try with_reducible rfl))
    (try simp only [List.getElem_toArray, List.getElem_cons_succ, List.getElem_cons_zero, Act.put, List.setIfInBounds_toArray, List.set_cons_zero, List.set_cons_succ])
    refine wpAnyH_ready (rs := [1, 4, 5]) (by kernel_rfl) (by simp) (AllReadyH.cons (o := _) rfl (fun K hK => ?_) (AllReadyH.cons (o := _) rfl (fun K hK => ?_) (AllReadyH.cons (o := _) rfl (fun K hK => ?_) AllReadyH.nil)))
    · go_simp
      go_at_call 44
      refine (refI_v (fa.below hG)).mono ?_
      rintro e v1 ⟨t7, B7, k7, d7, rfl, hI7, hb9⟩
      have szv1 := hb9.size
      replace hG := hG.trans (hb9.mono sG)
      replace sG := hG.size
      clear hb9
      go_wp2_with fail
      refine hK.out _ _ ?_ (fun hHeld => ?_)
      · exact ⟨(b0.below hG).cell 0 _ rfl, (b0.below hG).cell 1 _ rfl, (b1.below hG).cell 0 _ rfl, (b1.below hG).cell 1 _ rfl⟩
      clear hK K
      (try simp only [List.getElem_toArray, List.getElem_cons_succ, List.getElem_cons_zero, Act.put, List.setIfInBounds_toArray, List.set_cons_zero, List.set_cons_succ])
      refine wpAnyH_ready (rs := [3, 4, 5]) (by kernel_rfl) (by simp) (AllReadyH.cons (o := _) rfl (fun K hK => ?_) (AllReadyH.cons (o := _) rfl (fun K hK => ?_) (AllReadyH.cons (o := _) rfl (fun K hK => ?_) AllReadyH.nil)))
      · go_simp
        go_at_call 44
        refine (refI_v (fb.below hG)).mono ?_
        rintro e v13 ⟨t8, B8, k8, d8, rfl, hI8, hb9⟩
        have szv13 := hb9.size
        replace hI7 := hI7.below hb9
        replace hG := hG.trans (hb9.mono sG)
        replace sG := hG.size
        clear hb9
        go_wp2_with fail
        refine hK.out _ _ ?_ (fun hHeld => ?_)
        · exact ⟨(b0.below hG).cell 0 _ rfl, (b0.below hG).cell 1 _ rfl, (b1.below hG).cell 0 _ rfl, (b1.below hG).cell 1 _ rfl⟩
        clear hK K
        (try simp only [List.getElem_toArray, List.getElem_cons_succ, List.getElem_cons_zero, Act.put, List.setIfInBounds_toArray, List.set_cons_zero, List.set_cons_succ])
        refine wpAnyH_ready (rs := [4, 5]) (by kernel_rfl) (by simp) (AllReadyH.cons (o := _) rfl (fun K hK => ?_) (AllReadyH.cons (o := _) rfl (fun K hK => ?_) AllReadyH.nil))
        · go_simp
          obtain ⟨v134, hV, x7, hb9, szv134⟩ := boxes1 v13 #[.bool false, .slice none 0 0] 66
          rw [hV]
          clear hV
          replace szv134 : v13.heap.size < v134.heap.size := by omega
          replace hI7 := hI7.below hb9
          replace hI8 := hI8.below hb9
          replace hG := hG.trans (hb9.mono sG)
          replace sG := hG.size
          clear hb9
          refine hK.out _ _ ?_ (fun hHeld => ?_)
          · exact ⟨(b0.below hG).cell 0 _ rfl, (b0.below hG).cell 1 _ rfl, (b1.below hG).cell 0 _ rfl, (b1.below hG).cell 1 _ rfl⟩
          clear hK K
          (try simp only [List.getElem_toArray, List.getElem_cons_succ, List.getElem_cons_zero, Act.put, List.setIfInBounds_toArray, List.set_cons_zero, List.set_cons_succ])
          refine wpAnyH_ready (rs := [5]) (by kernel_rfl) (by simp) (AllReadyH.cons (o := _) rfl (fun K hK => ?_) AllReadyH.nil)
          go_simp
          obtain ⟨v1345, hV, x8, hb9, szv1345⟩ := boxes1 v134 #[.bool false, .slice none 0 0] 66
          rw [hV]
          clear hV
          replace szv1345 : v134.heap.size < v1345.heap.size := by omega
          replace x7 := x7.below hb9
          replace hI7 := hI7.below hb9
          replace hI8 := hI8.below hb9
          replace hG := hG.trans (hb9.mono sG)
          replace sG := hG.size
          clear hb9
          refine hK.out _ _ ?_ (fun hHeld => ?_)
          · exact ⟨(b0.below hG).cell 0 _ rfl, (b0.below hG).cell 1 _ rfl, (b1.below hG).cell 0 _ rfl, (b1.below hG).cell 1 _ rfl⟩
          clear hK K
          (try simp only [List.getElem_toArray, List.getElem_cons_succ, List.getElem_cons_zero, Act.put, List.setIfInBounds_toArray, List.set_cons_zero, List.set_cons_succ])
          have r0 := x7.cell 0 _ rfl
          have r1 := x7.cell 1 _ rfl
          have f0 := x7.frozen 0
          have f1 := x7.frozen 1
          have r2 := x8.cell 0 _ rfl
          have r3 := x8.cell 1 _ rfl
          have f2 := x8.frozen 0
          have f3 := x8.frozen 1
          have ne78 : v134.heap.size ≠ v13.heap.size := by omega
          have ne87 : v13.heap.size ≠ v134.heap.size := by omega
          refine wpAnyH_ready (rs := [6]) (by kernel_rfl) (by simp) (AllReadyH.cons (o := _) rfl (fun K hK => ?_) AllReadyH.nil)
          go_simp
          refine hK.out _ _ ?_ (fun hHeld => ?_)
          · exact ⟨((b0.below hG).far (g' := v13.heap.size) (by omega) _ _).cell 0 _ rfl, ((b0.below hG).far (g' := v13.heap.size) (by omega) _ _).cell 1 _ rfl, ((b1.below hG).far (g' := v13.heap.size) (by omega) _ _).cell 0 _ rfl, ((b1.below hG).far (g' := v13.heap.size) (by omega) _ _).cell 1 _ rfl⟩
          clear hK K
          (try simp only [List.getElem_toArray, List.getElem_cons_succ, List.getElem_cons_zero, Act.put, List.setIfInBounds_toArray, List.set_cons_zero, List.set_cons_succ])
          have y8 := x8.far (g' := v13.heap.size) ne78 (.bool t7) (.slice B7 k7 d7)
          have y7 := x7.stored (.bool t7) (.slice B7 k7 d7)
          have r2 := y8.cell 0 _ rfl
          have r3 := y8.cell 1 _ rfl
          have f2 := y8.frozen 0
          have f3 := y8.frozen 1
          refine wpAnyH_ready (rs := [7]) (by kernel_rfl) (by simp) (AllReadyH.cons (o := _) rfl (fun K hK => ?_) AllReadyH.nil)
          go_simp
          refine hK.out _ _ ?_ (fun hHeld => ?_)
          · exact ⟨((((b0.below hG).far (g' := v13.heap.size) (by omega) _ _)).far (g' := v134.heap.size) (by omega) _ _).cell 0 _ rfl, ((((b0.below hG).far (g' := v13.heap.size) (by omega) _ _)).far (g' := v134.heap.size) (by omega) _ _).cell 1 _ rfl, ((((b1.below hG).far (g' := v13.heap.size) (by omega) _ _)).far (g' := v134.heap.size) (by omega) _ _).cell 0 _ rfl, ((((b1.below hG).far (g' := v13.heap.size) (by omega) _ _)).far (g' := v134.heap.size) (by omega) _ _).cell 1 _ rfl⟩
          clear hK K
          (try simp only [List.getElem_toArray, List.getElem_cons_succ, List.getElem_cons_zero, Act.put, List.setIfInBounds_toArray, List.set_cons_zero, List.set_cons_succ])
          refine wpAnyH_done (by kernel_rfl) ?_ _
          refine NoPanic.normal ?_
          have z8 := y8.stored (.bool t8) (.slice B8 k8 d8)
          have z7 := y7.far (g' := v134.heap.size) ne87 (.bool t8) (.slice B8 k8 d8)
          have j7 := (hI7.stored x7 (notInt_box _ _ _ _) (.bool t7) (.slice B7 k7 d7)).stored y8 (notInt_box _ _ _ _) (.bool t8) (.slice B8 k8 d8)
          have j8 := (hI8.stored x7 (notInt_box _ _ _ _) (.bool t7) (.slice B7 k7 d7)).stored y8 (notInt_box _ _ _ _) (.bool t8) (.slice B8 k8 d8)
          have hF := below_stored (g := v134.heap.size) (below_stored (g := v13.heap.size) hG (by omega) (.bool t7) (.slice B7 k7 d7)) (by omega) (.bool t8) (.slice B8 k8 d8)
          go_wp2_with fail
          go_meet
          exact ⟨v13.heap.size, v134.heap.size, t7, B7, k7, d7, t8, B8, k8, d8, rfl, rfl, j7, j8, z7, z8, hF⟩
        · go_simp
          obtain ⟨v135, hV, x8, hb9, szv135⟩ := boxes1 v13 #[.bool false, .slice none 0 0] 66
          rw [hV]
          clear hV
          replace szv135 : v13.heap.size < v135.heap.size := by omega
          replace hI7 := hI7.below hb9
          replace hI8 := hI8.below hb9
          replace hG := hG.trans (hb9.mono sG)
          replace sG := hG.size
          clear hb9
          refine hK.out _ _ ?_ (fun hHeld => ?_)
          · exact ⟨(b0.below hG).cell 0 _ rfl, (b0.below hG).cell 1 _ rfl, (b1.below hG).cell 0 _ rfl, (b1.below hG).cell 1 _ rfl⟩
          clear hK K
          (try simp only [List.getElem_toArray, List.getElem_cons_succ, List.getElem_cons_zero, Act.put, List.setIfInBounds_toArray, List.set_cons_zero, List.set_cons_succ])
          refine wpAnyH_ready (rs := [4]) (by kernel_rfl) (by simp) (AllReadyH.cons (o := _) rfl (fun K hK => ?_) AllReadyH.nil)
          go_simp
          obtain ⟨v1354, hV, x7, hb9, szv1354⟩ := boxes1 v135 #[.bool false, .slice none 0 0] 66
          rw [hV]
          clear hV
          replace szv1354 : v135.heap.size < v1354.heap.size := by omega
          replace x8 := x8.below hb9
          replace hI7 := hI7.below hb9
          replace hI8 := hI8.below hb9
          replace hG := hG.trans (hb9.mono sG)
          replace sG := hG.size
          clear hb9
          refine hK.out _ _ ?_ (fun hHeld => ?_)
          · exact ⟨(b0.below hG).cell 0 _ rfl, (b0.below hG).cell 1 _ rfl, (b1.below hG).cell 0 _ rfl, (b1.below hG).cell 1 _ rfl⟩
          clear hK K
          (try simp only [List.getElem_toArray, List.getElem_cons_succ, List.getElem_cons_zero, Act.put, List.setIfInBounds_toArray, List.set_cons_zero, List.set_cons_succ])
          have r0 := x7.cell 0 _ rfl
          have r1 := x7.cell 1 _ rfl
          have f0 := x7.frozen 0
          have f1 := x7.frozen 1
          have r2 := x8.cell 0 _ rfl
          have r3 := x8.cell 1 _ rfl
          have f2 := x8.frozen 0
          have f3 := x8.frozen 1
          have ne78 : v13.heap.size ≠ v135.heap.size := by omega
          have ne87 : v135.heap.size ≠ v13.heap.size := by omega
          refine wpAnyH_ready (rs := [6]) (by kernel_rfl) (by simp) (AllReadyH.cons (o := _) rfl (fun K hK => ?_) AllReadyH.nil)
          go_simp
          refine hK.out _ _ ?_ (fun hHeld => ?_)
          · exact ⟨((b0.below hG).far (g' := v135.heap.size) (by omega) _ _).cell 0 _ rfl, ((b0.below hG).far (g' := v135.heap.size) (by omega) _ _).cell 1 _ rfl, ((b1.below hG).far (g' := v135.heap.size) (by omega) _ _).cell 0 _ rfl, ((b1.below hG).far (g' := v135.heap.size) (by omega) _ _).cell 1 _ rfl⟩
          clear hK K
          (try simp only [List.getElem_toArray, List.getElem_cons_succ, List.getElem_cons_zero, Act.put, List.setIfInBounds_toArray, List.set_cons_zero, List.set_cons_succ])
          have y8 := x8.far (g' := v135.heap.size) ne78 (.bool t7) (.slice B7 k7 d7)
          have y7 := x7.stored (.bool t7) (.slice B7 k7 d7)
          have r2 := y8.cell 0 _ rfl
          have r3 := y8.cell 1 _ rfl
          have f2 := y8.frozen 0
          have f3 := y8.frozen 1
          refine wpAnyH_ready (rs := [7]) (by kernel_rfl) (by simp) (AllReadyH.cons (o := _) rfl (fun K hK => ?_) AllReadyH.nil)
          go_simp
          refine hK.out _ _ ?_ (fun hHeld => ?_)
          · exact ⟨((((b0.below hG).far (g' := v135.heap.size) (by omega) _ _)).far (g' := v13.heap.size) (by omega) _ _).cell 0 _ rfl, ((((b0.below hG).far (g' := v135.heap.size) (by omega) _ _)).far (g' := v13.heap.size) (by omega) _ _).cell 1 _ rfl, ((((b1.below hG).far (g' := v135.heap.size) (by omega) _ _)).far (g' := v13.heap.size) (by omega) _ _).cell 0 _ rfl, ((((b1.below hG).far (g' := v135.heap.size) (by omega) _ _)).far (g' := v13.heap.size) (by omega) _ _).cell 1 _ rfl⟩
          clear hK K
          (try simp only [List.getElem_toArray, List.getElem_cons_succ, List.getElem_cons_zero, Act.put, List.setIfInBounds_toArray, List.set_cons_zero, List.set_cons_succ])
          refine wpAnyH_done (by kernel_rfl) ?_ _
          refine NoPanic.normal ?_
          have z8 := y8.stored (.bool t8) (.slice B8 k8 d8)
          have z7 := y7.far (g' := v13.heap.size) ne87 (.bool t8) (.slice B8 k8 d8)
          have j7 := (hI7.stored x7 (notInt_box _ _ _ _) (.bool t7) (.slice B7 k7 d7)).stored y8 (notInt_box _ _ _ _) (.bool t8) (.slice B8 k8 d8)
          have j8 := (hI8.stored x7 (notInt_box _ _ _ _) (.bool t7) (.slice B7 k7 d7)).stored y8 (notInt_box _ _ _ _) (.bool t8) (.slice B8 k8 d8)
          have hF := below_stored (g := v13.heap.size) (below_stored (g := v135.heap.size) hG (by omega) (.bool t7) (.slice B7 k7 d7)) (by omega) (.bool t8) (.slice B8 k8 d8)
          go_wp2_with fail
          go_meet
          exact ⟨v135.heap.size, v13.heap.size, t7, B7, k7, d7, t8, B8, k8, d8, rfl, rfl, j7, j8, z7, z8, hF⟩
      · go_simp
        obtain ⟨v14, hV, x7, hb9, szv14⟩ := boxes1 v1 #[.bool false, .slice none 0 0] 66
        rw [hV]
        clear hV
        replace szv14 : v1.heap.size < v14.heap.size := by omega
        replace hI7 := hI7.below hb9
        replace hG := hG.trans (hb9.mono sG)
        replace sG := hG.size
        clear hb9
        refine hK.out _ _ ?_ (fun hHeld => ?_)
        · exact ⟨(b0.below hG).cell 0 _ rfl, (b0.below hG).cell 1 _ rfl, (b1.below hG).cell 0 _ rfl, (b1.below hG).cell 1 _ rfl⟩
        clear hK K
        (try simp only [List.getElem_toArray, List.getElem_cons_succ, List.getElem_cons_zero, Act.put, List.setIfInBounds_toArray, List.set_cons_zero, List.set_cons_succ])
        refine wpAnyH_ready (rs := [3, 5]) (by kernel_rfl) (by simp) (AllReadyH.cons (o := _) rfl (fun K hK => ?_) (AllReadyH.cons (o := _) rfl (fun K hK => ?_) AllReadyH.nil))
        · go_simp
          go_at_call 44
          refine (refI_v (fb.below hG)).mono ?_
          rintro e v143 ⟨t8, B8, k8, d8, rfl, hI8, hb9⟩
          have szv143 := hb9.size
          replace x7 := x7.below hb9
          replace hI7 := hI7.below hb9
          replace hG := hG.trans (hb9.mono sG)
          replace sG := hG.size
          clear hb9
          go_wp2_with fail
          refine hK.out _ _ ?_ (fun hHeld => ?_)
          · exact ⟨(b0.below hG).cell 0 _ rfl, (b0.below hG).cell 1 _ rfl, (b1.below hG).cell 0 _ rfl, (b1.below hG).cell 1 _ rfl⟩
          clear hK K
          (try simp only [List.getElem_toArray, List.getElem_cons_succ, List.getElem_cons_zero, Act.put, List.setIfInBounds_toArray, List.set_cons_zero, List.set_cons_succ])
          refine wpAnyH_ready (rs := [5]) (by kernel_rfl) (by simp) (AllReadyH.cons (o := _) rfl (fun K hK => ?_) AllReadyH.nil)
          go_simp
          obtain ⟨v1435, hV, x8, hb9, szv1435⟩ := boxes1 v143 #[.bool false, .slice none 0 0] 66
          rw [hV]
          clear hV
          replace szv1435 : v143.heap.size < v1435.heap.size := by omega
          replace x7 := x7.below hb9
          replace hI7 := hI7.below hb9
          replace hI8 := hI8.below hb9
          replace hG := hG.trans (hb9.mono sG)
          replace sG := hG.size
          clear hb9
          refine hK.out _ _ ?_ (fun hHeld => ?_)
          · exact ⟨(b0.below hG).cell 0 _ rfl, (b0.below hG).cell 1 _ rfl, (b1.below hG).cell 0 _ rfl, (b1.below hG).cell 1 _ rfl⟩
          clear hK K
          (try simp only [List.getElem_toArray, List.getElem_cons_succ, List.getElem_cons_zero, Act.put, List.setIfInBounds_toArray, List.set_cons_zero, List.set_cons_succ])
          have r0 := x7.cell 0 _ rfl
          have r1 := x7.cell 1 _ rfl
          have f0 := x7.frozen 0
          have f1 := x7.frozen 1
          have r2 := x8.cell 0 _ rfl
          have r3 := x8.cell 1 _ rfl
          have f2 := x8.frozen 0
          have f3 := x8.frozen 1
          have ne78 : v143.heap.size ≠ v1.heap.size := by omega
          have ne87 : v1.heap.size ≠ v143.heap.size := by omega
          refine wpAnyH_ready (rs := [6]) (by kernel_rfl) (by simp) (AllReadyH.cons (o := _) rfl (fun K hK => ?_) AllReadyH.nil)
          go_simp
          refine hK.out _ _ ?_ (fun hHeld => ?_)
          · exact ⟨((b0.below hG).far (g' := v1.heap.size) (by omega) _ _).cell 0 _ rfl, ((b0.below hG).far (g' := v1.heap.size) (by omega) _ _).cell 1 _ rfl, ((b1.below hG).far (g' := v1.heap.size) (by omega) _ _).cell 0 _ rfl, ((b1.below hG).far (g' := v1.heap.size) (by omega) _ _).cell 1 _ rfl⟩
          clear hK K
          (try simp only [List.getElem_toArray, List.getElem_cons_succ, List.getElem_cons_zero, Act.put, List.setIfInBounds_toArray, List.set_cons_zero, List.set_cons_succ])
          have y8 := x8.far (g' := v1.heap.size) ne78 (.bool t7) (.slice B7 k7 d7)
          have y7 := x7.stored (.bool t7) (.slice B7 k7 d7)
          have r2 := y8.cell 0 _ rfl
          have r3 := y8.cell 1 _ rfl
          have f2 := y8.frozen 0
          have f3 := y8.frozen 1
          refine wpAnyH_ready (rs := [7]) (by kernel_rfl) (by simp) (AllReadyH.cons (o := _) rfl (fun K hK => ?_) AllReadyH.nil)
          go_simp
          refine hK.out _ _ ?_ (fun hHeld => ?_)
          · exact ⟨((((b0.below hG).far (g' := v1.heap.size) (by omega) _ _)).far (g' := v143.heap.size) (by omega) _ _).cell 0 _ rfl, ((((b0.below hG).far (g' := v1.heap.size) (by omega) _ _)).far (g' := v143.heap.size) (by omega) _ _).cell 1 _ rfl, ((((b1.below hG).far (g' := v1.heap.size) (by omega) _ _)).far (g' := v143.heap.size) (by omega) _ _).cell 0 _ rfl, ((((b1.below hG).far (g' := v1.heap.size) (by omega) _ _)).far (g' := v143.heap.size) (by omega) _ _).cell 1 _ rfl⟩
          clear hK K
          (try simp only [List.getElem_toArray, List.getElem_cons_succ, List.getElem_cons_zero, Act.put, List.setIfInBounds_toArray, List.set_cons_zero, List.set_cons_succ])
          refine wpAnyH_done (by kernel_rfl) ?_ _
          refine NoPanic.normal ?_
          have z8 := y8.stored (.bool t8) (.slice B8 k8 d8)
          have z7 := y7.far (g' := v143.heap.size) ne87 (.bool t8) (.slice B8 k8 d8)
          have j7 := (hI7.stored x7 (notInt_box _ _ _ _) (.bool t7) (.slice B7 k7 d7)).stored y8 (notInt_box _ _ _ _) (.bool t8) (.slice B8 k8 d8)
          have j8 := (hI8.stored x7 (notInt_box _ _ _ _) (.bool t7) (.slice B7 k7 d7)).stored y8 (notInt_box _ _ _ _) (.bool t8) (.slice B8 k8 d8)
          have hF := below_stored (g := v143.heap.size) (below_stored (g := v1.heap.size) hG (by omega) (.bool t7) (.slice B7 k7 d7)) (by omega) (.bool t8) (.slice B8 k8 d8)
          go_wp2_with fail
          go_meet
          exact ⟨v1.heap.size, v143.heap.size, t7, B7, k7, d7, t8, B8, k8, d8, rfl, rfl, j7, j8, z7, z8, hF⟩
        · go_simp
          obtain ⟨v145, hV, x8, hb9, szv145⟩ := boxes1 v14 #[.bool false, .slice none 0 0] 66
          rw [hV]
          clear hV
          replace szv145 : v14.heap.size < v145.heap.size := by omega
          replace x7 := x7.below hb9
          replace hI7 := hI7.below hb9
          replace hG := hG.trans (hb9.mono sG)
          replace sG := hG.size
          clear hb9
          refine hK.out _ _ ?_ (fun hHeld => ?_)
          · exact ⟨(b0.below hG).cell 0 _ rfl, (b0.below hG).cell 1 _ rfl, (b1.below hG).cell 0 _ rfl, (b1.below hG).cell 1 _ rfl⟩
          clear hK K
          (try simp only [List.getElem_toArray, List.getElem_cons_succ, List.getElem_cons_zero, Act.put, List.setIfInBounds_toArray, List.set_cons_zero, List.set_cons_succ])
          refine wpAnyH_ready (rs := [3]) (by kernel_rfl) (by simp) (AllReadyH.cons (o := _) rfl (fun K hK => ?_) AllReadyH.nil)
          go_simp
          go_at_call 44
          refine (refI_v (fb.below hG)).mono ?_
          rintro e v1453 ⟨t8, B8, k8, d8, rfl, hI8, hb9⟩
          have szv1453 := hb9.size
          replace x7 := x7.below hb9
          replace x8 := x8.below hb9
          replace hI7 := hI7.below hb9
          replace hG := hG.trans (hb9.mono sG)
          replace sG := hG.size
          clear hb9
          go_wp2_with fail
          refine hK.out _ _ ?_ (fun hHeld => ?_)
          · exact ⟨(b0.below hG).cell 0 _ rfl, (b0.below hG).cell 1 _ rfl, (b1.below hG).cell 0 _ rfl, (b1.below hG).cell 1 _ rfl⟩
          clear hK K
          (try simp only [List.getElem_toArray, List.getElem_cons_succ, List.getElem_cons_zero, Act.put, List.setIfInBounds_toArray, List.set_cons_zero, List.set_cons_succ])
          have r0 := x7.cell 0 _ rfl
          have r1 := x7.cell 1 _ rfl
          have f0 := x7.frozen 0
          have f1 := x7.frozen 1
          have r2 := x8.cell 0 _ rfl
          have r3 := x8.cell 1 _ rfl
          have f2 := x8.frozen 0
          have f3 := x8.frozen 1
          have ne78 : v14.heap.size ≠ v1.heap.size := by omega
          have ne87 : v1.heap.size ≠ v14.heap.size := by omega
          refine wpAnyH_ready (rs := [6]) (by kernel_rfl) (by simp) (AllReadyH.cons (o := _) rfl (fun K hK => ?_) AllReadyH.nil)
          go_simp
          refine hK.out _ _ ?_ (fun hHeld => ?_)
          · exact ⟨((b0.below hG).far (g' := v1.heap.size) (by omega) _ _).cell 0 _ rfl, ((b0.below hG).far (g' := v1.heap.size) (by omega) _ _).cell 1 _ rfl, ((b1.below hG).far (g' := v1.heap.size) (by omega) _ _).cell 0 _ rfl, ((b1.below hG).far (g' := v1.heap.size) (by omega) _ _).cell 1 _ rfl⟩
          clear hK K
          (try simp only [List.getElem_toArray, List.getElem_cons_succ, List.getElem_cons_zero, Act.put, List.setIfInBounds_toArray, List.set_cons_zero, List.set_cons_succ])
          have y8 := x8.far (g' := v1.heap.size) ne78 (.bool t7) (.slice B7 k7 d7)
          have y7 := x7.stored (.bool t7) (.slice B7 k7 d7)
          have r2 := y8.cell 0 _ rfl
          have r3 := y8.cell 1 _ rfl
          have f2 := y8.frozen 0
          have f3 := y8.frozen 1
          refine wpAnyH_ready (rs := [7]) (by kernel_rfl) (by simp) (AllReadyH.cons (o := _) rfl (fun K hK => ?_) AllReadyH.nil)
          go_simp
          refine hK.out _ _ ?_ (fun hHeld => ?_)
          · exact ⟨((((b0.below hG).far (g' := v1.heap.size) (by omega) _ _)).far (g' := v14.heap.size) (by omega) _ _).cell 0 _ rfl, ((((b0.below hG).far (g' := v1.heap.size) (by omega) _ _)).far (g' := v14.heap.size) (by omega) _ _).cell 1 _ rfl, ((((b1.below hG).far (g' := v1.heap.size) (by omega) _ _)).far (g' := v14.heap.size) (by omega) _ _).cell 0 _ rfl, ((((b1.below hG).far (g' := v1.heap.size) (by omega) _ _)).far (g' := v14.heap.size) (by omega) _ _).cell 1 _ rfl⟩
          clear hK K
          (try simp only [List.getElem_toArray, List.getElem_cons_succ, List.getElem_cons_zero, Act.put, List.setIfInBounds_toArray, List.set_cons_zero, List.set_cons_succ])
          refine wpAnyH_done (by kernel_rfl) ?_ _
          refine NoPanic.normal ?_
          have z8 := y8.stored (.bool t8) (.slice B8 k8 d8)
          have z7 := y7.far (g' := v14.heap.size) ne87 (.bool t8) (.slice B8 k8 d8)
          have j7 := (hI7.stored x7 (notInt_box _ _ _ _) (.bool t7) (.slice B7 k7 d7)).stored y8 (notInt_box _ _ _ _) (.bool t8) (.slice B8 k8 d8)
          have j8 := (hI8.stored x7 (notInt_box _ _ _ _) (.bool t7) (.slice B7 k7 d7)).stored y8 (notInt_box _ _ _ _) (.bool t8) (.slice B8 k8 d8)
          have hF := below_stored (g := v14.heap.size) (below_stored (g := v1.heap.size) hG (by omega) (.bool t7) (.slice B7 k7 d7)) (by omega) (.bool t8) (.slice B8 k8 d8)
          go_wp2_with fail
          go_meet
          exact ⟨v1.heap.size, v14.heap.size, t7, B7, k7, d7, t8, B8, k8, d8, rfl, rfl, j7, j8, z7, z8, hF⟩
      · go_simp
        obtain ⟨v15, hV, x8, hb9, szv15⟩ := boxes1 v1 #[.bool false, .slice none 0 0] 66
        rw [hV]
        clear hV
        replace szv15 : v1.heap.size < v15.heap.size := by omega
        replace hI7 := hI7.below hb9
        replace hG := hG.trans (hb9.mono sG)
        replace sG := hG.size
        clear hb9
        refine hK.out _ _ ?_ (fun hHeld => ?_)
        · exact ⟨(b0.below hG).cell 0 _ rfl, (b0.below hG).cell 1 _ rfl, (b1.below hG).cell 0 _ rfl, (b1.below hG).cell 1 _ rfl⟩
        clear hK K
        (try simp only [List.getElem_toArray, List.getElem_cons_succ, List.getElem_cons_zero, Act.put, List.setIfInBounds_toArray, List.set_cons_zero, List.set_cons_succ])
        refine wpAnyH_ready (rs := [3, 4]) (by kernel_rfl) (by simp) (AllReadyH.cons (o := _) rfl (fun K hK => ?_) (AllReadyH.cons (o := _) rfl (fun K hK => ?_) AllReadyH.nil))
        · go_simp
          go_at_call 44
          refine (refI_v (fb.below hG)).mono ?_
          rintro e v153 ⟨t8, B8, k8, d8, rfl, hI8, hb9⟩
          have szv153 := hb9.size
          replace x8 := x8.below hb9
          replace hI7 := hI7.below hb9
          replace hG := hG.trans (hb9.mono sG)
          replace sG := hG.size
          clear hb9
          go_wp2_with fail
          refine hK.out _ _ ?_ (fun hHeld => ?_)
          · exact ⟨(b0.below hG).cell 0 _ rfl, (b0.below hG).cell 1 _ rfl, (b1.below hG).cell 0 _ rfl, (b1.below hG).cell 1 _ rfl⟩
          clear hK K
          (try simp only [List.getElem_toArray, List.getElem_cons_succ, List.getElem_cons_zero, Act.put, List.setIfInBounds_toArray, List.set_cons_zero, List.set_cons_succ])
          refine wpAnyH_ready (rs := [4]) (by kernel_rfl) (by simp) (AllReadyH.cons (o := _) rfl (fun K hK => ?_) AllReadyH.nil)
          go_simp
          obtain ⟨v1534, hV, x7, hb9, szv1534⟩ := boxes1 v153 #[.bool false, .slice none 0 0] 66
          rw [hV]
          clear hV
          replace szv1534 : v153.heap.size < v1534.heap.size := by omega
          replace x8 := x8.below hb9
          replace hI7 := hI7.below hb9
          replace hI8 := hI8.below hb9
          replace hG := hG.trans (hb9.mono sG)
          replace sG := hG.size
          clear hb9
          refine hK.out _ _ ?_ (fun hHeld => ?_)
          · exact ⟨(b0.below hG).cell 0 _ rfl, (b0.below hG).cell 1 _ rfl, (b1.below hG).cell 0 _ rfl, (b1.below hG).cell 1 _ rfl⟩
          clear hK K
          (try simp only [List.getElem_toArray, List.getElem_cons_succ, List.getElem_cons_zero, Act.put, List.setIfInBounds_toArray, List.set_cons_zero, List.set_cons_succ])
          have r0 := x7.cell 0 _ rfl
          have r1 := x7.cell 1 _ rfl
          have f0 := x7.frozen 0
          have f1 := x7.frozen 1
          have r2 := x8.cell 0 _ rfl
          have r3 := x8.cell 1 _ rfl
          have f2 := x8.frozen 0
          have f3 := x8.frozen 1
          have ne78 : v1.heap.size ≠ v153.heap.size := by omega
          have ne87 : v153.heap.size ≠ v1.heap.size := by omega
          refine wpAnyH_ready (rs := [6]) (by kernel_rfl) (by simp) (AllReadyH.cons (o := _) rfl (fun K hK => ?_) AllReadyH.nil)
          go_simp
          refine hK.out _ _ ?_ (fun hHeld => ?_)
          · exact ⟨((b0.below hG).far (g' := v153.heap.size) (by omega) _ _).cell 0 _ rfl, ((b0.below hG).far (g' := v153.heap.size) (by omega) _ _).cell 1 _ rfl, ((b1.below hG).far (g' := v153.heap.size) (by omega) _ _).cell 0 _ rfl, ((b1.below hG).far (g' := v153.heap.size) (by omega) _ _).cell 1 _ rfl⟩
          clear hK K
          (try simp only [List.getElem_toArray, List.getElem_cons_succ, List.getElem_cons_zero, Act.put, List.setIfInBounds_toArray, List.set_cons_zero, List.set_cons_succ])
          have y8 := x8.far (g' := v153.heap.size) ne78 (.bool t7) (.slice B7 k7 d7)
          have y7 := x7.stored (.bool t7) (.slice B7 k7 d7)
          have r2 := y8.cell 0 _ rfl
          have r3 := y8.cell 1 _ rfl
          have f2 := y8.frozen 0
          have f3 := y8.frozen 1
          refine wpAnyH_ready (rs := [7]) (by kernel_rfl) (by simp) (AllReadyH.cons (o := _) rfl (fun K hK => ?_) AllReadyH.nil)
          go_simp
          refine hK.out _ _ ?_ (fun hHeld => ?_)
          · exact ⟨((((b0.below hG).far (g' := v153.heap.size) (by omega) _ _)).far (g' := v1.heap.size) (by omega) _ _).cell 0 _ rfl, ((((b0.below hG).far (g' := v153.heap.size) (by omega) _ _)).far (g' := v1.heap.size) (by omega) _ _).cell 1 _ rfl, ((((b1.below hG).far (g' := v153.heap.size) (by omega) _ _)).far (g' := v1.heap.size) (by omega) _ _).cell 0 _ rfl, ((((b1.below hG).far (g' := v153.heap.size) (by omega) _ _)).far (g' := v1.heap.size) (by omega) _ _).cell 1 _ rfl⟩
          clear hK K
          (try simp only [List.getElem_toArray, List.getElem_cons_succ, List.getElem_cons_zero, Act.put, List.setIfInBounds_toArray, List.set_cons_zero, List.set_cons_succ])
          refine wpAnyH_done (by kernel_rfl) ?_ _
          refine NoPanic.normal ?_
          have z8 := y8.stored (.bool t8) (.slice B8 k8 d8)
          have z7 := y7.far (g' := v1.heap.size) ne87 (.bool t8) (.slice B8 k8 d8)
          have j7 := (hI7.stored x7 (notInt_box _ _ _ _) (.bool t7) (.slice B7 k7 d7)).stored y8 (notInt_box _ _ _ _) (.bool t8) (.slice B8 k8 d8)
          have j8 := (hI8.stored x7 (notInt_box _ _ _ _) (.bool t7) (.slice B7 k7 d7)).stored y8 (notInt_box _ _ _ _) (.bool t8) (.slice B8 k8 d8)
          have hF := below_stored (g := v1.heap.size) (below_stored (g := v153.heap.size) hG (by omega) (.bool t7) (.slice B7 k7 d7)) (by omega) (.bool t8) (.slice B8 k8 d8)
          go_wp2_with fail
          go_meet
          exact ⟨v153.heap.size, v1.heap.size, t7, B7, k7, d7, t8, B8, k8, d8, rfl, rfl, j7, j8, z7, z8, hF⟩
        · go_simp
          obtain ⟨v154, hV, x7, hb9, szv154⟩ := boxes1 v15 #[.bool false, .slice none 0 0] 66
          rw [hV]
          clear hV
          replace szv154 : v15.heap.size < v154.heap.size := by omega
          replace x8 := x8.below hb9
          replace hI7 := hI7.below hb9
          replace hG := hG.trans (hb9.mono sG)
          replace sG := hG.size
          clear hb9
          refine hK.out _ _ ?_ (fun hHeld => ?_)
          · exact ⟨(b0.below hG).cell 0 _ rfl, (b0.below hG).cell 1 _ rfl, (b1.below hG).cell 0 _ rfl, (b1.below hG).cell 1 _ rfl⟩
          clear hK K
          (try simp only [List.getElem_toArray, List.getElem_cons_succ, List.getElem_cons_zero, Act.put, List.setIfInBounds_toArray, List.set_cons_zero, List.set_cons_succ])
          refine wpAnyH_ready (rs := [3]) (by kernel_rfl) (by simp) (AllReadyH.cons (o := _) rfl (fun K hK => ?_) AllReadyH.nil)
          go_simp
          go_at_call 44
          refine (refI_v (fb.below hG)).mono ?_
          rintro e v1543 ⟨t8, B8, k8, d8, rfl, hI8, hb9⟩
          have szv1543 := hb9.size
          replace x7 := x7.below hb9
          replace x8 := x8.below hb9
          replace hI7 := hI7.below hb9
          replace hG := hG.trans (hb9.mono sG)
          replace sG := hG.size
          clear hb9
          go_wp2_with fail
          refine hK.out _ _ ?_ (fun hHeld => ?_)
          · exact ⟨(b0.below hG).cell 0 _ rfl, (b0.below hG).cell 1 _ rfl, (b1.below hG).cell 0 _ rfl, (b1.below hG).cell 1 _ rfl⟩
          clear hK K
          (try simp only [List.getElem_toArray, List.getElem_cons_succ, List.getElem_cons_zero, Act.put, List.setIfInBounds_toArray, List.set_cons_zero, List.set_cons_succ])
          have r0 := x7.cell 0 _ rfl
          have r1 := x7.cell 1 _ rfl
          have f0 := x7.frozen 0
          have f1 := x7.frozen 1
          have r2 := x8.cell 0 _ rfl
          have r3 := x8.cell 1 _ rfl
          have f2 := x8.frozen 0
          have f3 := x8.frozen 1
          have ne78 : v1.heap.size ≠ v15.heap.size := by omega
          have ne87 : v15.heap.size ≠ v1.heap.size := by omega
          refine wpAnyH_ready (rs := [6]) (by kernel_rfl) (by simp) (AllReadyH.cons (o := _) rfl (fun K hK => ?_) AllReadyH.nil)
          go_simp
          refine hK.out _ _ ?_ (fun hHeld => ?_)
          · exact ⟨((b0.below hG).far (g' := v15.heap.size) (by omega) _ _).cell 0 _ rfl, ((b0.below hG).far (g' := v15.heap.size) (by omega) _ _).cell 1 _ rfl, ((b1.below hG).far (g' := v15.heap.size) (by omega) _ _).cell 0 _ rfl, ((b1.below hG).far (g' := v15.heap.size) (by omega) _ _).cell 1 _ rfl⟩
          clear hK K
          (try simp only [List.getElem_toArray, List.getElem_cons_succ, List.getElem_cons_zero, Act.put, List.setIfInBounds_toArray, List.set_cons_zero, List.set_cons_succ])
          have y8 := x8.far (g' := v15.heap.size) ne78 (.bool t7) (.slice B7 k7 d7)
          have y7 := x7.stored (.bool t7) (.slice B7 k7 d7)
          have r2 := y8.cell 0 _ rfl
          have r3 := y8.cell 1 _ rfl
          have f2 := y8.frozen 0
          have f3 := y8.frozen 1
          refine wpAnyH_ready (rs := [7]) (by kernel_rfl) (by simp) (AllReadyH.cons (o := _) rfl (fun K hK => ?_) AllReadyH.nil)
          go_simp
          refine hK.out _ _ ?_ (fun hHeld => ?_)
          · exact ⟨((((b0.below hG).far (g' := v15.heap.size) (by omega) _ _)).far (g' := v1.heap.size) (by omega) _ _).cell 0 _ rfl, ((((b0.below hG).far (g' := v15.heap.size) (by omega) _ _)).far (g' := v1.heap.size) (by omega) _ _).cell 1 _ rfl, ((((b1.below hG).far (g' := v15.heap.size) (by omega) _ _)).far (g' := v1.heap.size) (by omega) _ _).cell 0 _ rfl, ((((b1.below hG).far (g' := v15.heap.size) (by omega) _ _)).far (g' := v1.heap.size) (by omega) _ _).cell 1 _ rfl⟩
          clear hK K
          (try simp only [List.getElem_toArray, List.getElem_cons_succ, List.getElem_cons_zero, Act.put, List.setIfInBounds_toArray, List.set_cons_zero, List.set_cons_succ])
          refine wpAnyH_done (by kernel_rfl) ?_ _
          refine NoPanic.normal ?_
          have z8 := y8.stored (.bool t8) (.slice B8 k8 d8)
          have z7 := y7.far (g' := v1.heap.size) ne87 (.bool t8) (.slice B8 k8 d8)
          have j7 := (hI7.stored x7 (notInt_box _ _ _ _) (.bool t7) (.slice B7 k7 d7)).stored y8 (notInt_box _ _ _ _) (.bool t8) (.slice B8 k8 d8)
          have j8 := (hI8.stored x7 (notInt_box _ _ _ _) (.bool t7) (.slice B7 k7 d7)).stored y8 (notInt_box _ _ _ _) (.bool t8) (.slice B8 k8 d8)
          have hF := below_stored (g := v1.heap.size) (below_stored (g := v15.heap.size) hG (by omega) (.bool t7) (.slice B7 k7 d7)) (by omega) (.bool t8) (.slice B8 k8 d8)
          go_wp2_with fail
          go_meet
          exact ⟨v15.heap.size, v1.heap.size, t7, B7, k7, d7, t8, B8, k8, d8, rfl, rfl, j7, j8, z7, z8, hF⟩
    · go_simp
      obtain ⟨v4, hV, x7, hb9, szv4⟩ := boxes1 v #[.bool false, .slice none 0 0] 66
      rw [hV]
      clear hV
      replace szv4 : v.heap.size < v4.heap.size := by omega
      replace hG := hG.trans (hb9.mono sG)
      replace sG := hG.size
      clear hb9
      refine hK.out _ _ ?_ (fun hHeld => ?_)
      · exact ⟨(b0.below hG).cell 0 _ rfl, (b0.below hG).cell 1 _ rfl, (b1.below hG).cell 0 _ rfl, (b1.below hG).cell 1 _ rfl⟩
      clear hK K
      (try simp only [List.getElem_toArray, List.getElem_cons_succ, List.getElem_cons_zero, Act.put, List.setIfInBounds_toArray, List.set_cons_zero, List.set_cons_succ])
      refine wpAnyH_ready (rs := [1, 5]) (by kernel_rfl) (by simp) (AllReadyH.cons (o := _) rfl (fun K hK => ?_) (AllReadyH.cons (o := _) rfl (fun K hK => ?_) AllReadyH.nil))
      · go_simp
        go_at_call 44
        refine (refI_v (fa.below hG)).mono ?_
        rintro e v41 ⟨t7, B7, k7, d7, rfl, hI7, hb9⟩
        have szv41 := hb9.size
        replace x7 := x7.below hb9
        replace hG := hG.trans (hb9.mono sG)
        replace sG := hG.size
        clear hb9
        go_wp2_with fail
        refine hK.out _ _ ?_ (fun hHeld => ?_)
        · exact ⟨(b0.below hG).cell 0 _ rfl, (b0.below hG).cell 1 _ rfl, (b1.below hG).cell 0 _ rfl, (b1.below hG).cell 1 _ rfl⟩
        clear hK K
        (try simp only [List.getElem_toArray, List.getElem_cons_succ, List.getElem_cons_zero, Act.put, List.setIfInBounds_toArray, List.set_cons_zero, List.set_cons_succ])
        refine wpAnyH_ready (rs := [3, 5]) (by kernel_rfl) (by simp) (AllReadyH.cons (o := _) rfl (fun K hK => ?_) (AllReadyH.cons (o := _) rfl (fun K hK => ?_) AllReadyH.nil))
        · go_simp
          go_at_call 44
          refine (refI_v (fb.below hG)).mono ?_
          rintro e v413 ⟨t8, B8, k8, d8, rfl, hI8, hb9⟩
          have szv413 := hb9.size
          replace x7 := x7.below hb9
          replace hI7 := hI7.below hb9
          replace hG := hG.trans (hb9.mono sG)
          replace sG := hG.size
          clear hb9
          go_wp2_with fail
          refine hK.out _ _ ?_ (fun hHeld => ?_)
          · exact ⟨(b0.below hG).cell 0 _ rfl, (b0.below hG).cell 1 _ rfl, (b1.below hG).cell 0 _ rfl, (b1.below hG).cell 1 _ rfl⟩
          clear hK K
          (try simp only [List.getElem_toArray, List.getElem_cons_succ, List.getElem_cons_zero, Act.put, List.setIfInBounds_toArray, List.set_cons_zero, List.set_cons_succ])
          refine wpAnyH_ready (rs := [5]) (by kernel_rfl) (by simp) (AllReadyH.cons (o := _) rfl (fun K hK => ?_) AllReadyH.nil)
          go_simp
          obtain ⟨v4135, hV, x8, hb9, szv4135⟩ := boxes1 v413 #[.bool false, .slice none 0 0] 66
          rw [hV]
          clear hV
          replace szv4135 : v413.heap.size < v4135.heap.size := by omega
          replace x7 := x7.below hb9
          replace hI7 := hI7.below hb9
          replace hI8 := hI8.below hb9
          replace hG := hG.trans (hb9.mono sG)
          replace sG := hG.size
          clear hb9
          refine hK.out _ _ ?_ (fun hHeld => ?_)
          · exact ⟨(b0.below hG).cell 0 _ rfl, (b0.below hG).cell 1 _ rfl, (b1.below hG).cell 0 _ rfl, (b1.below hG).cell 1 _ rfl⟩
          clear hK K
          (try simp only [List.getElem_toArray, List.getElem_cons_succ, List.getElem_cons_zero, Act.put, List.setIfInBounds_toArray, List.set_cons_zero, List.set_cons_succ])
          have r0 := x7.cell 0 _ rfl
          have r1 := x7.cell 1 _ rfl
          have f0 := x7.frozen 0
          have f1 := x7.frozen 1
          have r2 := x8.cell 0 _ rfl
          have r3 := x8.cell 1 _ rfl
          have f2 := x8.frozen 0
          have f3 := x8.frozen 1
          have ne78 : v413.heap.size ≠ v.heap.size := by omega
          have ne87 : v.heap.size ≠ v413.heap.size := by omega
          refine wpAnyH_ready (rs := [6]) (by kernel_rfl) (by simp) (AllReadyH.cons (o := _) rfl (fun K hK => ?_) AllReadyH.nil)
          go_simp
          refine hK.out _ _ ?_ (fun hHeld => ?_)
          · exact ⟨((b0.below hG).far (g' := v.heap.size) (by omega) _ _).cell 0 _ rfl, ((b0.below hG).far (g' := v.heap.size) (by omega) _ _).cell 1 _ rfl, ((b1.below hG).far (g' := v.heap.size) (by omega) _ _).cell 0 _ rfl, ((b1.below hG).far (g' := v.heap.size) (by omega) _ _).cell 1 _ rfl⟩
          clear hK K
          (try simp only [List.getElem_toArray, List.getElem_cons_succ, List.getElem_cons_zero, Act.put, List.setIfInBounds_toArray, List.set_cons_zero, List.set_cons_succ])
          have y8 := x8.far (g' := v.heap.size) ne78 (.bool t7) (.slice B7 k7 d7)
          have y7 := x7.stored (.bool t7) (.slice B7 k7 d7)
          have r2 := y8.cell 0 _ rfl
          have r3 := y8.cell 1 _ rfl
          have f2 := y8.frozen 0
          have f3 := y8.frozen 1
          refine wpAnyH_ready (rs := [7]) (by kernel_rfl) (by simp) (AllReadyH.cons (o := _) rfl (fun K hK => ?_) AllReadyH.nil)
          go_simp
          refine hK.out _ _ ?_ (fun hHeld => ?_)
          · exact ⟨((((b0.below hG).far (g' := v.heap.size) (by omega) _ _)).far (g' := v413.heap.size) (by omega) _ _).cell 0 _ rfl, ((((b0.below hG).far (g' := v.heap.size) (by omega) _ _)).far (g' := v413.heap.size) (by omega) _ _).cell 1 _ rfl, ((((b1.below hG).far (g' := v.heap.size) (by omega) _ _)).far (g' := v413.heap.size) (by omega) _ _).cell 0 _ rfl, ((((b1.below hG).far (g' := v.heap.size) (by omega) _ _)).far (g' := v413.heap.size) (by omega) _ _).cell 1 _ rfl⟩
          clear hK K
          (try simp only [List.getElem_toArray, List.getElem_cons_succ, List.getElem_cons_zero, Act.put, List.setIfInBounds_toArray, List.set_cons_zero, List.set_cons_succ])
          refine wpAnyH_done (by kernel_rfl) ?_ _
          refine NoPanic.normal ?_
          have z8 := y8.stored (.bool t8) (.slice B8 k8 d8)
          have z7 := y7.far (g' := v413.heap.size) ne87 (.bool t8) (.slice B8 k8 d8)
          have j7 := (hI7.stored x7 (notInt_box _ _ _ _) (.bool t7) (.slice B7 k7 d7)).stored y8 (notInt_box _ _ _ _) (.bool t8) (.slice B8 k8 d8)
          have j8 := (hI8.stored x7 (notInt_box _ _ _ _) (.bool t7) (.slice B7 k7 d7)).stored y8 (notInt_box _ _ _ _) (.bool t8) (.slice B8 k8 d8)
          have hF := below_stored (g := v413.heap.size) (below_stored (g := v.heap.size) hG (by omega) (.bool t7) (.slice B7 k7 d7)) (by omega) (.bool t8) (.slice B8 k8 d8)
          go_wp2_with fail
          go_meet
          exact ⟨v.heap.size, v413.heap.size, t7, B7, k7, d7, t8, B8, k8, d8, rfl, rfl, j7, j8, z7, z8, hF⟩
        · go_simp
          obtain ⟨v415, hV, x8, hb9, szv415⟩ := boxes1 v41 #[.bool false, .slice none 0 0] 66
          rw [hV]
          clear hV
          replace szv415 : v41.heap.size < v415.heap.size := by omega
          replace x7 := x7.below hb9
          replace hI7 := hI7.below hb9
          replace hG := hG.trans (hb9.mono sG)
          replace sG := hG.size
          clear hb9
          refine hK.out _ _ ?_ (fun hHeld => ?_)
          · exact ⟨(b0.below hG).cell 0 _ rfl, (b0.below hG).cell 1 _ rfl, (b1.below hG).cell 0 _ rfl, (b1.below hG).cell 1 _ rfl⟩
          clear hK K
          (try simp only [List.getElem_toArray, List.getElem_cons_succ, List.getElem_cons_zero, Act.put, List.setIfInBounds_toArray, List.set_cons_zero, List.set_cons_succ])
          refine wpAnyH_ready (rs := [3]) (by kernel_rfl) (by simp) (AllReadyH.cons (o := _) rfl (fun K hK => ?_) AllReadyH.nil)
          go_simp
          go_at_call 44
          refine (refI_v (fb.below hG)).mono ?_
          rintro e v4153 ⟨t8, B8, k8, d8, rfl, hI8, hb9⟩
          have szv4153 := hb9.size
          replace x7 := x7.below hb9
          replace x8 := x8.below hb9
          replace hI7 := hI7.below hb9
          replace hG := hG.trans (hb9.mono sG)
          replace sG := hG.size
          clear hb9
          go_wp2_with fail
          refine hK.out _ _ ?_ (fun hHeld => ?_)
          · exact ⟨(b0.below hG).cell 0 _ rfl, (b0.below hG).cell 1 _ rfl, (b1.below hG).cell 0 _ rfl, (b1.below hG).cell 1 _ rfl⟩
          clear hK K
          (try simp only [List.getElem_toArray, List.getElem_cons_succ, List.getElem_cons_zero, Act.put, List.setIfInBounds_toArray, List.set_cons_zero, List.set_cons_succ])
          have r0 := x7.cell 0 _ rfl
          have r1 := x7.cell 1 _ rfl
          have f0 := x7.frozen 0
          have f1 := x7.frozen 1
          have r2 := x8.cell 0 _ rfl
          have r3 := x8.cell 1 _ rfl
          have f2 := x8.frozen 0
          have f3 := x8.frozen 1
          have ne78 : v41.heap.size ≠ v.heap.size := by omega
          have ne87 : v.heap.size ≠ v41.heap.size := by omega
          refine wpAnyH_ready (rs := [6]) (by kernel_rfl) (by simp) (AllReadyH.cons (o := _) rfl (fun K hK => ?_) AllReadyH.nil)
          go_simp
          refine hK.out _ _ ?_ (fun hHeld => ?_)
          · exact ⟨((b0.below hG).far (g' := v.heap.size) (by omega) _ _).cell 0 _ rfl, ((b0.below hG).far (g' := v.heap.size) (by omega) _ _).cell 1 _ rfl, ((b1.below hG).far (g' := v.heap.size) (by omega) _ _).cell 0 _ rfl, ((b1.below hG).far (g' := v.heap.size) (by omega) _ _).cell 1 _ rfl⟩
          clear hK K
          (try simp only [List.getElem_toArray, List.getElem_cons_succ, List.getElem_cons_zero, Act.put, List.setIfInBounds_toArray, List.set_cons_zero, List.set_cons_succ])
          have y8 := x8.far (g' := v.heap.size) ne78 (.bool t7) (.slice B7 k7 d7)
          have y7 := x7.stored (.bool t7) (.slice B7 k7 d7)
          have r2 := y8.cell 0 _ rfl
          have r3 := y8.cell 1 _ rfl
          have f2 := y8.frozen 0
          have f3 := y8.frozen 1
          refine wpAnyH_ready (rs := [7]) (by kernel_rfl) (by simp) (AllReadyH.cons (o := _) rfl (fun K hK => ?_) AllReadyH.nil)
          go_simp
          refine hK.out _ _ ?_ (fun hHeld => ?_)
          · exact ⟨((((b0.below hG).far (g' := v.heap.size) (by omega) _ _)).far (g' := v41.heap.size) (by omega) _ _).cell 0 _ rfl, ((((b0.below hG).far (g' := v.heap.size) (by omega) _ _)).far (g' := v41.heap.size) (by omega) _ _).cell 1 _ rfl, ((((b1.below hG).far (g' := v.heap.size) (by omega) _ _)).far (g' := v41.heap.size) (by omega) _ _).cell 0 _ rfl, ((((b1.below hG).far (g' := v.heap.size) (by omega) _ _)).far (g' := v41.heap.size) (by omega) _ _).cell 1 _ rfl⟩
          clear hK K
          (try simp only [List.getElem_toArray, List.getElem_cons_succ, List.getElem_cons_zero, Act.put, List.setIfInBounds_toArray, List.set_cons_zero, List.set_cons_succ])
          refine wpAnyH_done (by kernel_rfl) ?_ _
          refine NoPanic.normal ?_
          have z8 := y8.stored (.bool t8) (.slice B8 k8 d8)
          have z7 := y7.far (g' := v41.heap.size) ne87 (.bool t8) (.slice B8 k8 d8)
          have j7 := (hI7.stored x7 (notInt_box _ _ _ _) (.bool t7) (.slice B7 k7 d7)).stored y8 (notInt_box _ _ _ _) (.bool t8) (.slice B8 k8 d8)
          have j8 := (hI8.stored x7 (notInt_box _ _ _ _) (.bool t7) (.slice B7 k7 d7)).stored y8 (notInt_box _ _ _ _) (.bool t8) (.slice B8 k8 d8)
          have hF := below_stored (g := v41.heap.size) (below_stored (g := v.heap.size) hG (by omega) (.bool t7) (.slice B7 k7 d7)) (by omega) (.bool t8) (.slice B8 k8 d8)
          go_wp2_with fail
          go_meet
          exact ⟨v.heap.size, v41.heap.size, t7, B7, k7, d7, t8, B8, k8, d8, rfl, rfl, j7, j8, z7, z8, hF⟩
      · go_simp
        obtain ⟨v45, hV, x8, hb9, szv45⟩ := boxes1 v4 #[.bool false, .slice none 0 0] 66
        rw [hV]
        clear hV
        replace szv45 : v4.heap.size < v45.heap.size := by omega
        replace x7 := x7.below hb9
        replace hG := hG.trans (hb9.mono sG)
        replace sG := hG.size
        clear hb9
        refine hK.out _ _ ?_ (fun hHeld => ?_)
        · exact ⟨(b0.below hG).cell 0 _ rfl, (b0.below hG).cell 1 _ rfl, (b1.below hG).cell 0 _ rfl, (b1.below hG).cell 1 _ rfl⟩
        clear hK K
        (try simp only [List.getElem_toArray, List.getElem_cons_succ, List.getElem_cons_zero, Act.put, List.setIfInBounds_toArray, List.set_cons_zero, List.set_cons_succ])
        refine wpAnyH_ready (rs := [1]) (by kernel_rfl) (by simp) (AllReadyH.cons (o := _) rfl (fun K hK => ?_) AllReadyH.nil)
        go_simp
        go_at_call 44
        refine (refI_v (fa.below hG)).mono ?_
        rintro e v451 ⟨t7, B7, k7, d7, rfl, hI7, hb9⟩
        have szv451 := hb9.size
        replace x7 := x7.below hb9
        replace x8 := x8.below hb9
        replace hG := hG.trans (hb9.mono sG)
        replace sG := hG.size
        clear hb9
        go_wp2_with fail
        refine hK.out _ _ ?_ (fun hHeld => ?_)
        · exact ⟨(b0.below hG).cell 0 _ rfl, (b0.below hG).cell 1 _ rfl, (b1.below hG).cell 0 _ rfl, (b1.below hG).cell 1 _ rfl⟩
        clear hK K
        (try simp only [List.getElem_toArray, List.getElem_cons_succ, List.getElem_cons_zero, Act.put, List.setIfInBounds_toArray, List.set_cons_zero, List.set_cons_succ])
        refine wpAnyH_ready (rs := [3]) (by kernel_rfl) (by simp) (AllReadyH.cons (o := _) rfl (fun K hK => ?_) AllReadyH.nil)
        go_simp
        go_at_call 44
        refine (refI_v (fb.below hG)).mono ?_
        rintro e v4513 ⟨t8, B8, k8, d8, rfl, hI8, hb9⟩
        have szv4513 := hb9.size
        replace x7 := x7.below hb9
        replace x8 := x8.below hb9
        replace hI7 := hI7.below hb9
        replace hG := hG.trans (hb9.mono sG)
        replace sG := hG.size
        clear hb9
        go_wp2_with fail
        refine hK.out _ _ ?_ (fun hHeld => ?_)
        · exact ⟨(b0.below hG).cell 0 _ rfl, (b0.below hG).cell 1 _ rfl, (b1.below hG).cell 0 _ rfl, (b1.below hG).cell 1 _ rfl⟩
        clear hK K
        (try simp only [List.getElem_toArray, List.getElem_cons_succ, List.getElem_cons_zero, Act.put, List.setIfInBounds_toArray, List.set_cons_zero, List.set_cons_succ])
        have r0 := x7.cell 0 _ rfl
        have r1 := x7.cell 1 _ rfl
        have f0 := x7.frozen 0
        have f1 := x7.frozen 1
        have r2 := x8.cell 0 _ rfl
        have r3 := x8.cell 1 _ rfl
        have f2 := x8.frozen 0
        have f3 := x8.frozen 1
        have ne78 : v4.heap.size ≠ v.heap.size := by omega
        have ne87 : v.heap.size ≠ v4.heap.size := by omega
        refine wpAnyH_ready (rs := [6]) (by kernel_rfl) (by simp) (AllReadyH.cons (o := _) rfl (fun K hK => ?_) AllReadyH.nil)
        go_simp
        refine hK.out _ _ ?_ (fun hHeld => ?_)
        · exact ⟨((b0.below hG).far (g' := v.heap.size) (by omega) _ _).cell 0 _ rfl, ((b0.below hG).far (g' := v.heap.size) (by omega) _ _).cell 1 _ rfl, ((b1.below hG).far (g' := v.heap.size) (by omega) _ _).cell 0 _ rfl, ((b1.below hG).far (g' := v.heap.size) (by omega) _ _).cell 1 _ rfl⟩
        clear hK K
        (try simp only [List.getElem_toArray, List.getElem_cons_succ, List.getElem_cons_zero, Act.put, List.setIfInBounds_toArray, List.set_cons_zero, List.set_cons_succ])
        have y8 := x8.far (g' := v.heap.size) ne78 (.bool t7) (.slice B7 k7 d7)
        have y7 := x7.stored (.bool t7) (.slice B7 k7 d7)
        have r2 := y8.cell 0 _ rfl
        have r3 := y8.cell 1 _ rfl
        have f2 := y8.frozen 0
        have f3 := y8.frozen 1
        refine wpAnyH_ready (rs := [7]) (by kernel_rfl) (by simp) (AllReadyH.cons (o := _) rfl (fun K hK => ?_) AllReadyH.nil)
        go_simp
        refine hK.out _ _ ?_ (fun hHeld => ?_)
        · exact ⟨((((b0.below hG).far (g' := v.heap.size) (by omega) _ _)).far (g' := v4.heap.size) (by omega) _ _).cell 0 _ rfl, ((((b0.below hG).far (g' := v.heap.size) (by omega) _ _)).far (g' := v4.heap.size) (by omega) _ _).cell 1 _ rfl, ((((b1.below hG).far (g' := v.heap.size) (by omega) _ _)).far (g' := v4.heap.size) (by omega) _ _).cell 0 _ rfl, ((((b1.below hG).far (g' := v.heap.size) (by omega) _ _)).far (g' := v4.heap.size) (by omega) _ _).cell 1 _ rfl⟩
        clear hK K
        (try simp only [List.getElem_toArray, List.getElem_cons_succ, List.getElem_cons_zero, Act.put, List.setIfInBounds_toArray, List.set_cons_zero, List.set_cons_succ])
        refine wpAnyH_done (by kernel_rfl) ?_ _
        refine NoPanic.normal ?_
        have z8 := y8.stored (.bool t8) (.slice B8 k8 d8)
        have z7 := y7.far (g' := v4.heap.size) ne87 (.bool t8) (.slice B8 k8 d8)
        have j7 := (hI7.stored x7 (notInt_box _ _ _ _) (.bool t7) (.slice B7 k7 d7)).stored y8 (notInt_box _ _ _ _) (.bool t8) (.slice B8 k8 d8)
        have j8 := (hI8.stored x7 (notInt_box _ _ _ _) (.bool t7) (.slice B7 k7 d7)).stored y8 (notInt_box _ _ _ _) (.bool t8) (.slice B8 k8 d8)
        have hF := below_stored (g := v4.heap.size) (below_stored (g := v.heap.size) hG (by omega) (.bool t7) (.slice B7 k7 d7)) (by omega) (.bool t8) (.slice B8 k8 d8)
        go_wp2_with fail
        go_meet
        exact ⟨v.heap.size, v4.heap.size, t7, B7, k7, d7, t8, B8, k8, d8, rfl, rfl, j7, j8, z7, z8, hF⟩
    · go_simp
      obtain ⟨v5, hV, x8, hb9, szv5⟩ := boxes1 v #[.bool false, .slice none 0 0] 66
      rw [hV]
      clear hV
      replace szv5 : v.heap.size < v5.heap.size := by omega
      replace hG := hG.trans (hb9.mono sG)
      replace sG := hG.size
      clear hb9
      refine hK.out _ _ ?_ (fun hHeld => ?_)
      · exact ⟨(b0.below hG).cell 0 _ rfl, (b0.below hG).cell 1 _ rfl, (b1.below hG).cell 0 _ rfl, (b1.below hG).cell 1 _ rfl⟩
      clear hK K
      (try simp only [List.getElem_toArray, List.getElem_cons_succ, List.getElem_cons_zero, Act.put, List.setIfInBounds_toArray, List.set_cons_zero, List.set_cons_succ])
      refine wpAnyH_ready (rs := [1, 4]) (by kernel_rfl) (by simp) (AllReadyH.cons (o := _) rfl (fun K hK => ?_) (AllReadyH.cons (o := _) rfl (fun K hK => ?_) AllReadyH.nil))
      · go_simp
        go_at_call 44
        refine (refI_v (fa.below hG)).mono ?_
        rintro e v51 ⟨t7, B7, k7, d7, rfl, hI7, hb9⟩
        have szv51 := hb9.size
        replace x8 := x8.below hb9
        replace hG := hG.trans (hb9.mono sG)
        replace sG := hG.size
        clear hb9
        go_wp2_with fail
        refine hK.out _ _ ?_ (fun hHeld => ?_)
        · exact ⟨(b0.below hG).cell 0 _ rfl, (b0.below hG).cell 1 _ rfl, (b1.below hG).cell 0 _ rfl, (b1.below hG).cell 1 _ rfl⟩
        clear hK K
        (try simp only [List.getElem_toArray, List.getElem_cons_succ, List.getElem_cons_zero, Act.put, List.setIfInBounds_toArray, List.set_cons_zero, List.set_cons_succ])
        refine wpAnyH_ready (rs := [3, 4]) (by kernel_rfl) (by simp) (AllReadyH.cons (o := _) rfl (fun K hK => ?_) (AllReadyH.cons (o := _) rfl (fun K hK => ?_) AllReadyH.nil))
        · go_simp
          go_at_call 44
          refine (refI_v (fb.below hG)).mono ?_
          rintro e v513 ⟨t8, B8, k8, d8, rfl, hI8, hb9⟩
          have szv513 := hb9.size
          replace x8 := x8.below hb9
          replace hI7 := hI7.below hb9
          replace hG := hG.trans (hb9.mono sG)
          replace sG := hG.size
          clear hb9
          go_wp2_with fail
          refine hK.out _ _ ?_ (fun hHeld => ?_)
          · exact ⟨(b0.below hG).cell 0 _ rfl, (b0.below hG).cell 1 _ rfl, (b1.below hG).cell 0 _ rfl, (b1.below hG).cell 1 _ rfl⟩
          clear hK K
          (try simp only [List.getElem_toArray, List.getElem_cons_succ, List.getElem_cons_zero, Act.put, List.setIfInBounds_toArray, List.set_cons_zero, List.set_cons_succ])
          refine wpAnyH_ready (rs := [4]) (by kernel_rfl) (by simp) (AllReadyH.cons (o := _) rfl (fun K hK => ?_) AllReadyH.nil)
          go_simp
          obtain ⟨v5134, hV, x7, hb9, szv5134⟩ := boxes1 v513 #[.bool false, .slice none 0 0] 66
          rw [hV]
          clear hV
          replace szv5134 : v513.heap.size < v5134.heap.size := by omega
          replace x8 := x8.below hb9
          replace hI7 := hI7.below hb9
          replace hI8 := hI8.below hb9
          replace hG := hG.trans (hb9.mono sG)
          replace sG := hG.size
          clear hb9
          refine hK.out _ _ ?_ (fun hHeld => ?_)
          · exact ⟨(b0.below hG).cell 0 _ rfl, (b0.below hG).cell 1 _ rfl, (b1.below hG).cell 0 _ rfl, (b1.below hG).cell 1 _ rfl⟩
          clear hK K
          (try simp only [List.getElem_toArray, List.getElem_cons_succ, List.getElem_cons_zero, Act.put, List.setIfInBounds_toArray, List.set_cons_zero, List.set_cons_succ])
          have r0 := x7.cell 0 _ rfl
          have r1 := x7.cell 1 _ rfl
          have f0 := x7.frozen 0
          have f1 := x7.frozen 1
          have r2 := x8.cell 0 _ rfl
          have r3 := x8.cell 1 _ rfl
          have f2 := x8.frozen 0
          have f3 := x8.frozen 1
          have ne78 : v.heap.size ≠ v513.heap.size := by omega
          have ne87 : v513.heap.size ≠ v.heap.size := by omega
          refine wpAnyH_ready (rs := [6]) (by kernel_rfl) (by simp) (AllReadyH.cons (o := _) rfl (fun K hK => ?_) AllReadyH.nil)
          go_simp
          refine hK.out _ _ ?_ (fun hHeld => ?_)
          · exact ⟨((b0.below hG).far (g' := v513.heap.size) (by omega) _ _).cell 0 _ rfl, ((b0.below hG).far (g' := v513.heap.size) (by omega) _ _).cell 1 _ rfl, ((b1.below hG).far (g' := v513.heap.size) (by omega) _ _).cell 0 _ rfl, ((b1.below hG).far (g' := v513.heap.size) (by omega) _ _).cell 1 _ rfl⟩
          clear hK K
          (try simp only [List.getElem_toArray, List.getElem_cons_succ, List.getElem_cons_zero, Act.put, List.setIfInBounds_toArray, List.set_cons_zero, List.set_cons_succ])
          have y8 := x8.far (g' := v513.heap.size) ne78 (.bool t7) (.slice B7 k7 d7)
          have y7 := x7.stored (.bool t7) (.slice B7 k7 d7)
          have r2 := y8.cell 0 _ rfl
          have r3 := y8.cell 1 _ rfl
          have f2 := y8.frozen 0
          have f3 := y8.frozen 1
          refine wpAnyH_ready (rs := [7]) (by kernel_rfl) (by simp) (AllReadyH.cons (o := _) rfl (fun K hK => ?_) AllReadyH.nil)
          go_simp
          refine hK.out _ _ ?_ (fun hHeld => ?_)
          · exact ⟨((((b0.below hG).far (g' := v513.heap.size) (by omega) _ _)).far (g' := v.heap.size) (by omega) _ _).cell 0 _ rfl, ((((b0.below hG).far (g' := v513.heap.size) (by omega) _ _)).far (g' := v.heap.size) (by omega) _ _).cell 1 _ rfl, ((((b1.below hG).far (g' := v513.heap.size) (by omega) _ _)).far (g' := v.heap.size) (by omega) _ _).cell 0 _ rfl, ((((b1.below hG).far (g' := v513.heap.size) (by omega) _ _)).far (g' := v.heap.size) (by omega) _ _).cell 1 _ rfl⟩
          clear hK K
          (try simp only [List.getElem_toArray, List.getElem_cons_succ, List.getElem_cons_zero, Act.put, List.setIfInBounds_toArray, List.set_cons_zero, List.set_cons_succ])
          refine wpAnyH_done (by kernel_rfl) ?_ _
          refine NoPanic.normal ?_
          have z8 := y8.stored (.bool t8) (.slice B8 k8 d8)
          have z7 := y7.far (g' := v.heap.size) ne87 (.bool t8) (.slice B8 k8 d8)
          have j7 := (hI7.stored x7 (notInt_box _ _ _ _) (.bool t7) (.slice B7 k7 d7)).stored y8 (notInt_box _ _ _ _) (.bool t8) (.slice B8 k8 d8)
          have j8 := (hI8.stored x7 (notInt_box _ _ _ _) (.bool t7) (.slice B7 k7 d7)).stored y8 (notInt_box _ _ _ _) (.bool t8) (.slice B8 k8 d8)
          have hF := below_stored (g := v.heap.size) (below_stored (g := v513.heap.size) hG (by omega) (.bool t7) (.slice B7 k7 d7)) (by omega) (.bool t8) (.slice B8 k8 d8)
          go_wp2_with fail
          go_meet
          exact ⟨v513.heap.size, v.heap.size, t7, B7, k7, d7, t8, B8, k8, d8, rfl, rfl, j7, j8, z7, z8, hF⟩
        · go_simp
          obtain ⟨v514, hV, x7, hb9, szv514⟩ := boxes1 v51 #[.bool false, .slice none 0 0] 66
          rw [hV]
          clear hV
          replace szv514 : v51.heap.size < v514.heap.size := by omega
          replace x8 := x8.below hb9
          replace hI7 := hI7.below hb9
          replace hG := hG.trans (hb9.mono sG)
          replace sG := hG.size
          clear hb9
          refine hK.out _ _ ?_ (fun hHeld => ?_)
          · exact ⟨(b0.below hG).cell 0 _ rfl, (b0.below hG).cell 1 _ rfl, (b1.below hG).cell 0 _ rfl, (b1.below hG).cell 1 _ rfl⟩
          clear hK K
          (try simp only [List.getElem_toArray, List.getElem_cons_succ, List.getElem_cons_zero, Act.put, List.setIfInBounds_toArray, List.set_cons_zero, List.set_cons_succ])
          refine wpAnyH_ready (rs := [3]) (by kernel_rfl) (by simp) (AllReadyH.cons (o := _) rfl (fun K hK => ?_) AllReadyH.nil)
          go_simp
          go_at_call 44
          refine (refI_v (fb.below hG)).mono ?_
          rintro e v5143 ⟨t8, B8, k8, d8, rfl, hI8, hb9⟩
          have szv5143 := hb9.size
          replace x7 := x7.below hb9
          replace x8 := x8.below hb9
          replace hI7 := hI7.below hb9
          replace hG := hG.trans (hb9.mono sG)
          replace sG := hG.size
          clear hb9
          go_wp2_with fail
          refine hK.out _ _ ?_ (fun hHeld => ?_)
          · exact ⟨(b0.below hG).cell 0 _ rfl, (b0.below hG).cell 1 _ rfl, (b1.below hG).cell 0 _ rfl, (b1.below hG).cell 1 _ rfl⟩
          clear hK K
          (try simp only [List.getElem_toArray, List.getElem_cons_succ, List.getElem_cons_zero, Act.put, List.setIfInBounds_toArray, List.set_cons_zero, List.set_cons_succ])
          have r0 := x7.cell 0 _ rfl
          have r1 := x7.cell 1 _ rfl
          have f0 := x7.frozen 0
          have f1 := x7.frozen 1
          have r2 := x8.cell 0 _ rfl
          have r3 := x8.cell 1 _ rfl
          have f2 := x8.frozen 0
          have f3 := x8.frozen 1
          have ne78 : v.heap.size ≠ v51.heap.size := by omega
          have ne87 : v51.heap.size ≠ v.heap.size := by omega
          refine wpAnyH_ready (rs := [6]) (by kernel_rfl) (by simp) (AllReadyH.cons (o := _) rfl (fun K hK => ?_) AllReadyH.nil)
          go_simp
          refine hK.out _ _ ?_ (fun hHeld => ?_)
          · exact ⟨((b0.below hG).far (g' := v51.heap.size) (by omega) _ _).cell 0 _ rfl, ((b0.below hG).far (g' := v51.heap.size) (by omega) _ _).cell 1 _ rfl, ((b1.below hG).far (g' := v51.heap.size) (by omega) _ _).cell 0 _ rfl, ((b1.below hG).far (g' := v51.heap.size) (by omega) _ _).cell 1 _ rfl⟩
          clear hK K
          (try simp only [List.getElem_toArray, List.getElem_cons_succ, List.getElem_cons_zero, Act.put, List.setIfInBounds_toArray, List.set_cons_zero, List.set_cons_succ])
          have y8 := x8.far (g' := v51.heap.size) ne78 (.bool t7) (.slice B7 k7 d7)
          have y7 := x7.stored (.bool t7) (.slice B7 k7 d7)
          have r2 := y8.cell 0 _ rfl
          have r3 := y8.cell 1 _ rfl
          have f2 := y8.frozen 0
          have f3 := y8.frozen 1
          refine wpAnyH_ready (rs := [7]) (by kernel_rfl) (by simp) (AllReadyH.cons (o := _) rfl (fun K hK => ?_) AllReadyH.nil)
          go_simp
          refine hK.out _ _ ?_ (fun hHeld => ?_)
          · exact ⟨((((b0.below hG).far (g' := v51.heap.size) (by omega) _ _)).far (g' := v.heap.size) (by omega) _ _).cell 0 _ rfl, ((((b0.below hG).far (g' := v51.heap.size) (by omega) _ _)).far (g' := v.heap.size) (by omega) _ _).cell 1 _ rfl, ((((b1.below hG).far (g' := v51.heap.size) (by omega) _ _)).far (g' := v.heap.size) (by omega) _ _).cell 0 _ rfl, ((((b1.below hG).far (g' := v51.heap.size) (by omega) _ _)).far (g' := v.heap.size) (by omega) _ _).cell 1 _ rfl⟩
          clear hK K
          (try simp only [List.getElem_toArray, List.getElem_cons_succ, List.getElem_cons_zero, Act.put, List.setIfInBounds_toArray, List.set_cons_zero, List.set_cons_succ])
          refine wpAnyH_done (by kernel_rfl) ?_ _
          refine NoPanic.normal ?_
          have z8 := y8.stored (.bool t8) (.slice B8 k8 d8)
          have z7 := y7.far (g' := v.heap.size) ne87 (.bool t8) (.slice B8 k8 d8)
          have j7 := (hI7.stored x7 (notInt_box _ _ _ _) (.bool t7) (.slice B7 k7 d7)).stored y8 (notInt_box _ _ _ _) (.bool t8) (.slice B8 k8 d8)
          have j8 := (hI8.stored x7 (notInt_box _ _ _ _) (.bool t7) (.slice B7 k7 d7)).stored y8 (notInt_box _ _ _ _) (.bool t8) (.slice B8 k8 d8)
          have hF := below_stored (g := v.heap.size) (below_stored (g := v51.heap.size) hG (by omega) (.bool t7) (.slice B7 k7 d7)) (by omega) (.bool t8) (.slice B8 k8 d8)
          go_wp2_with fail
          go_meet
          exact ⟨v51.heap.size, v.heap.size, t7, B7, k7, d7, t8, B8, k8, d8, rfl, rfl, j7, j8, z7, z8, hF⟩
      · go_simp
        obtain ⟨v54, hV, x7, hb9, szv54⟩ := boxes1 v5 #[.bool false, .slice none 0 0] 66
        rw [hV]
        clear hV
        replace szv54 : v5.heap.size < v54.heap.size := by omega
        replace x8 := x8.below hb9
        replace hG := hG.trans (hb9.mono sG)
        replace sG := hG.size
        clear hb9
        refine hK.out _ _ ?_ (fun hHeld => ?_)
        · exact ⟨(b0.below hG).cell 0 _ rfl, (b0.below hG).cell 1 _ rfl, (b1.below hG).cell 0 _ rfl, (b1.below hG).cell 1 _ rfl⟩
        clear hK K
        (try simp only [List.getElem_toArray, List.getElem_cons_succ, List.getElem_cons_zero, Act.put, List.setIfInBounds_toArray, List.set_cons_zero, List.set_cons_succ])
        refine wpAnyH_ready (rs := [1]) (by kernel_rfl) (by simp) (AllReadyH.cons (o := _) rfl (fun K hK => ?_) AllReadyH.nil)
        go_simp
        go_at_call 44
        refine (refI_v (fa.below hG)).mono ?_
        rintro e v541 ⟨t7, B7, k7, d7, rfl, hI7, hb9⟩
        have szv541 := hb9.size
        replace x7 := x7.below hb9
        replace x8 := x8.below hb9
        replace hG := hG.trans (hb9.mono sG)
        replace sG := hG.size
        clear hb9
        go_wp2_with fail
        refine hK.out _ _ ?_ (fun hHeld => ?_)
        · exact ⟨(b0.below hG).cell 0 _ rfl, (b0.below hG).cell 1 _ rfl, (b1.below hG).cell 0 _ rfl, (b1.below hG).cell 1 _ rfl⟩
        clear hK K
        (try simp only [List.getElem_toArray, List.getElem_cons_succ, List.getElem_cons_zero, Act.put, List.setIfInBounds_toArray, List.set_cons_zero, List.set_cons_succ])
        refine wpAnyH_ready (rs := [3]) (by kernel_rfl) (by simp) (AllReadyH.cons (o := _) rfl (fun K hK => ?_) AllReadyH.nil)
        go_simp
        go_at_call 44
        refine (refI_v (fb.below hG)).mono ?_
        rintro e v5413 ⟨t8, B8, k8, d8, rfl, hI8, hb9⟩
        have szv5413 := hb9.size
        replace x7 := x7.below hb9
        replace x8 := x8.below hb9
        replace hI7 := hI7.below hb9
        replace hG := hG.trans (hb9.mono sG)
        replace sG := hG.size
        clear hb9
        go_wp2_with fail
        refine hK.out _ _ ?_ (fun hHeld => ?_)
        · exact ⟨(b0.below hG).cell 0 _ rfl, (b0.below hG).cell 1 _ rfl, (b1.below hG).cell 0 _ rfl, (b1.below hG).cell 1 _ rfl⟩
        clear hK K
        (try simp only [List.getElem_toArray, List.getElem_cons_succ, List.getElem_cons_zero, Act.put, List.setIfInBounds_toArray, List.set_cons_zero, List.set_cons_succ])
        have r0 := x7.cell 0 _ rfl
        have r1 := x7.cell 1 _ rfl
        have f0 := x7.frozen 0
        have f1 := x7.frozen 1
        have r2 := x8.cell 0 _ rfl
        have r3 := x8.cell 1 _ rfl
        have f2 := x8.frozen 0
        have f3 := x8.frozen 1
        have ne78 : v.heap.size ≠ v5.heap.size := by omega
        have ne87 : v5.heap.size ≠ v.heap.size := by omega
        refine wpAnyH_ready (rs := [6]) (by kernel_rfl) (by simp) (AllReadyH.cons (o := _) rfl (fun K hK => ?_) AllReadyH.nil)
        go_simp
        refine hK.out _ _ ?_ (fun hHeld => ?_)
        · exact ⟨((b0.below hG).far (g' := v5.heap.size) (by omega) _ _).cell 0 _ rfl, ((b0.below hG).far (g' := v5.heap.size) (by omega) _ _).cell 1 _ rfl, ((b1.below hG).far (g' := v5.heap.size) (by omega) _ _).cell 0 _ rfl, ((b1.below hG).far (g' := v5.heap.size) (by omega) _ _).cell 1 _ rfl⟩
        clear hK K
        (try simp only [List.getElem_toArray, List.getElem_cons_succ, List.getElem_cons_zero, Act.put, List.setIfInBounds_toArray, List.set_cons_zero, List.set_cons_succ])
        have y8 := x8.far (g' := v5.heap.size) ne78 (.bool t7) (.slice B7 k7 d7)
        have y7 := x7.stored (.bool t7) (.slice B7 k7 d7)
        have r2 := y8.cell 0 _ rfl
        have r3 := y8.cell 1 _ rfl
        have f2 := y8.frozen 0
        have f3 := y8.frozen 1
        refine wpAnyH_ready (rs := [7]) (by kernel_rfl) (by simp) (AllReadyH.cons (o := _) rfl (fun K hK => ?_) AllReadyH.nil)
        go_simp
        refine hK.out _ _ ?_ (fun hHeld => ?_)
        · exact ⟨((((b0.below hG).far (g' := v5.heap.size) (by omega) _ _)).far (g' := v.heap.size) (by omega) _ _).cell 0 _ rfl, ((((b0.below hG).far (g' := v5.heap.size) (by omega) _ _)).far (g' := v.heap.size) (by omega) _ _).cell 1 _ rfl, ((((b1.below hG).far (g' := v5.heap.size) (by omega) _ _)).far (g' := v.heap.size) (by omega) _ _).cell 0 _ rfl, ((((b1.below hG).far (g' := v5.heap.size) (by omega) _ _)).far (g' := v.heap.size) (by omega) _ _).cell 1 _ rfl⟩
        clear hK K
        (try simp only [List.getElem_toArray, List.getElem_cons_succ, List.getElem_cons_zero, Act.put, List.setIfInBounds_toArray, List.set_cons_zero, List.set_cons_succ])
        refine wpAnyH_done (by kernel_rfl) ?_ _
        refine NoPanic.normal ?_
        have z8 := y8.stored (.bool t8) (.slice B8 k8 d8)
        have z7 := y7.far (g' := v.heap.size) ne87 (.bool t8) (.slice B8 k8 d8)
        have j7 := (hI7.stored x7 (notInt_box _ _ _ _) (.bool t7) (.slice B7 k7 d7)).stored y8 (notInt_box _ _ _ _) (.bool t8) (.slice B8 k8 d8)
        have j8 := (hI8.stored x7 (notInt_box _ _ _ _) (.bool t7) (.slice B7 k7 d7)).stored y8 (notInt_box _ _ _ _) (.bool t8) (.slice B8 k8 d8)
        have hF := below_stored (g := v.heap.size) (below_stored (g := v5.heap.size) hG (by omega) (.bool t7) (.slice B7 k7 d7)) (by omega) (.bool t8) (.slice B8 k8 d8)
        go_wp2_with fail
        go_meet
        exact ⟨v5.heap.size, v.heap.size, t7, B7, k7, d7, t8, B8, k8, d8, rfl, rfl, j7, j8, z7, z8, hF⟩
  case rest =>
    obtain ⟨g7, g8, t7, B7, k7, d7, t8, B8, k8, d8, rfl, rfl, fx, fy, bx, b_y, hb⟩ := hcut
    replace b0 := b0.below hb
    replace b1 := b1.below hb
    replace fa := fa.below hb
    replace fb := fb.below hb
    replace fr := fr.below hb
    have H0 := hbW.trans (hb.mono hbW.size)
    clear hb hbW hsz b2
    obtain ⟨p1, hp1⟩ : ∃ p, (za - -9223372036854775808).sign = p := ⟨_, rfl⟩
    obtain ⟨p2, hp2⟩ : ∃ p, (za - 9223372036854775807).sign = p := ⟨_, rfl⟩
    have c1 := sign_cases (za - -9223372036854775808)
    have c2 := sign_cases (za - 9223372036854775807)
    rw [hp1] at c1
    rw [hp2] at c2
    have HK1 := Lib.hid hp1
    have HK2 := Lib.hid hp2
    clear hp1 hp2
    rcases Int.lt_trichotomy za (-9223372036854775808) with hlo | hlo | hlo
    · have e1 : p1 = -1 := by omega
      subst e1
      have HO := Lib.hid (show za < -9223372036854775808 ∨ 9223372036854775807 < za from .inl hlo)
      clear c1 c2 hlo
      have a0 := b0.cell 0 _ rfl
      have a1 := b0.cell 1 _ rfl
      go_wp2_with fail
      refine (int64_out fa HO.out).mono ?_
      rintro e w1 ⟨rfl, hb⟩
      replace b0 := b0.below hb
      replace b1 := b1.below hb
      replace bx := bx.below hb
      replace b_y := b_y.below hb
      replace fa := fa.below hb
      replace fb := fb.below hb
      replace fx := fx.below hb
      replace fy := fy.below hb
      replace fr := fr.below hb
      replace H0 := H0.trans (hb.mono H0.size)
      clear hb
      clear a0 a1
      go_wp2_with fail
      refine (ifromint_v z hz0 hz1 _).mono ?_
      rintro e w2 ⟨t, B, k, d, rfl, fz, hb⟩
      replace b0 := b0.below hb
      replace b1 := b1.below hb
      replace bx := bx.below hb
      replace b_y := b_y.below hb
      replace fa := fa.below hb
      replace fb := fb.below hb
      replace fx := fx.below hb
      replace fy := fy.below hb
      replace fr := fr.below hb
      replace H0 := H0.trans (hb.mono H0.size)
      clear hb
      go_wp2_with fail
      refine (int64_in fz.ri hz0 hz1).mono ?_
      rintro e w3 ⟨rfl, hb⟩
      replace b0 := b0.below hb
      replace b1 := b1.below hb
      replace bx := bx.below hb
      replace b_y := b_y.below hb
      replace fa := fa.below hb
      replace fb := fb.below hb
      replace fx := fx.below hb
      replace fy := fy.below hb
      replace fr := fr.below hb
      replace H0 := H0.trans (hb.mono H0.size)
      clear hb
      clear fz
      go_wp2_with fail
      have hG := drawn_below w3
      replace b0 := b0.below hG
      replace b1 := b1.below hG
      replace bx := bx.below hG
      replace b_y := b_y.below hG
      replace fa := fa.below hG
      replace fb := fb.below hG
      replace fx := fx.below hG
      replace fy := fy.below hG
      replace fr := fr.below hG
      replace H0 := H0.trans (hG.mono H0.size)
      clear hG
      refine wp_region_noPanic ?_
      refine wp_region_held_drew (S := (fun V => V.cell? ⟨g7, 0, none⟩ = some (.bool t7) ∧ V.cell? ⟨g7, 1, none⟩ = some (.slice B7 k7 d7))) (by kernel_rfl) ?_ (fun hHeld => ?_)
      · exact ⟨bx.cell 0 _ rfl, bx.cell 1 _ rfl⟩
      generalize w3.drew = va at H0 hHeld b0 b1 bx b_y fa fb fx fy fr ⊢
      refine wpAnyH_take (i := 0) (v := ?_) rfl (by kernel_rfl) (by kernel_rfl) (by kernel_rfl) (fun _ _ _ h => h) (Or.inl ⟨by rfl, ?_⟩) (by assumption) ?_
      rotate_left
      · (intro w hSw; (try dsimp only at hSw); go_simp; (try with_reducible rfl))
      (try simp only [List.getElem_toArray, List.getElem_cons_zero, Act.put, List.setIfInBounds_toArray, List.set_cons_zero, List.set_cons_succ])
      refine wpAnyH_ready (rs := [1]) (by kernel_rfl) (by simp) (AllReadyH.cons (o := _) rfl (fun K hK => ?_) AllReadyH.nil)
      go_simp
      go_at_call 48
      refine (nint_v (-9223372036854775808) (by omega) (by omega) _).mono ?_
      rintro e vax ⟨tm, Bm, km, dm, rfl, fm, hb⟩
      replace b0 := b0.below hb
      replace b1 := b1.below hb
      replace bx := bx.below hb
      replace b_y := b_y.below hb
      replace fa := fa.below hb
      replace fb := fb.below hb
      replace fx := fx.below hb
      replace fy := fy.below hb
      replace fr := fr.below hb
      replace H0 := H0.trans (hb.mono H0.size)
      clear hb
      go_wp2_with fail
      refine hK.out _ _ ?_ (fun hHeld => ?_)
      · exact ⟨bx.cell 0 _ rfl, bx.cell 1 _ rfl⟩
      clear hK K
      (try simp only [List.getElem_toArray, List.getElem_cons_succ, List.getElem_cons_zero, Act.put, List.setIfInBounds_toArray, List.set_cons_zero, List.set_cons_succ])
      refine wpAnyH_ready (rs := [2]) (by kernel_rfl) (by simp) (AllReadyH.cons (o := _) rfl (fun K hK => ?_) AllReadyH.nil)
      go_simp
      go_at_call 47
      refine (ncompare_v fx fm (by omega) (by omega) HK1.out).mono ?_
      rintro e vaxx ⟨rfl, hb⟩
      replace b0 := b0.below hb
      replace b1 := b1.below hb
      replace bx := bx.below hb
      replace b_y := b_y.below hb
      replace fa := fa.below hb
      replace fb := fb.below hb
      replace fx := fx.below hb
      replace fy := fy.below hb
      replace fr := fr.below hb
      replace fm := fm.below hb
      replace H0 := H0.trans (hb.mono H0.size)
      clear hb
      go_wp2_with fail
      refine hK.out _ _ ?_ (fun hHeld => ?_)
      · exact ⟨bx.cell 0 _ rfl, bx.cell 1 _ rfl⟩
      clear hK K
      (try simp only [List.getElem_toArray, List.getElem_cons_succ, List.getElem_cons_zero, Act.put, List.setIfInBounds_toArray, List.set_cons_zero, List.set_cons_succ])
      clear fm
      refine wpAnyH_take (i := 3) (v := ?_) rfl (by kernel_rfl) (by kernel_rfl) (by kernel_rfl) (fun _ _ _ h => h) (Or.inl ⟨by rfl, ?_⟩) (by assumption) ?_
      rotate_left
      · (intro w hSw; (try dsimp only at hSw); go_simp; (try with_reducible rfl))
      (try simp only [List.getElem_toArray, List.getElem_cons_succ, List.getElem_cons_zero, Act.put, List.setIfInBounds_toArray, List.set_cons_zero, List.set_cons_succ])
      refine wpAnyH_take (i := 4) (v := ?_) rfl (by kernel_rfl) (by kernel_rfl) (by kernel_rfl) (fun _ _ _ h => h) (Or.inl ⟨by rfl, ?_⟩) (by assumption) ?_
      rotate_left
      · (intro w hSw; (try dsimp only at hSw); go_simp; (try with_reducible rfl))
      (try simp only [List.getElem_toArray, List.getElem_cons_succ, List.getElem_cons_zero, Act.put, List.setIfInBounds_toArray, List.set_cons_zero, List.set_cons_succ])
      refine wpAnyH_take (i := 5) (v := undef) rfl (by kernel_rfl) (by kernel_rfl) (by kernel_rfl) (fun _ _ _ h => h) (Or.inr ⟨by rfl, rfl⟩) (by assumption) ?_
      (try simp only [List.getElem_toArray, List.getElem_cons_succ, List.getElem_cons_zero, Act.put, List.setIfInBounds_toArray, List.set_cons_zero, List.set_cons_succ])
      refine wpAnyH_take (i := 6) (v := undef) rfl (by kernel_rfl) (by kernel_rfl) (by kernel_rfl) (fun _ _ _ h => h) (Or.inr ⟨by rfl, rfl⟩) (by assumption) ?_
      (try simp only [List.getElem_toArray, List.getElem_cons_succ, List.getElem_cons_zero, Act.put, List.setIfInBounds_toArray, List.set_cons_zero, List.set_cons_succ])
      refine wpAnyH_take (i := 7) (v := undef) rfl (by kernel_rfl) (by kernel_rfl) (by kernel_rfl) (fun _ _ _ h => h) (Or.inr ⟨by rfl, rfl⟩) (by assumption) ?_
      (try simp only [List.getElem_toArray, List.getElem_cons_succ, List.getElem_cons_zero, Act.put, List.setIfInBounds_toArray, List.set_cons_zero, List.set_cons_succ])
      refine wpAnyH_take (i := 8) (v := undef) rfl (by kernel_rfl) (by kernel_rfl) (by kernel_rfl) (fun _ _ _ h => h) (Or.inr ⟨by rfl, rfl⟩) (by assumption) ?_
      (try simp only [List.getElem_toArray, List.getElem_cons_succ, List.getElem_cons_zero, Act.put, List.setIfInBounds_toArray, List.set_cons_zero, List.set_cons_succ])
      refine wpAnyH_take (i := 9) (v := ?_) rfl (by kernel_rfl) (by kernel_rfl) (by kernel_rfl) (fun _ _ _ h => h) (Or.inl ⟨by rfl, ?_⟩) (by assumption) ?_
      rotate_left
      · (intro w hSw; (try dsimp only at hSw); go_simp; (try with_reducible rfl))
      (try simp only [List.getElem_toArray, List.getElem_cons_succ, List.getElem_cons_zero, Act.put, List.setIfInBounds_toArray, List.set_cons_zero, List.set_cons_succ])
      refine wpAnyH_take (i := 10) (v := ?_) rfl (by kernel_rfl) (by kernel_rfl) (by kernel_rfl) (fun _ _ _ h => h) (Or.inl ⟨by rfl, ?_⟩) (by assumption) ?_
      rotate_left
      · (intro w hSw; (try dsimp only at hSw); go_simp; (try with_reducible rfl))
      (try simp only [List.getElem_toArray, List.getElem_cons_succ, List.getElem_cons_zero, Act.put, List.setIfInBounds_toArray, List.set_cons_zero, List.set_cons_succ])
      refine wpAnyH_done (by kernel_rfl) ?_ _
      refine NoPanic.normal ?_
      go_wp2_with fail
      have hG := drawn_below vaxx
      replace b0 := b0.below hG
      replace b1 := b1.below hG
      replace bx := bx.below hG
      replace b_y := b_y.below hG
      replace fa := fa.below hG
      replace fb := fb.below hG
      replace fx := fx.below hG
      replace fy := fy.below hG
      replace fr := fr.below hG
      replace H0 := H0.trans (hG.mono H0.size)
      clear hG
      refine wp_region_noPanic ?_
      refine wp_region_held_drew (S := (fun V => V.cell? ⟨g7, 0, none⟩ = some (.bool t7) ∧ V.cell? ⟨g7, 1, none⟩ = some (.slice B7 k7 d7))) (by kernel_rfl) ?_ (fun hHeld => ?_)
      · exact ⟨bx.cell 0 _ rfl, bx.cell 1 _ rfl⟩
      generalize vaxx.drew = vb at H0 hHeld b0 b1 bx b_y fa fb fx fy fr ⊢
      refine wpAnyH_take (i := 0) (v := ?_) rfl (by kernel_rfl) (by kernel_rfl) (by kernel_rfl) (fun _ _ _ h => h) (Or.inl ⟨by rfl, ?_⟩) (by assumption) ?_
      rotate_left
      · (intro w hSw; (try dsimp only at hSw); go_simp; (try with_reducible rfl))
      (try simp only [List.getElem_toArray, List.getElem_cons_zero, Act.put, List.setIfInBounds_toArray, List.set_cons_zero, List.set_cons_succ])
      refine wpAnyH_take (i := 1) (v := ?_) rfl (by kernel_rfl) (by kernel_rfl) (by kernel_rfl) (fun _ _ _ h => h) (Or.inl ⟨by rfl, ?_⟩) (by assumption) ?_
      rotate_left
      · (intro w hSw; (try dsimp only at hSw); go_simp; (try with_reducible rfl))
      (try simp only [List.getElem_toArray, List.getElem_cons_succ, List.getElem_cons_zero, Act.put, List.setIfInBounds_toArray, List.set_cons_zero, List.set_cons_succ])
      refine wpAnyH_take (i := 2) (v := ?_) rfl (by kernel_rfl) (by kernel_rfl) (by kernel_rfl) (fun _ _ _ h => h) (Or.inl ⟨by rfl, ?_⟩) (by assumption) ?_
      rotate_left
      · (intro w hSw; (try dsimp only at hSw); go_simp; (try with_reducible rfl))
      (try simp only [List.getElem_toArray, List.getElem_cons_succ, List.getElem_cons_zero, Act.put, List.setIfInBounds_toArray, List.set_cons_zero, List.set_cons_succ])
      refine wpAnyH_take (i := 3) (v := ?_) rfl (by kernel_rfl) (by kernel_rfl) (by kernel_rfl) (fun _ _ _ h => h) (Or.inl ⟨by rfl, ?_⟩) (by assumption) ?_
      rotate_left
      · (intro w hSw; (try dsimp only at hSw); go_simp; (try with_reducible rfl))
      (try simp only [List.getElem_toArray, List.getElem_cons_succ, List.getElem_cons_zero, Act.put, List.setIfInBounds_toArray, List.set_cons_zero, List.set_cons_succ])
      refine wpAnyH_take (i := 4) (v := ?_) rfl (by kernel_rfl) (by kernel_rfl) (by kernel_rfl) (fun _ _ _ h => h) (Or.inl ⟨by rfl, ?_⟩) (by assumption) ?_
      rotate_left
      · (intro w hSw; (try dsimp only at hSw); go_simp; (try with_reducible rfl))
      (try simp only [List.getElem_toArray, List.getElem_cons_succ, List.getElem_cons_zero, Act.put, List.setIfInBounds_toArray, List.set_cons_zero, List.set_cons_succ])
      refine wpAnyH_take (i := 5) (v := ?_) rfl (by kernel_rfl) (by kernel_rfl) (by kernel_rfl) (fun _ _ _ h => h) (Or.inl ⟨by rfl, ?_⟩) (by assumption) ?_
      rotate_left
      · (intro w hSw; (try dsimp only at hSw); go_simp; (try with_reducible rfl))
      (try simp only [List.getElem_toArray, List.getElem_cons_succ, List.getElem_cons_zero, Act.put, List.setIfInBounds_toArray, List.set_cons_zero, List.set_cons_succ])
      refine wpAnyH_take (i := 6) (v := undef) rfl (by kernel_rfl) (by kernel_rfl) (by kernel_rfl) (fun _ _ _ h => h) (Or.inr ⟨by rfl, rfl⟩) (by assumption) ?_
      (try simp only [List.getElem_toArray, List.getElem_cons_succ, List.getElem_cons_zero, Act.put, List.setIfInBounds_toArray, List.set_cons_zero, List.set_cons_succ])
      refine wpAnyH_take (i := 8) (v := undef) rfl (by kernel_rfl) (by kernel_rfl) (by kernel_rfl) (fun _ _ _ h => h) (Or.inr ⟨by rfl, rfl⟩) (by assumption) ?_
      (try simp only [List.getElem_toArray, List.getElem_cons_succ, List.getElem_cons_zero, Act.put, List.setIfInBounds_toArray, List.set_cons_zero, List.set_cons_succ])
      refine wpAnyH_take (i := 7) (v := undef) rfl (by kernel_rfl) (by kernel_rfl) (by kernel_rfl) (fun _ _ _ h => h) (Or.inr ⟨by rfl, rfl⟩) (by assumption) ?_
      (try simp only [List.getElem_toArray, List.getElem_cons_succ, List.getElem_cons_zero, Act.put, List.setIfInBounds_toArray, List.set_cons_zero, List.set_cons_succ])
      refine wpAnyH_take (i := 9) (v := undef) rfl (by kernel_rfl) (by kernel_rfl) (by kernel_rfl) (fun _ _ _ h => h) (Or.inr ⟨by rfl, rfl⟩) (by assumption) ?_
      (try simp only [List.getElem_toArray, List.getElem_cons_succ, List.getElem_cons_zero, Act.put, List.setIfInBounds_toArray, List.set_cons_zero, List.set_cons_succ])
      refine wpAnyH_take (i := 10) (v := undef) rfl (by kernel_rfl) (by kernel_rfl) (by kernel_rfl) (fun _ _ _ h => h) (Or.inr ⟨by rfl, rfl⟩) (by assumption) ?_
      (try simp only [List.getElem_toArray, List.getElem_cons_succ, List.getElem_cons_zero, Act.put, List.setIfInBounds_toArray, List.set_cons_zero, List.set_cons_succ])
      refine wpAnyH_take (i := 11) (v := ?_) rfl (by kernel_rfl) (by kernel_rfl) (by kernel_rfl) (fun _ _ _ h => h) (Or.inl ⟨by rfl, ?_⟩) (by assumption) ?_
      rotate_left
      · (intro w hSw; (try dsimp only at hSw); go_simp; (try with_reducible rfl))
      (try simp only [List.getElem_toArray, List.getElem_cons_succ, List.getElem_cons_zero, Act.put, List.setIfInBounds_toArray, List.set_cons_zero, List.set_cons_succ])
      refine wpAnyH_take (i := 12) (v := ?_) rfl (by kernel_rfl) (by kernel_rfl) (by kernel_rfl) (fun _ _ _ h => h) (Or.inl ⟨by rfl, ?_⟩) (by assumption) ?_
      rotate_left
      · (intro w hSw; (try dsimp only at hSw); go_simp; (try with_reducible rfl))
      (try simp only [List.getElem_toArray, List.getElem_cons_succ, List.getElem_cons_zero, Act.put, List.setIfInBounds_toArray, List.set_cons_zero, List.set_cons_succ])
      refine wpAnyH_take (i := 13) (v := ?_) rfl (by kernel_rfl) (by kernel_rfl) (by kernel_rfl) (fun _ _ _ h => h) (Or.inl ⟨by rfl, ?_⟩) (by assumption) ?_
      rotate_left
      · (intro w hSw; (try dsimp only at hSw); go_simp; (try with_reducible rfl))
      (try simp only [List.getElem_toArray, List.getElem_cons_succ, List.getElem_cons_zero, Act.put, List.setIfInBounds_toArray, List.set_cons_zero, List.set_cons_succ])
      refine wpAnyH_take (i := 14) (v := ?_) rfl (by kernel_rfl) (by kernel_rfl) (by kernel_rfl) (fun _ _ _ h => h) (Or.inl ⟨by rfl, ?_⟩) (by assumption) ?_
      rotate_left
      · (intro w hSw; (try dsimp only at hSw); go_simp; (try with_reducible rfl))
      (try simp only [List.getElem_toArray, List.getElem_cons_succ, List.getElem_cons_zero, Act.put, List.setIfInBounds_toArray, List.set_cons_zero, List.set_cons_succ])
      refine wpAnyH_take (i := 15) (v := ?_) rfl (by kernel_rfl) (by kernel_rfl) (by kernel_rfl) (fun _ _ _ h => h) (Or.inl ⟨by rfl, ?_⟩) (by assumption) ?_
      rotate_left
      · (intro w hSw; (try dsimp only at hSw); go_simp; (try with_reducible rfl))
      (try simp only [List.getElem_toArray, List.getElem_cons_succ, List.getElem_cons_zero, Act.put, List.setIfInBounds_toArray, List.set_cons_zero, List.set_cons_succ])
      refine wpAnyH_take (i := 16) (v := ?_) rfl (by kernel_rfl) (by kernel_rfl) (by kernel_rfl) (fun _ _ _ h => h) (Or.inl ⟨by rfl, ?_⟩) (by assumption) ?_
      rotate_left
      · (intro w hSw; (try dsimp only at hSw); go_simp; (try with_reducible rfl))
      (try simp only [List.getElem_toArray, List.getElem_cons_succ, List.getElem_cons_zero, Act.put, List.setIfInBounds_toArray, List.set_cons_zero, List.set_cons_succ])
      refine wpAnyH_take (i := 17) (v := ?_) rfl (by kernel_rfl) (by kernel_rfl) (by kernel_rfl) (fun _ _ _ h => h) (Or.inl ⟨by rfl, ?_⟩) (by assumption) ?_
      rotate_left
      · (intro w hSw; (try dsimp only at hSw); go_simp; (try with_reducible rfl))
      (try simp only [List.getElem_toArray, List.getElem_cons_succ, List.getElem_cons_zero, Act.put, List.setIfInBounds_toArray, List.set_cons_zero, List.set_cons_succ])
      refine wpAnyH_take (i := 18) (v := ?_) rfl (by kernel_rfl) (by kernel_rfl) (by kernel_rfl) (fun _ _ _ h => h) (Or.inl ⟨by rfl, ?_⟩) (by assumption) ?_
      rotate_left
      · (intro w hSw; (try dsimp only at hSw); go_simp; (try with_reducible rfl))
      (try simp only [List.getElem_toArray, List.getElem_cons_succ, List.getElem_cons_zero, Act.put, List.setIfInBounds_toArray, List.set_cons_zero, List.set_cons_succ])
      refine wpAnyH_take (i := 19) (v := ?_) rfl (by kernel_rfl) (by kernel_rfl) (by kernel_rfl) (fun _ _ _ h => h) (Or.inl ⟨by rfl, ?_⟩) (by assumption) ?_
      rotate_left
      · (intro w hSw; (try dsimp only at hSw); go_simp; (try with_reducible rfl))
      (try simp only [List.getElem_toArray, List.getElem_cons_succ, List.getElem_cons_zero, Act.put, List.setIfInBounds_toArray, List.set_cons_zero, List.set_cons_succ])
      refine wpAnyH_take (i := 20) (v := ?_) rfl (by kernel_rfl) (by kernel_rfl) (by kernel_rfl) (fun _ _ _ h => h) (Or.inl ⟨by rfl, ?_⟩) (by assumption) ?_
      rotate_left
      · (intro w hSw; (try dsimp only at hSw); go_simp; (try with_reducible rfl))
      (try simp only [List.getElem_toArray, List.getElem_cons_succ, List.getElem_cons_zero, Act.put, List.setIfInBounds_toArray, List.set_cons_zero, List.set_cons_succ])
      refine wpAnyH_take (i := 21) (v := ?_) rfl (by kernel_rfl) (by kernel_rfl) (by kernel_rfl) (fun _ _ _ h => h) (Or.inl ⟨by rfl, ?_⟩) (by assumption) ?_
      rotate_left
      · (intro w hSw; (try dsimp only at hSw); go_simp; (try with_reducible rfl))
      (try simp only [List.getElem_toArray, List.getElem_cons_succ, List.getElem_cons_zero, Act.put, List.setIfInBounds_toArray, List.set_cons_zero, List.set_cons_succ])
      refine wpAnyH_take (i := 22) (v := ?_) rfl (by kernel_rfl) (by kernel_rfl) (by kernel_rfl) (fun _ _ _ h => h) (Or.inl ⟨by rfl, ?_⟩) (by assumption) ?_
      rotate_left
      · (intro w hSw; (try dsimp only at hSw); go_simp; (try with_reducible rfl))
      (try simp only [List.getElem_toArray, List.getElem_cons_succ, List.getElem_cons_zero, Act.put, List.setIfInBounds_toArray, List.set_cons_zero, List.set_cons_succ])
      refine wpAnyH_take (i := 23) (v := ?_) rfl (by kernel_rfl) (by kernel_rfl) (by kernel_rfl) (fun _ _ _ h => h) (Or.inl ⟨by rfl, ?_⟩) (by assumption) ?_
      rotate_left
      · (intro w hSw; (try dsimp only at hSw); go_simp; (try with_reducible rfl))
      (try simp only [List.getElem_toArray, List.getElem_cons_succ, List.getElem_cons_zero, Act.put, List.setIfInBounds_toArray, List.set_cons_zero, List.set_cons_succ])
      refine wpAnyH_take (i := 24) (v := ?_) rfl (by kernel_rfl) (by kernel_rfl) (by kernel_rfl) (fun _ _ _ h => h) (Or.inl ⟨by rfl, ?_⟩) (by assumption) ?_
      rotate_left
      · (intro w hSw; (try dsimp only at hSw); go_simp; (try with_reducible rfl))
      (try simp only [List.getElem_toArray, List.getElem_cons_succ, List.getElem_cons_zero, Act.put, List.setIfInBounds_toArray, List.set_cons_zero, List.set_cons_succ])
      refine wpAnyH_take (i := 25) (v := ?_) rfl (by kernel_rfl) (by kernel_rfl) (by kernel_rfl) (fun _ _ _ h => h) (Or.inl ⟨by rfl, ?_⟩) (by assumption) ?_
      rotate_left
      · (intro w hSw; (try dsimp only at hSw); go_simp; (try with_reducible rfl))
      (try simp only [List.getElem_toArray, List.getElem_cons_succ, List.getElem_cons_zero, Act.put, List.setIfInBounds_toArray, List.set_cons_zero, List.set_cons_succ])
      refine wpAnyH_take (i := 26) (v := ?_) rfl (by kernel_rfl) (by kernel_rfl) (by kernel_rfl) (fun _ _ _ h => h) (Or.inl ⟨by rfl, ?_⟩) (by assumption) ?_
      rotate_left
      · (intro w hSw; (try dsimp only at hSw); go_simp; (try with_reducible rfl))
      (try simp only [List.getElem_toArray, List.getElem_cons_succ, List.getElem_cons_zero, Act.put, List.setIfInBounds_toArray, List.set_cons_zero, List.set_cons_succ])
      refine wpAnyH_take (i := 27) (v := ?_) rfl (by kernel_rfl) (by kernel_rfl) (by kernel_rfl) (fun _ _ _ h => h) (Or.inl ⟨by rfl, ?_⟩) (by assumption) ?_
      rotate_left
      · (intro w hSw; (try dsimp only at hSw); go_simp; (try with_reducible rfl))
      (try simp only [List.getElem_toArray, List.getElem_cons_succ, List.getElem_cons_zero, Act.put, List.setIfInBounds_toArray, List.set_cons_zero, List.set_cons_succ])
      refine wpAnyH_take (i := 28) (v := ?_) rfl (by kernel_rfl) (by kernel_rfl) (by kernel_rfl) (fun _ _ _ h => h) (Or.inl ⟨by rfl, ?_⟩) (by assumption) ?_
      rotate_left
      · (intro w hSw; (try dsimp only at hSw); go_simp; (try with_reducible rfl))
      (try simp only [List.getElem_toArray, List.getElem_cons_succ, List.getElem_cons_zero, Act.put, List.setIfInBounds_toArray, List.set_cons_zero, List.set_cons_succ])
      refine wpAnyH_take (i := 29) (v := ?_) rfl (by kernel_rfl) (by kernel_rfl) (by kernel_rfl) (fun _ _ _ h => h) (Or.inl ⟨by rfl, ?_⟩) (by assumption) ?_
      rotate_left
      · (intro w hSw; (try dsimp only at hSw); go_simp; (try with_reducible rfl))
      (try simp only [List.getElem_toArray, List.getElem_cons_succ, List.getElem_cons_zero, Act.put, List.setIfInBounds_toArray, List.set_cons_zero, List.set_cons_succ])
      refine wpAnyH_take (i := 30) (v := ?_) rfl (by kernel_rfl) (by kernel_rfl) (by kernel_rfl) (fun _ _ _ h => h) (Or.inl ⟨by rfl, ?_⟩) (by assumption) ?_
      rotate_left
      · (intro w hSw; (try dsimp only at hSw); go_simp; (try with_reducible rfl))
      (try simp only [List.getElem_toArray, List.getElem_cons_succ, List.getElem_cons_zero, Act.put, List.setIfInBounds_toArray, List.set_cons_zero, List.set_cons_succ])
      refine wpAnyH_take (i := 31) (v := ?_) rfl (by kernel_rfl) (by kernel_rfl) (by kernel_rfl) (fun _ _ _ h => h) (Or.inl ⟨by rfl, ?_⟩) (by assumption) ?_
      rotate_left
      · (intro w hSw; (try dsimp only at hSw); go_simp; (try with_reducible rfl))
      (try simp only [List.getElem_toArray, List.getElem_cons_succ, List.getElem_cons_zero, Act.put, List.setIfInBounds_toArray, List.set_cons_zero, List.set_cons_succ])
      refine wpAnyH_take (i := 33) (v := ?_) rfl (by kernel_rfl) (by kernel_rfl) (by kernel_rfl) (fun _ _ _ h => h) (Or.inl ⟨by rfl, ?_⟩) (by assumption) ?_
      rotate_left
      · (intro w hSw; (try dsimp only at hSw); go_simp; (try with_reducible rfl))
      (try simp only [List.getElem_toArray, List.getElem_cons_succ, List.getElem_cons_zero, Act.put, List.setIfInBounds_toArray, List.set_cons_zero, List.set_cons_succ])
      refine wpAnyH_ready (rs := [32]) (by kernel_rfl) (by simp) (AllReadyH.cons (o := _) rfl (fun K hK => ?_) AllReadyH.nil)
      go_simp
      go_at_call 46
      refine (ifromint_v z hz0 hz1 _).mono ?_
      rintro e vbx ⟨tm, Bm, km, dm, rfl, fm, hb⟩
      replace b0 := b0.below hb
      replace b1 := b1.below hb
      replace bx := bx.below hb
      replace b_y := b_y.below hb
      replace fa := fa.below hb
      replace fb := fb.below hb
      replace fx := fx.below hb
      replace fy := fy.below hb
      replace fr := fr.below hb
      replace H0 := H0.trans (hb.mono H0.size)
      clear hb
      go_wp2_with fail
      refine hK.out _ _ ?_ (fun hHeld => ?_)
      · exact ⟨bx.cell 0 _ rfl, bx.cell 1 _ rfl⟩
      clear hK K
      (try simp only [List.getElem_toArray, List.getElem_cons_succ, List.getElem_cons_zero, Act.put, List.setIfInBounds_toArray, List.set_cons_zero, List.set_cons_succ])
      refine wpAnyH_ready (rs := [34]) (by kernel_rfl) (by simp) (AllReadyH.cons (o := _) rfl (fun K hK => ?_) AllReadyH.nil)
      go_simp
      go_at_call 48
      refine (nint_v z hz0 hz1 _).mono ?_
      rintro e vbxx ⟨tn, Bn, kn, dn, rfl, fn, hb⟩
      replace b0 := b0.below hb
      replace b1 := b1.below hb
      replace bx := bx.below hb
      replace b_y := b_y.below hb
      replace fa := fa.below hb
      replace fb := fb.below hb
      replace fx := fx.below hb
      replace fy := fy.below hb
      replace fr := fr.below hb
      replace fm := fm.below hb
      replace H0 := H0.trans (hb.mono H0.size)
      clear hb
      go_wp2_with fail
      refine hK.out _ _ ?_ (fun hHeld => ?_)
      · exact ⟨bx.cell 0 _ rfl, bx.cell 1 _ rfl⟩
      clear hK K
      (try simp only [List.getElem_toArray, List.getElem_cons_succ, List.getElem_cons_zero, Act.put, List.setIfInBounds_toArray, List.set_cons_zero, List.set_cons_succ])
      refine wpAnyH_ready (rs := [35]) (by kernel_rfl) (by simp) (AllReadyH.cons (o := _) rfl (fun K hK => ?_) AllReadyH.nil)
      go_simp
      go_at_call 49
      refine (same2_v fm fn rfl (by omega)).mono ?_
      rintro e vbxxx ⟨rfl, hb⟩
      replace b0 := b0.below hb
      replace b1 := b1.below hb
      replace bx := bx.below hb
      replace b_y := b_y.below hb
      replace fa := fa.below hb
      replace fb := fb.below hb
      replace fx := fx.below hb
      replace fy := fy.below hb
      replace fr := fr.below hb
      replace fm := fm.below hb
      replace fn := fn.below hb
      replace H0 := H0.trans (hb.mono H0.size)
      clear hb
      go_wp2_with fail
      refine hK.out _ _ ?_ (fun hHeld => ?_)
      · exact ⟨bx.cell 0 _ rfl, bx.cell 1 _ rfl⟩
      clear hK K
      (try simp only [List.getElem_toArray, List.getElem_cons_succ, List.getElem_cons_zero, Act.put, List.setIfInBounds_toArray, List.set_cons_zero, List.set_cons_succ])
      clear fm fn
      refine wpAnyH_take (i := 36) (v := ?_) rfl (by kernel_rfl) (by kernel_rfl) (by kernel_rfl) (fun _ _ _ h => h) (Or.inl ⟨by rfl, ?_⟩) (by assumption) ?_
      rotate_left
      · (intro w hSw; (try dsimp only at hSw); go_simp; (try with_reducible rfl))
      (try simp only [List.getElem_toArray, List.getElem_cons_succ, List.getElem_cons_zero, Act.put, List.setIfInBounds_toArray, List.set_cons_zero, List.set_cons_succ])
      refine wpAnyH_take (i := 37) (v := ?_) rfl (by kernel_rfl) (by kernel_rfl) (by kernel_rfl) (fun _ _ _ h => h) (Or.inl ⟨by rfl, ?_⟩) (by assumption) ?_
      rotate_left
      · (intro w hSw; (try dsimp only at hSw); go_simp; (try with_reducible rfl))
      (try simp only [List.getElem_toArray, List.getElem_cons_succ, List.getElem_cons_zero, Act.put, List.setIfInBounds_toArray, List.set_cons_zero, List.set_cons_succ])
      refine wpAnyH_done (by kernel_rfl) ?_ _
      refine NoPanic.normal ?_
      go_wp2_with fail
      have hG := drawn_below vbxxx
      replace b0 := b0.below hG
      replace b1 := b1.below hG
      replace bx := bx.below hG
      replace b_y := b_y.below hG
      replace fa := fa.below hG
      replace fb := fb.below hG
      replace fx := fx.below hG
      replace fy := fy.below hG
      replace fr := fr.below hG
      replace H0 := H0.trans (hG.mono H0.size)
      clear hG
      refine wp_region_noPanic ?_
      refine wp_region_held_drew (S := (fun V => V.cell? ⟨w.heap.size, 0, none⟩ = some (.bool s) ∧ V.cell? ⟨w.heap.size, 1, none⟩ = some (.slice A n c) ∧ V.cell? ⟨w.heap.size + 1, 0, none⟩ = some (.bool s') ∧ V.cell? ⟨w.heap.size + 1, 1, none⟩ = some (.slice A' n' c') ∧ V.cell? ⟨g7, 0, none⟩ = some (.bool t7) ∧ V.cell? ⟨g7, 1, none⟩ = some (.slice B7 k7 d7) ∧ V.cell? ⟨g8, 0, none⟩ = some (.bool t8) ∧ V.cell? ⟨g8, 1, none⟩ = some (.slice B8 k8 d8))) (by kernel_rfl) ?_ (fun hHeld => ?_)
      · exact ⟨b0.cell 0 _ rfl, b0.cell 1 _ rfl, b1.cell 0 _ rfl, b1.cell 1 _ rfl, bx.cell 0 _ rfl, bx.cell 1 _ rfl, b_y.cell 0 _ rfl, b_y.cell 1 _ rfl⟩
      generalize vbxxx.drew = vc at H0 hHeld b0 b1 bx b_y fa fb fx fy fr ⊢
      refine wpAnyH_ready (rs := [0]) (by kernel_rfl) (by simp) (AllReadyH.cons (o := _) rfl (fun K hK => ?_) AllReadyH.nil)
      go_simp
      go_at_call 43
      refine (known2_any _).mono ?_
      rintro e vcx ⟨rfl, hb⟩
      replace b0 := b0.below hb
      replace b1 := b1.below hb
      replace bx := bx.below hb
      replace b_y := b_y.below hb
      replace fa := fa.below hb
      replace fb := fb.below hb
      replace fx := fx.below hb
      replace fy := fy.below hb
      replace fr := fr.below hb
      replace H0 := H0.trans (hb.mono H0.size)
      clear hb
      go_wp2_with fail
      refine hK.out _ _ ?_ (fun hHeld => ?_)
      · exact ⟨b0.cell 0 _ rfl, b0.cell 1 _ rfl, b1.cell 0 _ rfl, b1.cell 1 _ rfl, bx.cell 0 _ rfl, bx.cell 1 _ rfl, b_y.cell 0 _ rfl, b_y.cell 1 _ rfl⟩
      clear hK K
      (try simp only [List.getElem_toArray, List.getElem_cons_zero, Act.put, List.setIfInBounds_toArray, List.set_cons_zero, List.set_cons_succ])
      refine wpAnyH_take (i := 1) (v := ?_) rfl (by kernel_rfl) (by kernel_rfl) (by kernel_rfl) (fun _ _ _ h => h) (Or.inl ⟨by rfl, ?_⟩) (by assumption) ?_
      rotate_left
      · (intro w hSw; (try dsimp only at hSw); go_simp; (try with_reducible rfl))
      (try simp only [List.getElem_toArray, List.getElem_cons_succ, List.getElem_cons_zero, Act.put, List.setIfInBounds_toArray, List.set_cons_zero, List.set_cons_succ])
      refine wpAnyH_take (i := 2) (v := ?_) rfl (by kernel_rfl) (by kernel_rfl) (by kernel_rfl) (fun _ _ _ h => h) (Or.inl ⟨by rfl, ?_⟩) (by assumption) ?_
      rotate_left
      · (intro w hSw; (try dsimp only at hSw); go_simp; (try with_reducible rfl))
      (try simp only [List.getElem_toArray, List.getElem_cons_succ, List.getElem_cons_zero, Act.put, List.setIfInBounds_toArray, List.set_cons_zero, List.set_cons_succ])
      refine wpAnyH_take (i := 4) (v := ?_) rfl (by kernel_rfl) (by kernel_rfl) (by kernel_rfl) (fun _ _ _ h => h) (Or.inl ⟨by rfl, ?_⟩) (by assumption) ?_
      rotate_left
      · (intro w hSw; (try dsimp only at hSw); go_simp; (try with_reducible rfl))
      (try simp only [List.getElem_toArray, List.getElem_cons_succ, List.getElem_cons_zero, Act.put, List.setIfInBounds_toArray, List.set_cons_zero, List.set_cons_succ])
      refine wpAnyH_ready (rs := [3]) (by kernel_rfl) (by simp) (AllReadyH.cons (o := _) rfl (fun K hK => ?_) AllReadyH.nil)
      go_simp
      go_at_call 50
      refine (inorm_v fa (by omega)).mono ?_
      rintro e vcxx ⟨tm, Bm, km, dm, rfl, fm, hb⟩
      replace b0 := b0.below hb
      replace b1 := b1.below hb
      replace bx := bx.below hb
      replace b_y := b_y.below hb
      replace fa := fa.below hb
      replace fb := fb.below hb
      replace fx := fx.below hb
      replace fy := fy.below hb
      replace fr := fr.below hb
      replace H0 := H0.trans (hb.mono H0.size)
      clear hb
      go_wp2_with fail
      refine hK.out _ _ ?_ (fun hHeld => ?_)
      · exact ⟨b0.cell 0 _ rfl, b0.cell 1 _ rfl, b1.cell 0 _ rfl, b1.cell 1 _ rfl, bx.cell 0 _ rfl, bx.cell 1 _ rfl, b_y.cell 0 _ rfl, b_y.cell 1 _ rfl⟩
      clear hK K
      (try simp only [List.getElem_toArray, List.getElem_cons_succ, List.getElem_cons_zero, Act.put, List.setIfInBounds_toArray, List.set_cons_zero, List.set_cons_succ])
      refine wpAnyH_ready (rs := [5]) (by kernel_rfl) (by simp) (AllReadyH.cons (o := _) rfl (fun K hK => ?_) AllReadyH.nil)
      go_simp
      go_at_call 49
      refine (same2_v fm fx rfl (by omega)).mono ?_
      rintro e vcxxx ⟨rfl, hb⟩
      replace b0 := b0.below hb
      replace b1 := b1.below hb
      replace bx := bx.below hb
      replace b_y := b_y.below hb
      replace fa := fa.below hb
      replace fb := fb.below hb
      replace fx := fx.below hb
      replace fy := fy.below hb
      replace fr := fr.below hb
      replace fm := fm.below hb
      replace H0 := H0.trans (hb.mono H0.size)
      clear hb
      go_wp2_with fail
      refine hK.out _ _ ?_ (fun hHeld => ?_)
      · exact ⟨b0.cell 0 _ rfl, b0.cell 1 _ rfl, b1.cell 0 _ rfl, b1.cell 1 _ rfl, bx.cell 0 _ rfl, bx.cell 1 _ rfl, b_y.cell 0 _ rfl, b_y.cell 1 _ rfl⟩
      clear hK K
      (try simp only [List.getElem_toArray, List.getElem_cons_succ, List.getElem_cons_zero, Act.put, List.setIfInBounds_toArray, List.set_cons_zero, List.set_cons_succ])
      clear fm
      refine wpAnyH_take (i := 6) (v := ?_) rfl (by kernel_rfl) (by kernel_rfl) (by kernel_rfl) (fun _ _ _ h => h) (Or.inl ⟨by rfl, ?_⟩) (by assumption) ?_
      rotate_left
      · (intro w hSw; (try dsimp only at hSw); go_simp; (try with_reducible rfl))
      (try simp only [List.getElem_toArray, List.getElem_cons_succ, List.getElem_cons_zero, Act.put, List.setIfInBounds_toArray, List.set_cons_zero, List.set_cons_succ])
      refine wpAnyH_take (i := 7) (v := ?_) rfl (by kernel_rfl) (by kernel_rfl) (by kernel_rfl) (fun _ _ _ h => h) (Or.inl ⟨by rfl, ?_⟩) (by assumption) ?_
      rotate_left
      · (intro w hSw; (try dsimp only at hSw); go_simp; (try with_reducible rfl))
      (try simp only [List.getElem_toArray, List.getElem_cons_succ, List.getElem_cons_zero, Act.put, List.setIfInBounds_toArray, List.set_cons_zero, List.set_cons_succ])
      refine wpAnyH_take (i := 8) (v := ?_) rfl (by kernel_rfl) (by kernel_rfl) (by kernel_rfl) (fun _ _ _ h => h) (Or.inl ⟨by rfl, ?_⟩) (by assumption) ?_
      rotate_left
      · (intro w hSw; (try dsimp only at hSw); go_simp; (try with_reducible rfl))
      (try simp only [List.getElem_toArray, List.getElem_cons_succ, List.getElem_cons_zero, Act.put, List.setIfInBounds_toArray, List.set_cons_zero, List.set_cons_succ])
      refine wpAnyH_take (i := 10) (v := ?_) rfl (by kernel_rfl) (by kernel_rfl) (by kernel_rfl) (fun _ _ _ h => h) (Or.inl ⟨by rfl, ?_⟩) (by assumption) ?_
      rotate_left
      · (intro w hSw; (try dsimp only at hSw); go_simp; (try with_reducible rfl))
      (try simp only [List.getElem_toArray, List.getElem_cons_succ, List.getElem_cons_zero, Act.put, List.setIfInBounds_toArray, List.set_cons_zero, List.set_cons_succ])
      refine wpAnyH_ready (rs := [9]) (by kernel_rfl) (by simp) (AllReadyH.cons (o := _) rfl (fun K hK => ?_) AllReadyH.nil)
      go_simp
      go_at_call 51
      refine (inormal_v fr).mono ?_
      rintro e vcxxxx ⟨rfl, hb⟩
      replace b0 := b0.below hb
      replace b1 := b1.below hb
      replace bx := bx.below hb
      replace b_y := b_y.below hb
      replace fa := fa.below hb
      replace fb := fb.below hb
      replace fx := fx.below hb
      replace fy := fy.below hb
      replace fr := fr.below hb
      replace H0 := H0.trans (hb.mono H0.size)
      clear hb
      go_wp2_with fail
      refine hK.out _ _ ?_ (fun hHeld => ?_)
      · exact ⟨b0.cell 0 _ rfl, b0.cell 1 _ rfl, b1.cell 0 _ rfl, b1.cell 1 _ rfl, bx.cell 0 _ rfl, bx.cell 1 _ rfl, b_y.cell 0 _ rfl, b_y.cell 1 _ rfl⟩
      clear hK K
      (try simp only [List.getElem_toArray, List.getElem_cons_succ, List.getElem_cons_zero, Act.put, List.setIfInBounds_toArray, List.set_cons_zero, List.set_cons_succ])
      refine wpAnyH_ready (rs := [11]) (by kernel_rfl) (by simp) (AllReadyH.cons (o := _) rfl (fun K hK => ?_) AllReadyH.nil)
      go_simp
      go_at_call 52
      refine (normalI_v fr).mono ?_
      rintro e vcxxxxx ⟨rfl, hb⟩
      replace b0 := b0.below hb
      replace b1 := b1.below hb
      replace bx := bx.below hb
      replace b_y := b_y.below hb
      replace fa := fa.below hb
      replace fb := fb.below hb
      replace fx := fx.below hb
      replace fy := fy.below hb
      replace fr := fr.below hb
      replace H0 := H0.trans (hb.mono H0.size)
      clear hb
      go_wp2_with fail
      refine hK.out _ _ ?_ (fun hHeld => ?_)
      · exact ⟨b0.cell 0 _ rfl, b0.cell 1 _ rfl, b1.cell 0 _ rfl, b1.cell 1 _ rfl, bx.cell 0 _ rfl, bx.cell 1 _ rfl, b_y.cell 0 _ rfl, b_y.cell 1 _ rfl⟩
      clear hK K
      (try simp only [List.getElem_toArray, List.getElem_cons_succ, List.getElem_cons_zero, Act.put, List.setIfInBounds_toArray, List.set_cons_zero, List.set_cons_succ])
      refine wpAnyH_take (i := 12) (v := ?_) rfl (by kernel_rfl) (by kernel_rfl) (by kernel_rfl) (fun _ _ _ h => h) (Or.inl ⟨by rfl, ?_⟩) (by assumption) ?_
      rotate_left
      · (intro w hSw; (try dsimp only at hSw); go_simp; (try with_reducible rfl))
      (try simp only [List.getElem_toArray, List.getElem_cons_succ, List.getElem_cons_zero, Act.put, List.setIfInBounds_toArray, List.set_cons_zero, List.set_cons_succ])
      refine wpAnyH_take (i := 13) (v := ?_) rfl (by kernel_rfl) (by kernel_rfl) (by kernel_rfl) (fun _ _ _ h => h) (Or.inl ⟨by rfl, ?_⟩) (by assumption) ?_
      rotate_left
      · (intro w hSw; (try dsimp only at hSw); go_simp; (try with_reducible rfl))
      (try simp only [List.getElem_toArray, List.getElem_cons_succ, List.getElem_cons_zero, Act.put, List.setIfInBounds_toArray, List.set_cons_zero, List.set_cons_succ])
      refine wpAnyH_take (i := 14) (v := ?_) rfl (by kernel_rfl) (by kernel_rfl) (by kernel_rfl) (fun _ _ _ h => h) (Or.inl ⟨by rfl, ?_⟩) (by assumption) ?_
      rotate_left
      · (intro w hSw; (try dsimp only at hSw); go_simp; (try with_reducible rfl))
      (try simp only [List.getElem_toArray, List.getElem_cons_succ, List.getElem_cons_zero, Act.put, List.setIfInBounds_toArray, List.set_cons_zero, List.set_cons_succ])
      refine wpAnyH_take (i := 15) (v := ?_) rfl (by kernel_rfl) (by kernel_rfl) (by kernel_rfl) (fun _ _ _ h => h) (Or.inl ⟨by rfl, ?_⟩) (by assumption) ?_
      rotate_left
      · (intro w hSw; (try dsimp only at hSw); go_simp; (try with_reducible rfl))
      (try simp only [List.getElem_toArray, List.getElem_cons_succ, List.getElem_cons_zero, Act.put, List.setIfInBounds_toArray, List.set_cons_zero, List.set_cons_succ])
      refine wpAnyH_take (i := 17) (v := ?_) rfl (by kernel_rfl) (by kernel_rfl) (by kernel_rfl) (fun _ _ _ h => h) (Or.inl ⟨by rfl, ?_⟩) (by assumption) ?_
      rotate_left
      · (intro w hSw; (try dsimp only at hSw); go_simp; (try with_reducible rfl))
      (try simp only [List.getElem_toArray, List.getElem_cons_succ, List.getElem_cons_zero, Act.put, List.setIfInBounds_toArray, List.set_cons_zero, List.set_cons_succ])
      refine wpAnyH_ready (rs := [16]) (by kernel_rfl) (by simp) (AllReadyH.cons (o := _) rfl (fun K hK => ?_) AllReadyH.nil)
      go_simp
      go_at_call 53
      refine (isign_v fa).mono ?_
      rintro e vcxxxxxx ⟨rfl, hb⟩
      replace b0 := b0.below hb
      replace b1 := b1.below hb
      replace bx := bx.below hb
      replace b_y := b_y.below hb
      replace fa := fa.below hb
      replace fb := fb.below hb
      replace fx := fx.below hb
      replace fy := fy.below hb
      replace fr := fr.below hb
      replace H0 := H0.trans (hb.mono H0.size)
      clear hb
      go_wp2_with fail
      refine hK.out _ _ ?_ (fun hHeld => ?_)
      · exact ⟨b0.cell 0 _ rfl, b0.cell 1 _ rfl, b1.cell 0 _ rfl, b1.cell 1 _ rfl, bx.cell 0 _ rfl, bx.cell 1 _ rfl, b_y.cell 0 _ rfl, b_y.cell 1 _ rfl⟩
      clear hK K
      (try simp only [List.getElem_toArray, List.getElem_cons_succ, List.getElem_cons_zero, Act.put, List.setIfInBounds_toArray, List.set_cons_zero, List.set_cons_succ])
      refine wpAnyH_ready (rs := [18]) (by kernel_rfl) (by simp) (AllReadyH.cons (o := _) rfl (fun K hK => ?_) AllReadyH.nil)
      go_simp
      go_at_call 54
      refine (nsign_v fx rfl).mono ?_
      rintro e vcxxxxxxx ⟨rfl, hb⟩
      replace b0 := b0.below hb
      replace b1 := b1.below hb
      replace bx := bx.below hb
      replace b_y := b_y.below hb
      replace fa := fa.below hb
      replace fb := fb.below hb
      replace fx := fx.below hb
      replace fy := fy.below hb
      replace fr := fr.below hb
      replace H0 := H0.trans (hb.mono H0.size)
      clear hb
      go_wp2_with fail
      refine hK.out _ _ ?_ (fun hHeld => ?_)
      · exact ⟨b0.cell 0 _ rfl, b0.cell 1 _ rfl, b1.cell 0 _ rfl, b1.cell 1 _ rfl, bx.cell 0 _ rfl, bx.cell 1 _ rfl, b_y.cell 0 _ rfl, b_y.cell 1 _ rfl⟩
      clear hK K
      (try simp only [List.getElem_toArray, List.getElem_cons_succ, List.getElem_cons_zero, Act.put, List.setIfInBounds_toArray, List.set_cons_zero, List.set_cons_succ])
      refine wpAnyH_take (i := 19) (v := ?_) rfl (by kernel_rfl) (by kernel_rfl) (by kernel_rfl) (fun _ _ _ h => h) (Or.inl ⟨by rfl, ?_⟩) (by assumption) ?_
      rotate_left
      · (intro w hSw; (try dsimp only at hSw); go_simp; (try with_reducible rfl))
      (try simp only [List.getElem_toArray, List.getElem_cons_succ, List.getElem_cons_zero, Act.put, List.setIfInBounds_toArray, List.set_cons_zero, List.set_cons_succ])
      refine wpAnyH_take (i := 20) (v := ?_) rfl (by kernel_rfl) (by kernel_rfl) (by kernel_rfl) (fun _ _ _ h => h) (Or.inl ⟨by rfl, ?_⟩) (by assumption) ?_
      rotate_left
      · (intro w hSw; (try dsimp only at hSw); go_simp; (try with_reducible rfl))
      (try simp only [List.getElem_toArray, List.getElem_cons_succ, List.getElem_cons_zero, Act.put, List.setIfInBounds_toArray, List.set_cons_zero, List.set_cons_succ])
      refine wpAnyH_take (i := 21) (v := ?_) rfl (by kernel_rfl) (by kernel_rfl) (by kernel_rfl) (fun _ _ _ h => h) (Or.inl ⟨by rfl, ?_⟩) (by assumption) ?_
      rotate_left
      · (intro w hSw; (try dsimp only at hSw); go_simp; (try with_reducible rfl))
      (try simp only [List.getElem_toArray, List.getElem_cons_succ, List.getElem_cons_zero, Act.put, List.setIfInBounds_toArray, List.set_cons_zero, List.set_cons_succ])
      refine wpAnyH_take (i := 22) (v := ?_) rfl (by kernel_rfl) (by kernel_rfl) (by kernel_rfl) (fun _ _ _ h => h) (Or.inl ⟨by rfl, ?_⟩) (by assumption) ?_
      rotate_left
      · (intro w hSw; (try dsimp only at hSw); go_simp; (try with_reducible rfl))
      (try simp only [List.getElem_toArray, List.getElem_cons_succ, List.getElem_cons_zero, Act.put, List.setIfInBounds_toArray, List.set_cons_zero, List.set_cons_succ])
      refine wpAnyH_take (i := 23) (v := ?_) rfl (by kernel_rfl) (by kernel_rfl) (by kernel_rfl) (fun _ _ _ h => h) (Or.inl ⟨by rfl, ?_⟩) (by assumption) ?_
      rotate_left
      · (intro w hSw; (try dsimp only at hSw); go_simp; (try with_reducible rfl))
      (try simp only [List.getElem_toArray, List.getElem_cons_succ, List.getElem_cons_zero, Act.put, List.setIfInBounds_toArray, List.set_cons_zero, List.set_cons_succ])
      refine wpAnyH_take (i := 25) (v := ?_) rfl (by kernel_rfl) (by kernel_rfl) (by kernel_rfl) (fun _ _ _ h => h) (Or.inl ⟨by rfl, ?_⟩) (by assumption) ?_
      rotate_left
      · (intro w hSw; (try dsimp only at hSw); go_simp; (try with_reducible rfl))
      (try simp only [List.getElem_toArray, List.getElem_cons_succ, List.getElem_cons_zero, Act.put, List.setIfInBounds_toArray, List.set_cons_zero, List.set_cons_succ])
      refine wpAnyH_take (i := 26) (v := ?_) rfl (by kernel_rfl) (by kernel_rfl) (by kernel_rfl) (fun _ _ _ h => h) (Or.inl ⟨by rfl, ?_⟩) (by assumption) ?_
      rotate_left
      · (intro w hSw; (try dsimp only at hSw); go_simp; (try with_reducible rfl))
      (try simp only [List.getElem_toArray, List.getElem_cons_succ, List.getElem_cons_zero, Act.put, List.setIfInBounds_toArray, List.set_cons_zero, List.set_cons_succ])
      refine wpAnyH_ready (rs := [24]) (by kernel_rfl) (by simp) (AllReadyH.cons (o := _) rfl (fun K hK => ?_) AllReadyH.nil)
      go_simp
      go_at_call 55
      refine (icmp_v fa fb).mono ?_
      rintro e vcxxxxxxxx ⟨rfl, hb⟩
      replace b0 := b0.below hb
      replace b1 := b1.below hb
      replace bx := bx.below hb
      replace b_y := b_y.below hb
      replace fa := fa.below hb
      replace fb := fb.below hb
      replace fx := fx.below hb
      replace fy := fy.below hb
      replace fr := fr.below hb
      replace H0 := H0.trans (hb.mono H0.size)
      clear hb
      go_wp2_with fail
      refine hK.out _ _ ?_ (fun hHeld => ?_)
      · exact ⟨b0.cell 0 _ rfl, b0.cell 1 _ rfl, b1.cell 0 _ rfl, b1.cell 1 _ rfl, bx.cell 0 _ rfl, bx.cell 1 _ rfl, b_y.cell 0 _ rfl, b_y.cell 1 _ rfl⟩
      clear hK K
      (try simp only [List.getElem_toArray, List.getElem_cons_succ, List.getElem_cons_zero, Act.put, List.setIfInBounds_toArray, List.set_cons_zero, List.set_cons_succ])
      refine wpAnyH_ready (rs := [27]) (by kernel_rfl) (by simp) (AllReadyH.cons (o := _) rfl (fun K hK => ?_) AllReadyH.nil)
      go_simp
      go_at_call 47
      refine (ncompare_v fx fy (by omega) (by omega) rfl).mono ?_
      rintro e vcxxxxxxxxx ⟨rfl, hb⟩
      replace b0 := b0.below hb
      replace b1 := b1.below hb
      replace bx := bx.below hb
      replace b_y := b_y.below hb
      replace fa := fa.below hb
      replace fb := fb.below hb
      replace fx := fx.below hb
      replace fy := fy.below hb
      replace fr := fr.below hb
      replace H0 := H0.trans (hb.mono H0.size)
      clear hb
      go_wp2_with fail
      refine hK.out _ _ ?_ (fun hHeld => ?_)
      · exact ⟨b0.cell 0 _ rfl, b0.cell 1 _ rfl, b1.cell 0 _ rfl, b1.cell 1 _ rfl, bx.cell 0 _ rfl, bx.cell 1 _ rfl, b_y.cell 0 _ rfl, b_y.cell 1 _ rfl⟩
      clear hK K
      (try simp only [List.getElem_toArray, List.getElem_cons_succ, List.getElem_cons_zero, Act.put, List.setIfInBounds_toArray, List.set_cons_zero, List.set_cons_succ])
      refine wpAnyH_take (i := 28) (v := ?_) rfl (by kernel_rfl) (by kernel_rfl) (by kernel_rfl) (fun _ _ _ h => h) (Or.inl ⟨by rfl, ?_⟩) (by assumption) ?_
      rotate_left
      · (intro w hSw; (try dsimp only at hSw); go_simp; (try with_reducible rfl))
      (try simp only [List.getElem_toArray, List.getElem_cons_succ, List.getElem_cons_zero, Act.put, List.setIfInBounds_toArray, List.set_cons_zero, List.set_cons_succ])
      refine wpAnyH_take (i := 29) (v := ?_) rfl (by kernel_rfl) (by kernel_rfl) (by kernel_rfl) (fun _ _ _ h => h) (Or.inl ⟨by rfl, ?_⟩) (by assumption) ?_
      rotate_left
      · (intro w hSw; (try dsimp only at hSw); go_simp; (try with_reducible rfl))
      (try simp only [List.getElem_toArray, List.getElem_cons_succ, List.getElem_cons_zero, Act.put, List.setIfInBounds_toArray, List.set_cons_zero, List.set_cons_succ])
      refine wpAnyH_take (i := 30) (v := ?_) rfl (by kernel_rfl) (by kernel_rfl) (by kernel_rfl) (fun _ _ _ h => h) (Or.inl ⟨by rfl, ?_⟩) (by assumption) ?_
      rotate_left
      · (intro w hSw; (try dsimp only at hSw); go_simp; (try with_reducible rfl))
      (try simp only [List.getElem_toArray, List.getElem_cons_succ, List.getElem_cons_zero, Act.put, List.setIfInBounds_toArray, List.set_cons_zero, List.set_cons_succ])
      refine wpAnyH_done (by kernel_rfl) ?_ _
      refine NoPanic.normal ?_
      go_wp2_with fail
      go_returns
      exact ⟨rfl, H0⟩
    · have q1 : decide ((0 : Int) ≤ p1) = true := decide_eq_true (by omega)
      have q2 : decide (p2 ≤ (0 : Int)) = true := decide_eq_true (by omega)
      have HI0 := Lib.hid (show -9223372036854775808 ≤ za by omega)
      have HI1 := Lib.hid (show za ≤ 9223372036854775807 by omega)
      clear c1 c2 hlo
      have a0 := b0.cell 0 _ rfl
      have a1 := b0.cell 1 _ rfl
      go_wp2_with fail
      refine (int64_in fa HI0.out HI1.out).mono ?_
      rintro e w1 ⟨rfl, hb⟩
      replace b0 := b0.below hb
      replace b1 := b1.below hb
      replace bx := bx.below hb
      replace b_y := b_y.below hb
      replace fa := fa.below hb
      replace fb := fb.below hb
      replace fx := fx.below hb
      replace fy := fy.below hb
      replace fr := fr.below hb
      replace H0 := H0.trans (hb.mono H0.size)
      clear hb
      clear a0 a1
      go_wp2_with fail
      refine (ifromint_v z hz0 hz1 _).mono ?_
      rintro e w2 ⟨t, B, k, d, rfl, fz, hb⟩
      replace b0 := b0.below hb
      replace b1 := b1.below hb
      replace bx := bx.below hb
      replace b_y := b_y.below hb
      replace fa := fa.below hb
      replace fb := fb.below hb
      replace fx := fx.below hb
      replace fy := fy.below hb
      replace fr := fr.below hb
      replace H0 := H0.trans (hb.mono H0.size)
      clear hb
      go_wp2_with fail
      refine (int64_in fz.ri hz0 hz1).mono ?_
      rintro e w3 ⟨rfl, hb⟩
      replace b0 := b0.below hb
      replace b1 := b1.below hb
      replace bx := bx.below hb
      replace b_y := b_y.below hb
      replace fa := fa.below hb
      replace fb := fb.below hb
      replace fx := fx.below hb
      replace fy := fy.below hb
      replace fr := fr.below hb
      replace H0 := H0.trans (hb.mono H0.size)
      clear hb
      clear fz
      go_wp2_with fail
      have hG := drawn_below w3
      replace b0 := b0.below hG
      replace b1 := b1.below hG
      replace bx := bx.below hG
      replace b_y := b_y.below hG
      replace fa := fa.below hG
      replace fb := fb.below hG
      replace fx := fx.below hG
      replace fy := fy.below hG
      replace fr := fr.below hG
      replace H0 := H0.trans (hG.mono H0.size)
      clear hG
      refine wp_region_noPanic ?_
      refine wp_region_held_drew (S := (fun V => V.cell? ⟨g7, 0, none⟩ = some (.bool t7) ∧ V.cell? ⟨g7, 1, none⟩ = some (.slice B7 k7 d7))) (by kernel_rfl) ?_ (fun hHeld => ?_)
      · exact ⟨bx.cell 0 _ rfl, bx.cell 1 _ rfl⟩
      generalize w3.drew = va at H0 hHeld b0 b1 bx b_y fa fb fx fy fr ⊢
      refine wpAnyH_take (i := 0) (v := ?_) rfl (by kernel_rfl) (by kernel_rfl) (by kernel_rfl) (fun _ _ _ h => h) (Or.inl ⟨by rfl, ?_⟩) (by assumption) ?_
      rotate_left
      · (intro w hSw; (try dsimp only at hSw); go_simp; (try with_reducible rfl))
      (try simp only [List.getElem_toArray, List.getElem_cons_zero, Act.put, List.setIfInBounds_toArray, List.set_cons_zero, List.set_cons_succ])
      refine wpAnyH_ready (rs := [1]) (by kernel_rfl) (by simp) (AllReadyH.cons (o := _) rfl (fun K hK => ?_) AllReadyH.nil)
      go_simp
      go_at_call 48
      refine (nint_v (-9223372036854775808) (by omega) (by omega) _).mono ?_
      rintro e vax ⟨tm, Bm, km, dm, rfl, fm, hb⟩
      replace b0 := b0.below hb
      replace b1 := b1.below hb
      replace bx := bx.below hb
      replace b_y := b_y.below hb
      replace fa := fa.below hb
      replace fb := fb.below hb
      replace fx := fx.below hb
      replace fy := fy.below hb
      replace fr := fr.below hb
      replace H0 := H0.trans (hb.mono H0.size)
      clear hb
      go_wp2_with fail
      refine hK.out _ _ ?_ (fun hHeld => ?_)
      · exact ⟨bx.cell 0 _ rfl, bx.cell 1 _ rfl⟩
      clear hK K
      (try simp only [List.getElem_toArray, List.getElem_cons_succ, List.getElem_cons_zero, Act.put, List.setIfInBounds_toArray, List.set_cons_zero, List.set_cons_succ])
      refine wpAnyH_ready (rs := [2]) (by kernel_rfl) (by simp) (AllReadyH.cons (o := _) rfl (fun K hK => ?_) AllReadyH.nil)
      go_simp
      go_at_call 47
      refine (ncompare_v fx fm (by omega) (by omega) HK1.out).mono ?_
      rintro e vaxx ⟨rfl, hb⟩
      replace b0 := b0.below hb
      replace b1 := b1.below hb
      replace bx := bx.below hb
      replace b_y := b_y.below hb
      replace fa := fa.below hb
      replace fb := fb.below hb
      replace fx := fx.below hb
      replace fy := fy.below hb
      replace fr := fr.below hb
      replace fm := fm.below hb
      replace H0 := H0.trans (hb.mono H0.size)
      clear hb
      go_wp2_with fail
      refine hK.out _ _ ?_ (fun hHeld => ?_)
      · exact ⟨bx.cell 0 _ rfl, bx.cell 1 _ rfl⟩
      clear hK K
      (try simp only [List.getElem_toArray, List.getElem_cons_succ, List.getElem_cons_zero, Act.put, List.setIfInBounds_toArray, List.set_cons_zero, List.set_cons_succ])
      clear fm
      refine wpAnyH_take (i := 3) (v := ?_) rfl (by kernel_rfl) (by kernel_rfl) (by kernel_rfl) (fun _ _ _ h => h) (Or.inl ⟨by rfl, ?_⟩) (by assumption) ?_
      rotate_left
      · (intro w hSw; (try dsimp only at hSw); go_simp; (try with_reducible rfl))
      (try simp only [List.getElem_toArray, List.getElem_cons_succ, List.getElem_cons_zero, Act.put, List.setIfInBounds_toArray, List.set_cons_zero, List.set_cons_succ])
      refine wpAnyH_take (i := 4) (v := ?_) rfl (by kernel_rfl) (by kernel_rfl) (by kernel_rfl) (fun _ _ _ h => h) (Or.inl ⟨by rfl, ?_⟩) (by assumption) ?_
      rotate_left
      · (intro w hSw; (try dsimp only at hSw); go_simp; (try with_reducible rfl))
      (try simp only [List.getElem_toArray, List.getElem_cons_succ, List.getElem_cons_zero, Act.put, List.setIfInBounds_toArray, List.set_cons_zero, List.set_cons_succ])
      refine wpAnyH_take (i := 5) (v := ?_) rfl (by kernel_rfl) (by kernel_rfl) (by kernel_rfl) (fun _ _ _ h => h) (Or.inl ⟨by rfl, ?_⟩) (by assumption) ?_
      rotate_left
      · (intro w hSw; (try dsimp only at hSw); go_simp; (try with_reducible rfl))
      (try simp only [List.getElem_toArray, List.getElem_cons_succ, List.getElem_cons_zero, Act.put, List.setIfInBounds_toArray, List.set_cons_zero, List.set_cons_succ])
      refine wpAnyH_ready (rs := [6]) (by kernel_rfl) (by simp) (AllReadyH.cons (o := _) rfl (fun K hK => ?_) AllReadyH.nil)
      go_simp
      go_at_call 48
      refine (nint_v 9223372036854775807 (by omega) (by omega) _).mono ?_
      rintro e vaxxx ⟨tm, Bm, km, dm, rfl, fm, hb⟩
      replace b0 := b0.below hb
      replace b1 := b1.below hb
      replace bx := bx.below hb
      replace b_y := b_y.below hb
      replace fa := fa.below hb
      replace fb := fb.below hb
      replace fx := fx.below hb
      replace fy := fy.below hb
      replace fr := fr.below hb
      replace H0 := H0.trans (hb.mono H0.size)
      clear hb
      go_wp2_with fail
      refine hK.out _ _ ?_ (fun hHeld => ?_)
      · exact ⟨bx.cell 0 _ rfl, bx.cell 1 _ rfl⟩
      clear hK K
      (try simp only [List.getElem_toArray, List.getElem_cons_succ, List.getElem_cons_zero, Act.put, List.setIfInBounds_toArray, List.set_cons_zero, List.set_cons_succ])
      refine wpAnyH_ready (rs := [7]) (by kernel_rfl) (by simp) (AllReadyH.cons (o := _) rfl (fun K hK => ?_) AllReadyH.nil)
      go_simp
      go_at_call 47
      refine (ncompare_v fx fm (by omega) (by omega) HK2.out).mono ?_
      rintro e vaxxxx ⟨rfl, hb⟩
      replace b0 := b0.below hb
      replace b1 := b1.below hb
      replace bx := bx.below hb
      replace b_y := b_y.below hb
      replace fa := fa.below hb
      replace fb := fb.below hb
      replace fx := fx.below hb
      replace fy := fy.below hb
      replace fr := fr.below hb
      replace fm := fm.below hb
      replace H0 := H0.trans (hb.mono H0.size)
      clear hb
      go_wp2_with fail
      refine hK.out _ _ ?_ (fun hHeld => ?_)
      · exact ⟨bx.cell 0 _ rfl, bx.cell 1 _ rfl⟩
      clear hK K
      (try simp only [List.getElem_toArray, List.getElem_cons_succ, List.getElem_cons_zero, Act.put, List.setIfInBounds_toArray, List.set_cons_zero, List.set_cons_succ])
      clear fm
      refine wpAnyH_take (i := 8) (v := ?_) rfl (by kernel_rfl) (by kernel_rfl) (by kernel_rfl) (fun _ _ _ h => h) (Or.inl ⟨by rfl, ?_⟩) (by assumption) ?_
      rotate_left
      · (intro w hSw; (try dsimp only at hSw); go_simp; (try with_reducible rfl))
      (try simp only [List.getElem_toArray, List.getElem_cons_succ, List.getElem_cons_zero, Act.put, List.setIfInBounds_toArray, List.set_cons_zero, List.set_cons_succ])
      refine wpAnyH_take (i := 9) (v := ?_) rfl (by kernel_rfl) (by kernel_rfl) (by kernel_rfl) (fun _ _ _ h => h) (Or.inl ⟨by rfl, ?_⟩) (by assumption) ?_
      rotate_left
      · (intro w hSw; (try dsimp only at hSw); go_simp; (try with_reducible rfl))
      (try simp only [List.getElem_toArray, List.getElem_cons_succ, List.getElem_cons_zero, Act.put, List.setIfInBounds_toArray, List.set_cons_zero, List.set_cons_succ])
      refine wpAnyH_take (i := 10) (v := ?_) rfl (by kernel_rfl) (by kernel_rfl) (by kernel_rfl) (fun _ _ _ h => h) (Or.inl ⟨by rfl, ?_⟩) (by assumption) ?_
      rotate_left
      · (intro w hSw; (try dsimp only at hSw); go_simp; (try with_reducible rfl))
      (try simp only [List.getElem_toArray, List.getElem_cons_succ, List.getElem_cons_zero, Act.put, List.setIfInBounds_toArray, List.set_cons_zero, List.set_cons_succ])
      refine wpAnyH_done (by kernel_rfl) ?_ _
      refine NoPanic.normal ?_
      go_wp2_with fail
      have hG := drawn_below vaxxxx
      replace b0 := b0.below hG
      replace b1 := b1.below hG
      replace bx := bx.below hG
      replace b_y := b_y.below hG
      replace fa := fa.below hG
      replace fb := fb.below hG
      replace fx := fx.below hG
      replace fy := fy.below hG
      replace fr := fr.below hG
      replace H0 := H0.trans (hG.mono H0.size)
      clear hG
      refine wp_region_noPanic ?_
      refine wp_region_held_drew (S := (fun V => V.cell? ⟨g7, 0, none⟩ = some (.bool t7) ∧ V.cell? ⟨g7, 1, none⟩ = some (.slice B7 k7 d7))) (by kernel_rfl) ?_ (fun hHeld => ?_)
      · exact ⟨bx.cell 0 _ rfl, bx.cell 1 _ rfl⟩
      generalize vaxxxx.drew = vb at H0 hHeld b0 b1 bx b_y fa fb fx fy fr ⊢
      refine wpAnyH_take (i := 0) (v := ?_) rfl (by kernel_rfl) (by kernel_rfl) (by kernel_rfl) (fun _ _ _ h => h) (Or.inl ⟨by rfl, ?_⟩) (by assumption) ?_
      rotate_left
      · (intro w hSw; (try dsimp only at hSw); go_simp; (try with_reducible rfl))
      (try simp only [List.getElem_toArray, List.getElem_cons_zero, Act.put, List.setIfInBounds_toArray, List.set_cons_zero, List.set_cons_succ])
      refine wpAnyH_take (i := 1) (v := ?_) rfl (by kernel_rfl) (by kernel_rfl) (by kernel_rfl) (fun _ _ _ h => h) (Or.inl ⟨by rfl, ?_⟩) (by assumption) ?_
      rotate_left
      · (intro w hSw; (try dsimp only at hSw); go_simp; (try with_reducible rfl))
      (try simp only [List.getElem_toArray, List.getElem_cons_succ, List.getElem_cons_zero, Act.put, List.setIfInBounds_toArray, List.set_cons_zero, List.set_cons_succ])
      refine wpAnyH_take (i := 2) (v := ?_) rfl (by kernel_rfl) (by kernel_rfl) (by kernel_rfl) (fun _ _ _ h => h) (Or.inl ⟨by rfl, ?_⟩) (by assumption) ?_
      rotate_left
      · (intro w hSw; (try dsimp only at hSw); go_simp; (try with_reducible rfl))
      (try simp only [List.getElem_toArray, List.getElem_cons_succ, List.getElem_cons_zero, Act.put, List.setIfInBounds_toArray, List.set_cons_zero, List.set_cons_succ])
      refine wpAnyH_take (i := 3) (v := ?_) rfl (by kernel_rfl) (by kernel_rfl) (by kernel_rfl) (fun _ _ _ h => h) (Or.inl ⟨by rfl, ?_⟩) (by assumption) ?_
      rotate_left
      · (intro w hSw; (try dsimp only at hSw); go_simp; (try with_reducible rfl))
      (try simp only [List.getElem_toArray, List.getElem_cons_succ, List.getElem_cons_zero, Act.put, List.setIfInBounds_toArray, List.set_cons_zero, List.set_cons_succ])
      refine wpAnyH_take (i := 4) (v := ?_) rfl (by kernel_rfl) (by kernel_rfl) (by kernel_rfl) (fun _ _ _ h => h) (Or.inl ⟨by rfl, ?_⟩) (by assumption) ?_
      rotate_left
      · (intro w hSw; (try dsimp only at hSw); go_simp; (try with_reducible rfl))
      (try simp only [List.getElem_toArray, List.getElem_cons_succ, List.getElem_cons_zero, Act.put, List.setIfInBounds_toArray, List.set_cons_zero, List.set_cons_succ])
      refine wpAnyH_take (i := 5) (v := ?_) rfl (by kernel_rfl) (by kernel_rfl) (by kernel_rfl) (fun _ _ _ h => h) (Or.inl ⟨by rfl, ?_⟩) (by assumption) ?_
      rotate_left
      · (intro w hSw; (try dsimp only at hSw); go_simp; (try with_reducible rfl))
      (try simp only [List.getElem_toArray, List.getElem_cons_succ, List.getElem_cons_zero, Act.put, List.setIfInBounds_toArray, List.set_cons_zero, List.set_cons_succ])
      refine wpAnyH_take (i := 6) (v := ?_) rfl (by kernel_rfl) (by kernel_rfl) (by kernel_rfl) (fun _ _ _ h => h) (Or.inl ⟨by rfl, ?_⟩) (by assumption) ?_
      rotate_left
      · (intro w hSw; (try dsimp only at hSw); go_simp; (try with_reducible rfl))
      (try simp only [List.getElem_toArray, List.getElem_cons_succ, List.getElem_cons_zero, Act.put, List.setIfInBounds_toArray, List.set_cons_zero, List.set_cons_succ])
      refine wpAnyH_take (i := 8) (v := ?_) rfl (by kernel_rfl) (by kernel_rfl) (by kernel_rfl) (fun _ _ _ h => h) (Or.inl ⟨by rfl, ?_⟩) (by assumption) ?_
      rotate_left
      · (intro w hSw; (try dsimp only at hSw); go_simp; (try with_reducible rfl))
      (try simp only [List.getElem_toArray, List.getElem_cons_succ, List.getElem_cons_zero, Act.put, List.setIfInBounds_toArray, List.set_cons_zero, List.set_cons_succ])
      refine wpAnyH_ready (rs := [7]) (by kernel_rfl) (by simp) (AllReadyH.cons (o := _) rfl (fun K hK => ?_) AllReadyH.nil)
      go_simp
      go_at_call 46
      refine (ifromint_v za HI0.out HI1.out _).mono ?_
      rintro e vbx ⟨tm, Bm, km, dm, rfl, fm, hb⟩
      replace b0 := b0.below hb
      replace b1 := b1.below hb
      replace bx := bx.below hb
      replace b_y := b_y.below hb
      replace fa := fa.below hb
      replace fb := fb.below hb
      replace fx := fx.below hb
      replace fy := fy.below hb
      replace fr := fr.below hb
      replace H0 := H0.trans (hb.mono H0.size)
      clear hb
      go_wp2_with fail
      refine hK.out _ _ ?_ (fun hHeld => ?_)
      · exact ⟨bx.cell 0 _ rfl, bx.cell 1 _ rfl⟩
      clear hK K
      (try simp only [List.getElem_toArray, List.getElem_cons_succ, List.getElem_cons_zero, Act.put, List.setIfInBounds_toArray, List.set_cons_zero, List.set_cons_succ])
      refine wpAnyH_ready (rs := [9]) (by kernel_rfl) (by simp) (AllReadyH.cons (o := _) rfl (fun K hK => ?_) AllReadyH.nil)
      go_simp
      go_at_call 49
      refine (same2_v fm fx rfl (by omega)).mono ?_
      rintro e vbxx ⟨rfl, hb⟩
      replace b0 := b0.below hb
      replace b1 := b1.below hb
      replace bx := bx.below hb
      replace b_y := b_y.below hb
      replace fa := fa.below hb
      replace fb := fb.below hb
      replace fx := fx.below hb
      replace fy := fy.below hb
      replace fr := fr.below hb
      replace fm := fm.below hb
      replace H0 := H0.trans (hb.mono H0.size)
      clear hb
      go_wp2_with fail
      refine hK.out _ _ ?_ (fun hHeld => ?_)
      · exact ⟨bx.cell 0 _ rfl, bx.cell 1 _ rfl⟩
      clear hK K
      (try simp only [List.getElem_toArray, List.getElem_cons_succ, List.getElem_cons_zero, Act.put, List.setIfInBounds_toArray, List.set_cons_zero, List.set_cons_succ])
      clear fm
      refine wpAnyH_take (i := 10) (v := ?_) rfl (by kernel_rfl) (by kernel_rfl) (by kernel_rfl) (fun _ _ _ h => h) (Or.inl ⟨by rfl, ?_⟩) (by assumption) ?_
      rotate_left
      · (intro w hSw; (try dsimp only at hSw); go_simp; (try with_reducible rfl))
      (try simp only [List.getElem_toArray, List.getElem_cons_succ, List.getElem_cons_zero, Act.put, List.setIfInBounds_toArray, List.set_cons_zero, List.set_cons_succ])
      refine wpAnyH_take (i := 11) (v := ?_) rfl (by kernel_rfl) (by kernel_rfl) (by kernel_rfl) (fun _ _ _ h => h) (Or.inl ⟨by rfl, ?_⟩) (by assumption) ?_
      rotate_left
      · (intro w hSw; (try dsimp only at hSw); go_simp; (try with_reducible rfl))
      (try simp only [List.getElem_toArray, List.getElem_cons_succ, List.getElem_cons_zero, Act.put, List.setIfInBounds_toArray, List.set_cons_zero, List.set_cons_succ])
      refine wpAnyH_take (i := 12) (v := ?_) rfl (by kernel_rfl) (by kernel_rfl) (by kernel_rfl) (fun _ _ _ h => h) (Or.inl ⟨by rfl, ?_⟩) (by assumption) ?_
      rotate_left
      · (intro w hSw; (try dsimp only at hSw); go_simp; (try with_reducible rfl))
      (try simp only [List.getElem_toArray, List.getElem_cons_succ, List.getElem_cons_zero, Act.put, List.setIfInBounds_toArray, List.set_cons_zero, List.set_cons_succ])
      refine wpAnyH_take (i := 13) (v := ?_) rfl (by kernel_rfl) (by kernel_rfl) (by kernel_rfl) (fun _ _ _ h => h) (Or.inl ⟨by rfl, ?_⟩) (by assumption) ?_
      rotate_left
      · (intro w hSw; (try dsimp only at hSw); go_simp; (try with_reducible rfl))
      (try simp only [List.getElem_toArray, List.getElem_cons_succ, List.getElem_cons_zero, Act.put, List.setIfInBounds_toArray, List.set_cons_zero, List.set_cons_succ])
      refine wpAnyH_take (i := 14) (v := ?_) rfl (by kernel_rfl) (by kernel_rfl) (by kernel_rfl) (fun _ _ _ h => h) (Or.inl ⟨by rfl, ?_⟩) (by assumption) ?_
      rotate_left
      · (intro w hSw; (try dsimp only at hSw); go_simp; (try with_reducible rfl))
      (try simp only [List.getElem_toArray, List.getElem_cons_succ, List.getElem_cons_zero, Act.put, List.setIfInBounds_toArray, List.set_cons_zero, List.set_cons_succ])
      refine wpAnyH_take (i := 15) (v := ?_) rfl (by kernel_rfl) (by kernel_rfl) (by kernel_rfl) (fun _ _ _ h => h) (Or.inl ⟨by rfl, ?_⟩) (by assumption) ?_
      rotate_left
      · (intro w hSw; (try dsimp only at hSw); go_simp; (try with_reducible rfl))
      (try simp only [List.getElem_toArray, List.getElem_cons_succ, List.getElem_cons_zero, Act.put, List.setIfInBounds_toArray, List.set_cons_zero, List.set_cons_succ])
      refine wpAnyH_take (i := 16) (v := ?_) rfl (by kernel_rfl) (by kernel_rfl) (by kernel_rfl) (fun _ _ _ h => h) (Or.inl ⟨by rfl, ?_⟩) (by assumption) ?_
      rotate_left
      · (intro w hSw; (try dsimp only at hSw); go_simp; (try with_reducible rfl))
      (try simp only [List.getElem_toArray, List.getElem_cons_succ, List.getElem_cons_zero, Act.put, List.setIfInBounds_toArray, List.set_cons_zero, List.set_cons_succ])
      refine wpAnyH_take (i := 17) (v := undef) rfl (by kernel_rfl) (by kernel_rfl) (by kernel_rfl) (fun _ _ _ h => h) (Or.inr ⟨by rfl, rfl⟩) (by assumption) ?_
      (try simp only [List.getElem_toArray, List.getElem_cons_succ, List.getElem_cons_zero, Act.put, List.setIfInBounds_toArray, List.set_cons_zero, List.set_cons_succ])
      refine wpAnyH_take (i := 18) (v := undef) rfl (by kernel_rfl) (by kernel_rfl) (by kernel_rfl) (fun _ _ _ h => h) (Or.inr ⟨by rfl, rfl⟩) (by assumption) ?_
      (try simp only [List.getElem_toArray, List.getElem_cons_succ, List.getElem_cons_zero, Act.put, List.setIfInBounds_toArray, List.set_cons_zero, List.set_cons_succ])
      refine wpAnyH_take (i := 19) (v := ?_) rfl (by kernel_rfl) (by kernel_rfl) (by kernel_rfl) (fun _ _ _ h => h) (Or.inl ⟨by rfl, ?_⟩) (by assumption) ?_
      rotate_left
      · (intro w hSw; (try dsimp only at hSw); go_simp; (try with_reducible rfl))
      (try simp only [List.getElem_toArray, List.getElem_cons_succ, List.getElem_cons_zero, Act.put, List.setIfInBounds_toArray, List.set_cons_zero, List.set_cons_succ])
      refine wpAnyH_take (i := 20) (v := ?_) rfl (by kernel_rfl) (by kernel_rfl) (by kernel_rfl) (fun _ _ _ h => h) (Or.inl ⟨by rfl, ?_⟩) (by assumption) ?_
      rotate_left
      · (intro w hSw; (try dsimp only at hSw); go_simp; (try with_reducible rfl))
      (try simp only [List.getElem_toArray, List.getElem_cons_succ, List.getElem_cons_zero, Act.put, List.setIfInBounds_toArray, List.set_cons_zero, List.set_cons_succ])
      refine wpAnyH_take (i := 21) (v := ?_) rfl (by kernel_rfl) (by kernel_rfl) (by kernel_rfl) (fun _ _ _ h => h) (Or.inl ⟨by rfl, ?_⟩) (by assumption) ?_
      rotate_left
      · (intro w hSw; (try dsimp only at hSw); go_simp; (try with_reducible rfl))
      (try simp only [List.getElem_toArray, List.getElem_cons_succ, List.getElem_cons_zero, Act.put, List.setIfInBounds_toArray, List.set_cons_zero, List.set_cons_succ])
      refine wpAnyH_take (i := 22) (v := ?_) rfl (by kernel_rfl) (by kernel_rfl) (by kernel_rfl) (fun _ _ _ h => h) (Or.inl ⟨by rfl, ?_⟩) (by assumption) ?_
      rotate_left
      · (intro w hSw; (try dsimp only at hSw); go_simp; (try with_reducible rfl))
      (try simp only [List.getElem_toArray, List.getElem_cons_succ, List.getElem_cons_zero, Act.put, List.setIfInBounds_toArray, List.set_cons_zero, List.set_cons_succ])
      refine wpAnyH_take (i := 23) (v := ?_) rfl (by kernel_rfl) (by kernel_rfl) (by kernel_rfl) (fun _ _ _ h => h) (Or.inl ⟨by rfl, ?_⟩) (by assumption) ?_
      rotate_left
      · (intro w hSw; (try dsimp only at hSw); go_simp; (try with_reducible rfl))
      (try simp only [List.getElem_toArray, List.getElem_cons_succ, List.getElem_cons_zero, Act.put, List.setIfInBounds_toArray, List.set_cons_zero, List.set_cons_succ])
      refine wpAnyH_take (i := 24) (v := ?_) rfl (by kernel_rfl) (by kernel_rfl) (by kernel_rfl) (fun _ _ _ h => h) (Or.inl ⟨by rfl, ?_⟩) (by assumption) ?_
      rotate_left
      · (intro w hSw; (try dsimp only at hSw); go_simp; (try with_reducible rfl))
      (try simp only [List.getElem_toArray, List.getElem_cons_succ, List.getElem_cons_zero, Act.put, List.setIfInBounds_toArray, List.set_cons_zero, List.set_cons_succ])
      refine wpAnyH_take (i := 25) (v := ?_) rfl (by kernel_rfl) (by kernel_rfl) (by kernel_rfl) (fun _ _ _ h => h) (Or.inl ⟨by rfl, ?_⟩) (by assumption) ?_
      rotate_left
      · (intro w hSw; (try dsimp only at hSw); go_simp; (try with_reducible rfl))
      (try simp only [List.getElem_toArray, List.getElem_cons_succ, List.getElem_cons_zero, Act.put, List.setIfInBounds_toArray, List.set_cons_zero, List.set_cons_succ])
      refine wpAnyH_take (i := 26) (v := ?_) rfl (by kernel_rfl) (by kernel_rfl) (by kernel_rfl) (fun _ _ _ h => h) (Or.inl ⟨by rfl, ?_⟩) (by assumption) ?_
      rotate_left
      · (intro w hSw; (try dsimp only at hSw); go_simp; (try with_reducible rfl))
      (try simp only [List.getElem_toArray, List.getElem_cons_succ, List.getElem_cons_zero, Act.put, List.setIfInBounds_toArray, List.set_cons_zero, List.set_cons_succ])
      refine wpAnyH_take (i := 27) (v := ?_) rfl (by kernel_rfl) (by kernel_rfl) (by kernel_rfl) (fun _ _ _ h => h) (Or.inl ⟨by rfl, ?_⟩) (by assumption) ?_
      rotate_left
      · (intro w hSw; (try dsimp only at hSw); go_simp; (try with_reducible rfl))
      (try simp only [List.getElem_toArray, List.getElem_cons_succ, List.getElem_cons_zero, Act.put, List.setIfInBounds_toArray, List.set_cons_zero, List.set_cons_succ])
      refine wpAnyH_take (i := 28) (v := ?_) rfl (by kernel_rfl) (by kernel_rfl) (by kernel_rfl) (fun _ _ _ h => h) (Or.inl ⟨by rfl, ?_⟩) (by assumption) ?_
      rotate_left
      · (intro w hSw; (try dsimp only at hSw); go_simp; (try with_reducible rfl))
      (try simp only [List.getElem_toArray, List.getElem_cons_succ, List.getElem_cons_zero, Act.put, List.setIfInBounds_toArray, List.set_cons_zero, List.set_cons_succ])
      refine wpAnyH_take (i := 29) (v := ?_) rfl (by kernel_rfl) (by kernel_rfl) (by kernel_rfl) (fun _ _ _ h => h) (Or.inl ⟨by rfl, ?_⟩) (by assumption) ?_
      rotate_left
      · (intro w hSw; (try dsimp only at hSw); go_simp; (try with_reducible rfl))
      (try simp only [List.getElem_toArray, List.getElem_cons_succ, List.getElem_cons_zero, Act.put, List.setIfInBounds_toArray, List.set_cons_zero, List.set_cons_succ])
      refine wpAnyH_take (i := 30) (v := ?_) rfl (by kernel_rfl) (by kernel_rfl) (by kernel_rfl) (fun _ _ _ h => h) (Or.inl ⟨by rfl, ?_⟩) (by assumption) ?_
      rotate_left
      · (intro w hSw; (try dsimp only at hSw); go_simp; (try with_reducible rfl))
      (try simp only [List.getElem_toArray, List.getElem_cons_succ, List.getElem_cons_zero, Act.put, List.setIfInBounds_toArray, List.set_cons_zero, List.set_cons_succ])
      refine wpAnyH_take (i := 31) (v := ?_) rfl (by kernel_rfl) (by kernel_rfl) (by kernel_rfl) (fun _ _ _ h => h) (Or.inl ⟨by rfl, ?_⟩) (by assumption) ?_
      rotate_left
      · (intro w hSw; (try dsimp only at hSw); go_simp; (try with_reducible rfl))
      (try simp only [List.getElem_toArray, List.getElem_cons_succ, List.getElem_cons_zero, Act.put, List.setIfInBounds_toArray, List.set_cons_zero, List.set_cons_succ])
      refine wpAnyH_take (i := 33) (v := ?_) rfl (by kernel_rfl) (by kernel_rfl) (by kernel_rfl) (fun _ _ _ h => h) (Or.inl ⟨by rfl, ?_⟩) (by assumption) ?_
      rotate_left
      · (intro w hSw; (try dsimp only at hSw); go_simp; (try with_reducible rfl))
      (try simp only [List.getElem_toArray, List.getElem_cons_succ, List.getElem_cons_zero, Act.put, List.setIfInBounds_toArray, List.set_cons_zero, List.set_cons_succ])
      refine wpAnyH_ready (rs := [32]) (by kernel_rfl) (by simp) (AllReadyH.cons (o := _) rfl (fun K hK => ?_) AllReadyH.nil)
      go_simp
      go_at_call 46
      refine (ifromint_v z hz0 hz1 _).mono ?_
      rintro e vbxxx ⟨tm, Bm, km, dm, rfl, fm, hb⟩
      replace b0 := b0.below hb
      replace b1 := b1.below hb
      replace bx := bx.below hb
      replace b_y := b_y.below hb
      replace fa := fa.below hb
      replace fb := fb.below hb
      replace fx := fx.below hb
      replace fy := fy.below hb
      replace fr := fr.below hb
      replace H0 := H0.trans (hb.mono H0.size)
      clear hb
      go_wp2_with fail
      refine hK.out _ _ ?_ (fun hHeld => ?_)
      · exact ⟨bx.cell 0 _ rfl, bx.cell 1 _ rfl⟩
      clear hK K
      (try simp only [List.getElem_toArray, List.getElem_cons_succ, List.getElem_cons_zero, Act.put, List.setIfInBounds_toArray, List.set_cons_zero, List.set_cons_succ])
      refine wpAnyH_ready (rs := [34]) (by kernel_rfl) (by simp) (AllReadyH.cons (o := _) rfl (fun K hK => ?_) AllReadyH.nil)
      go_simp
      go_at_call 48
      refine (nint_v z hz0 hz1 _).mono ?_
      rintro e vbxxxx ⟨tn, Bn, kn, dn, rfl, fn, hb⟩
      replace b0 := b0.below hb
      replace b1 := b1.below hb
      replace bx := bx.below hb
      replace b_y := b_y.below hb
      replace fa := fa.below hb
      replace fb := fb.below hb
      replace fx := fx.below hb
      replace fy := fy.below hb
      replace fr := fr.below hb
      replace fm := fm.below hb
      replace H0 := H0.trans (hb.mono H0.size)
      clear hb
      go_wp2_with fail
      refine hK.out _ _ ?_ (fun hHeld => ?_)
      · exact ⟨bx.cell 0 _ rfl, bx.cell 1 _ rfl⟩
      clear hK K
      (try simp only [List.getElem_toArray, List.getElem_cons_succ, List.getElem_cons_zero, Act.put, List.setIfInBounds_toArray, List.set_cons_zero, List.set_cons_succ])
      refine wpAnyH_ready (rs := [35]) (by kernel_rfl) (by simp) (AllReadyH.cons (o := _) rfl (fun K hK => ?_) AllReadyH.nil)
      go_simp
      go_at_call 49
      refine (same2_v fm fn rfl (by omega)).mono ?_
      rintro e vbxxxxx ⟨rfl, hb⟩
      replace b0 := b0.below hb
      replace b1 := b1.below hb
      replace bx := bx.below hb
      replace b_y := b_y.below hb
      replace fa := fa.below hb
      replace fb := fb.below hb
      replace fx := fx.below hb
      replace fy := fy.below hb
      replace fr := fr.below hb
      replace fm := fm.below hb
      replace fn := fn.below hb
      replace H0 := H0.trans (hb.mono H0.size)
      clear hb
      go_wp2_with fail
      refine hK.out _ _ ?_ (fun hHeld => ?_)
      · exact ⟨bx.cell 0 _ rfl, bx.cell 1 _ rfl⟩
      clear hK K
      (try simp only [List.getElem_toArray, List.getElem_cons_succ, List.getElem_cons_zero, Act.put, List.setIfInBounds_toArray, List.set_cons_zero, List.set_cons_succ])
      clear fm fn
      refine wpAnyH_take (i := 36) (v := ?_) rfl (by kernel_rfl) (by kernel_rfl) (by kernel_rfl) (fun _ _ _ h => h) (Or.inl ⟨by rfl, ?_⟩) (by assumption) ?_
      rotate_left
      · (intro w hSw; (try dsimp only at hSw); go_simp; (try with_reducible rfl))
      (try simp only [List.getElem_toArray, List.getElem_cons_succ, List.getElem_cons_zero, Act.put, List.setIfInBounds_toArray, List.set_cons_zero, List.set_cons_succ])
      refine wpAnyH_take (i := 37) (v := ?_) rfl (by kernel_rfl) (by kernel_rfl) (by kernel_rfl) (fun _ _ _ h => h) (Or.inl ⟨by rfl, ?_⟩) (by assumption) ?_
      rotate_left
      · (intro w hSw; (try dsimp only at hSw); go_simp; (try with_reducible rfl))
      (try simp only [List.getElem_toArray, List.getElem_cons_succ, List.getElem_cons_zero, Act.put, List.setIfInBounds_toArray, List.set_cons_zero, List.set_cons_succ])
      refine wpAnyH_done (by kernel_rfl) ?_ _
      refine NoPanic.normal ?_
      go_wp2_with fail
      have hG := drawn_below vbxxxxx
      replace b0 := b0.below hG
      replace b1 := b1.below hG
      replace bx := bx.below hG
      replace b_y := b_y.below hG
      replace fa := fa.below hG
      replace fb := fb.below hG
      replace fx := fx.below hG
      replace fy := fy.below hG
      replace fr := fr.below hG
      replace H0 := H0.trans (hG.mono H0.size)
      clear hG
      refine wp_region_noPanic ?_
      refine wp_region_held_drew (S := (fun V => V.cell? ⟨w.heap.size, 0, none⟩ = some (.bool s) ∧ V.cell? ⟨w.heap.size, 1, none⟩ = some (.slice A n c) ∧ V.cell? ⟨w.heap.size + 1, 0, none⟩ = some (.bool s') ∧ V.cell? ⟨w.heap.size + 1, 1, none⟩ = some (.slice A' n' c') ∧ V.cell? ⟨g7, 0, none⟩ = some (.bool t7) ∧ V.cell? ⟨g7, 1, none⟩ = some (.slice B7 k7 d7) ∧ V.cell? ⟨g8, 0, none⟩ = some (.bool t8) ∧ V.cell? ⟨g8, 1, none⟩ = some (.slice B8 k8 d8))) (by kernel_rfl) ?_ (fun hHeld => ?_)
      · exact ⟨b0.cell 0 _ rfl, b0.cell 1 _ rfl, b1.cell 0 _ rfl, b1.cell 1 _ rfl, bx.cell 0 _ rfl, bx.cell 1 _ rfl, b_y.cell 0 _ rfl, b_y.cell 1 _ rfl⟩
      generalize vbxxxxx.drew = vc at H0 hHeld b0 b1 bx b_y fa fb fx fy fr ⊢
      refine wpAnyH_ready (rs := [0]) (by kernel_rfl) (by simp) (AllReadyH.cons (o := _) rfl (fun K hK => ?_) AllReadyH.nil)
      go_simp
      go_at_call 43
      refine (known2_any _).mono ?_
      rintro e vcx ⟨rfl, hb⟩
      replace b0 := b0.below hb
      replace b1 := b1.below hb
      replace bx := bx.below hb
      replace b_y := b_y.below hb
      replace fa := fa.below hb
      replace fb := fb.below hb
      replace fx := fx.below hb
      replace fy := fy.below hb
      replace fr := fr.below hb
      replace H0 := H0.trans (hb.mono H0.size)
      clear hb
      go_wp2_with fail
      refine hK.out _ _ ?_ (fun hHeld => ?_)
      · exact ⟨b0.cell 0 _ rfl, b0.cell 1 _ rfl, b1.cell 0 _ rfl, b1.cell 1 _ rfl, bx.cell 0 _ rfl, bx.cell 1 _ rfl, b_y.cell 0 _ rfl, b_y.cell 1 _ rfl⟩
      clear hK K
      (try simp only [List.getElem_toArray, List.getElem_cons_zero, Act.put, List.setIfInBounds_toArray, List.set_cons_zero, List.set_cons_succ])
      refine wpAnyH_take (i := 1) (v := ?_) rfl (by kernel_rfl) (by kernel_rfl) (by kernel_rfl) (fun _ _ _ h => h) (Or.inl ⟨by rfl, ?_⟩) (by assumption) ?_
      rotate_left
      · (intro w hSw; (try dsimp only at hSw); go_simp; (try with_reducible rfl))
      (try simp only [List.getElem_toArray, List.getElem_cons_succ, List.getElem_cons_zero, Act.put, List.setIfInBounds_toArray, List.set_cons_zero, List.set_cons_succ])
      refine wpAnyH_take (i := 2) (v := ?_) rfl (by kernel_rfl) (by kernel_rfl) (by kernel_rfl) (fun _ _ _ h => h) (Or.inl ⟨by rfl, ?_⟩) (by assumption) ?_
      rotate_left
      · (intro w hSw; (try dsimp only at hSw); go_simp; (try with_reducible rfl))
      (try simp only [List.getElem_toArray, List.getElem_cons_succ, List.getElem_cons_zero, Act.put, List.setIfInBounds_toArray, List.set_cons_zero, List.set_cons_succ])
      refine wpAnyH_take (i := 4) (v := ?_) rfl (by kernel_rfl) (by kernel_rfl) (by kernel_rfl) (fun _ _ _ h => h) (Or.inl ⟨by rfl, ?_⟩) (by assumption) ?_
      rotate_left
      · (intro w hSw; (try dsimp only at hSw); go_simp; (try with_reducible rfl))
      (try simp only [List.getElem_toArray, List.getElem_cons_succ, List.getElem_cons_zero, Act.put, List.setIfInBounds_toArray, List.set_cons_zero, List.set_cons_succ])
      refine wpAnyH_ready (rs := [3]) (by kernel_rfl) (by simp) (AllReadyH.cons (o := _) rfl (fun K hK => ?_) AllReadyH.nil)
      go_simp
      go_at_call 50
      refine (inorm_v fa (by omega)).mono ?_
      rintro e vcxx ⟨tm, Bm, km, dm, rfl, fm, hb⟩
      replace b0 := b0.below hb
      replace b1 := b1.below hb
      replace bx := bx.below hb
      replace b_y := b_y.below hb
      replace fa := fa.below hb
      replace fb := fb.below hb
      replace fx := fx.below hb
      replace fy := fy.below hb
      replace fr := fr.below hb
      replace H0 := H0.trans (hb.mono H0.size)
      clear hb
      go_wp2_with fail
      refine hK.out _ _ ?_ (fun hHeld => ?_)
      · exact ⟨b0.cell 0 _ rfl, b0.cell 1 _ rfl, b1.cell 0 _ rfl, b1.cell 1 _ rfl, bx.cell 0 _ rfl, bx.cell 1 _ rfl, b_y.cell 0 _ rfl, b_y.cell 1 _ rfl⟩
      clear hK K
      (try simp only [List.getElem_toArray, List.getElem_cons_succ, List.getElem_cons_zero, Act.put, List.setIfInBounds_toArray, List.set_cons_zero, List.set_cons_succ])
      refine wpAnyH_ready (rs := [5]) (by kernel_rfl) (by simp) (AllReadyH.cons (o := _) rfl (fun K hK => ?_) AllReadyH.nil)
      go_simp
      go_at_call 49
      refine (same2_v fm fx rfl (by omega)).mono ?_
      rintro e vcxxx ⟨rfl, hb⟩
      replace b0 := b0.below hb
      replace b1 := b1.below hb
      replace bx := bx.below hb
      replace b_y := b_y.below hb
      replace fa := fa.below hb
      replace fb := fb.below hb
      replace fx := fx.below hb
      replace fy := fy.below hb
      replace fr := fr.below hb
      replace fm := fm.below hb
      replace H0 := H0.trans (hb.mono H0.size)
      clear hb
      go_wp2_with fail
      refine hK.out _ _ ?_ (fun hHeld => ?_)
      · exact ⟨b0.cell 0 _ rfl, b0.cell 1 _ rfl, b1.cell 0 _ rfl, b1.cell 1 _ rfl, bx.cell 0 _ rfl, bx.cell 1 _ rfl, b_y.cell 0 _ rfl, b_y.cell 1 _ rfl⟩
      clear hK K
      (try simp only [List.getElem_toArray, List.getElem_cons_succ, List.getElem_cons_zero, Act.put, List.setIfInBounds_toArray, List.set_cons_zero, List.set_cons_succ])
      clear fm
      refine wpAnyH_take (i := 6) (v := ?_) rfl (by kernel_rfl) (by kernel_rfl) (by kernel_rfl) (fun _ _ _ h => h) (Or.inl ⟨by rfl, ?_⟩) (by assumption) ?_
      rotate_left
      · (intro w hSw; (try dsimp only at hSw); go_simp; (try with_reducible rfl))
      (try simp only [List.getElem_toArray, List.getElem_cons_succ, List.getElem_cons_zero, Act.put, List.setIfInBounds_toArray, List.set_cons_zero, List.set_cons_succ])
      refine wpAnyH_take (i := 7) (v := ?_) rfl (by kernel_rfl) (by kernel_rfl) (by kernel_rfl) (fun _ _ _ h => h) (Or.inl ⟨by rfl, ?_⟩) (by assumption) ?_
      rotate_left
      · (intro w hSw; (try dsimp only at hSw); go_simp; (try with_reducible rfl))
      (try simp only [List.getElem_toArray, List.getElem_cons_succ, List.getElem_cons_zero, Act.put, List.setIfInBounds_toArray, List.set_cons_zero, List.set_cons_succ])
      refine wpAnyH_take (i := 8) (v := ?_) rfl (by kernel_rfl) (by kernel_rfl) (by kernel_rfl) (fun _ _ _ h => h) (Or.inl ⟨by rfl, ?_⟩) (by assumption) ?_
      rotate_left
      · (intro w hSw; (try dsimp only at hSw); go_simp; (try with_reducible rfl))
      (try simp only [List.getElem_toArray, List.getElem_cons_succ, List.getElem_cons_zero, Act.put, List.setIfInBounds_toArray, List.set_cons_zero, List.set_cons_succ])
      refine wpAnyH_take (i := 10) (v := ?_) rfl (by kernel_rfl) (by kernel_rfl) (by kernel_rfl) (fun _ _ _ h => h) (Or.inl ⟨by rfl, ?_⟩) (by assumption) ?_
      rotate_left
      · (intro w hSw; (try dsimp only at hSw); go_simp; (try with_reducible rfl))
      (try simp only [List.getElem_toArray, List.getElem_cons_succ, List.getElem_cons_zero, Act.put, List.setIfInBounds_toArray, List.set_cons_zero, List.set_cons_succ])
      refine wpAnyH_ready (rs := [9]) (by kernel_rfl) (by simp) (AllReadyH.cons (o := _) rfl (fun K hK => ?_) AllReadyH.nil)
      go_simp
      go_at_call 51
      refine (inormal_v fr).mono ?_
      rintro e vcxxxx ⟨rfl, hb⟩
      replace b0 := b0.below hb
      replace b1 := b1.below hb
      replace bx := bx.below hb
      replace b_y := b_y.below hb
      replace fa := fa.below hb
      replace fb := fb.below hb
      replace fx := fx.below hb
      replace fy := fy.below hb
      replace fr := fr.below hb
      replace H0 := H0.trans (hb.mono H0.size)
      clear hb
      go_wp2_with fail
      refine hK.out _ _ ?_ (fun hHeld => ?_)
      · exact ⟨b0.cell 0 _ rfl, b0.cell 1 _ rfl, b1.cell 0 _ rfl, b1.cell 1 _ rfl, bx.cell 0 _ rfl, bx.cell 1 _ rfl, b_y.cell 0 _ rfl, b_y.cell 1 _ rfl⟩
      clear hK K
      (try simp only [List.getElem_toArray, List.getElem_cons_succ, List.getElem_cons_zero, Act.put, List.setIfInBounds_toArray, List.set_cons_zero, List.set_cons_succ])
      refine wpAnyH_ready (rs := [11]) (by kernel_rfl) (by simp) (AllReadyH.cons (o := _) rfl (fun K hK => ?_) AllReadyH.nil)
      go_simp
      go_at_call 52
      refine (normalI_v fr).mono ?_
      rintro e vcxxxxx ⟨rfl, hb⟩
      replace b0 := b0.below hb
      replace b1 := b1.below hb
      replace bx := bx.below hb
      replace b_y := b_y.below hb
      replace fa := fa.below hb
      replace fb := fb.below hb
      replace fx := fx.below hb
      replace fy := fy.below hb
      replace fr := fr.below hb
      replace H0 := H0.trans (hb.mono H0.size)
      clear hb
      go_wp2_with fail
      refine hK.out _ _ ?_ (fun hHeld => ?_)
      · exact ⟨b0.cell 0 _ rfl, b0.cell 1 _ rfl, b1.cell 0 _ rfl, b1.cell 1 _ rfl, bx.cell 0 _ rfl, bx.cell 1 _ rfl, b_y.cell 0 _ rfl, b_y.cell 1 _ rfl⟩
      clear hK K
      (try simp only [List.getElem_toArray, List.getElem_cons_succ, List.getElem_cons_zero, Act.put, List.setIfInBounds_toArray, List.set_cons_zero, List.set_cons_succ])
      refine wpAnyH_take (i := 12) (v := ?_) rfl (by kernel_rfl) (by kernel_rfl) (by kernel_rfl) (fun _ _ _ h => h) (Or.inl ⟨by rfl, ?_⟩) (by assumption) ?_
      rotate_left
      · (intro w hSw; (try dsimp only at hSw); go_simp; (try with_reducible rfl))
      (try simp only [List.getElem_toArray, List.getElem_cons_succ, List.getElem_cons_zero, Act.put, List.setIfInBounds_toArray, List.set_cons_zero, List.set_cons_succ])
      refine wpAnyH_take (i := 13) (v := ?_) rfl (by kernel_rfl) (by kernel_rfl) (by kernel_rfl) (fun _ _ _ h => h) (Or.inl ⟨by rfl, ?_⟩) (by assumption) ?_
      rotate_left
      · (intro w hSw; (try dsimp only at hSw); go_simp; (try with_reducible rfl))
      (try simp only [List.getElem_toArray, List.getElem_cons_succ, List.getElem_cons_zero, Act.put, List.setIfInBounds_toArray, List.set_cons_zero, List.set_cons_succ])
      refine wpAnyH_take (i := 14) (v := ?_) rfl (by kernel_rfl) (by kernel_rfl) (by kernel_rfl) (fun _ _ _ h => h) (Or.inl ⟨by rfl, ?_⟩) (by assumption) ?_
      rotate_left
      · (intro w hSw; (try dsimp only at hSw); go_simp; (try with_reducible rfl))
      (try simp only [List.getElem_toArray, List.getElem_cons_succ, List.getElem_cons_zero, Act.put, List.setIfInBounds_toArray, List.set_cons_zero, List.set_cons_succ])
      refine wpAnyH_take (i := 15) (v := ?_) rfl (by kernel_rfl) (by kernel_rfl) (by kernel_rfl) (fun _ _ _ h => h) (Or.inl ⟨by rfl, ?_⟩) (by assumption) ?_
      rotate_left
      · (intro w hSw; (try dsimp only at hSw); go_simp; (try with_reducible rfl))
      (try simp only [List.getElem_toArray, List.getElem_cons_succ, List.getElem_cons_zero, Act.put, List.setIfInBounds_toArray, List.set_cons_zero, List.set_cons_succ])
      refine wpAnyH_take (i := 17) (v := ?_) rfl (by kernel_rfl) (by kernel_rfl) (by kernel_rfl) (fun _ _ _ h => h) (Or.inl ⟨by rfl, ?_⟩) (by assumption) ?_
      rotate_left
      · (intro w hSw; (try dsimp only at hSw); go_simp; (try with_reducible rfl))
      (try simp only [List.getElem_toArray, List.getElem_cons_succ, List.getElem_cons_zero, Act.put, List.setIfInBounds_toArray, List.set_cons_zero, List.set_cons_succ])
      refine wpAnyH_ready (rs := [16]) (by kernel_rfl) (by simp) (AllReadyH.cons (o := _) rfl (fun K hK => ?_) AllReadyH.nil)
      go_simp
      go_at_call 53
      refine (isign_v fa).mono ?_
      rintro e vcxxxxxx ⟨rfl, hb⟩
      replace b0 := b0.below hb
      replace b1 := b1.below hb
      replace bx := bx.below hb
      replace b_y := b_y.below hb
      replace fa := fa.below hb
      replace fb := fb.below hb
      replace fx := fx.below hb
      replace fy := fy.below hb
      replace fr := fr.below hb
      replace H0 := H0.trans (hb.mono H0.size)
      clear hb
      go_wp2_with fail
      refine hK.out _ _ ?_ (fun hHeld => ?_)
      · exact ⟨b0.cell 0 _ rfl, b0.cell 1 _ rfl, b1.cell 0 _ rfl, b1.cell 1 _ rfl, bx.cell 0 _ rfl, bx.cell 1 _ rfl, b_y.cell 0 _ rfl, b_y.cell 1 _ rfl⟩
      clear hK K
      (try simp only [List.getElem_toArray, List.getElem_cons_succ, List.getElem_cons_zero, Act.put, List.setIfInBounds_toArray, List.set_cons_zero, List.set_cons_succ])
      refine wpAnyH_ready (rs := [18]) (by kernel_rfl) (by simp) (AllReadyH.cons (o := _) rfl (fun K hK => ?_) AllReadyH.nil)
      go_simp
      go_at_call 54
      refine (nsign_v fx rfl).mono ?_
      rintro e vcxxxxxxx ⟨rfl, hb⟩
      replace b0 := b0.below hb
      replace b1 := b1.below hb
      replace bx := bx.below hb
      replace b_y := b_y.below hb
      replace fa := fa.below hb
      replace fb := fb.below hb
      replace fx := fx.below hb
      replace fy := fy.below hb
      replace fr := fr.below hb
      replace H0 := H0.trans (hb.mono H0.size)
      clear hb
      go_wp2_with fail
      refine hK.out _ _ ?_ (fun hHeld => ?_)
      · exact ⟨b0.cell 0 _ rfl, b0.cell 1 _ rfl, b1.cell 0 _ rfl, b1.cell 1 _ rfl, bx.cell 0 _ rfl, bx.cell 1 _ rfl, b_y.cell 0 _ rfl, b_y.cell 1 _ rfl⟩
      clear hK K
      (try simp only [List.getElem_toArray, List.getElem_cons_succ, List.getElem_cons_zero, Act.put, List.setIfInBounds_toArray, List.set_cons_zero, List.set_cons_succ])
      refine wpAnyH_take (i := 19) (v := ?_) rfl (by kernel_rfl) (by kernel_rfl) (by kernel_rfl) (fun _ _ _ h => h) (Or.inl ⟨by rfl, ?_⟩) (by assumption) ?_
      rotate_left
      · (intro w hSw; (try dsimp only at hSw); go_simp; (try with_reducible rfl))
      (try simp only [List.getElem_toArray, List.getElem_cons_succ, List.getElem_cons_zero, Act.put, List.setIfInBounds_toArray, List.set_cons_zero, List.set_cons_succ])
      refine wpAnyH_take (i := 20) (v := ?_) rfl (by kernel_rfl) (by kernel_rfl) (by kernel_rfl) (fun _ _ _ h => h) (Or.inl ⟨by rfl, ?_⟩) (by assumption) ?_
      rotate_left
      · (intro w hSw; (try dsimp only at hSw); go_simp; (try with_reducible rfl))
      (try simp only [List.getElem_toArray, List.getElem_cons_succ, List.getElem_cons_zero, Act.put, List.setIfInBounds_toArray, List.set_cons_zero, List.set_cons_succ])
      refine wpAnyH_take (i := 21) (v := ?_) rfl (by kernel_rfl) (by kernel_rfl) (by kernel_rfl) (fun _ _ _ h => h) (Or.inl ⟨by rfl, ?_⟩) (by assumption) ?_
      rotate_left
      · (intro w hSw; (try dsimp only at hSw); go_simp; (try with_reducible rfl))
      (try simp only [List.getElem_toArray, List.getElem_cons_succ, List.getElem_cons_zero, Act.put, List.setIfInBounds_toArray, List.set_cons_zero, List.set_cons_succ])
      refine wpAnyH_take (i := 22) (v := ?_) rfl (by kernel_rfl) (by kernel_rfl) (by kernel_rfl) (fun _ _ _ h => h) (Or.inl ⟨by rfl, ?_⟩) (by assumption) ?_
      rotate_left
      · (intro w hSw; (try dsimp only at hSw); go_simp; (try with_reducible rfl))
      (try simp only [List.getElem_toArray, List.getElem_cons_succ, List.getElem_cons_zero, Act.put, List.setIfInBounds_toArray, List.set_cons_zero, List.set_cons_succ])
      refine wpAnyH_take (i := 23) (v := ?_) rfl (by kernel_rfl) (by kernel_rfl) (by kernel_rfl) (fun _ _ _ h => h) (Or.inl ⟨by rfl, ?_⟩) (by assumption) ?_
      rotate_left
      · (intro w hSw; (try dsimp only at hSw); go_simp; (try with_reducible rfl))
      (try simp only [List.getElem_toArray, List.getElem_cons_succ, List.getElem_cons_zero, Act.put, List.setIfInBounds_toArray, List.set_cons_zero, List.set_cons_succ])
      refine wpAnyH_take (i := 25) (v := ?_) rfl (by kernel_rfl) (by kernel_rfl) (by kernel_rfl) (fun _ _ _ h => h) (Or.inl ⟨by rfl, ?_⟩) (by assumption) ?_
      rotate_left
      · (intro w hSw; (try dsimp only at hSw); go_simp; (try with_reducible rfl))
      (try simp only [List.getElem_toArray, List.getElem_cons_succ, List.getElem_cons_zero, Act.put, List.setIfInBounds_toArray, List.set_cons_zero, List.set_cons_succ])
      refine wpAnyH_take (i := 26) (v := ?_) rfl (by kernel_rfl) (by kernel_rfl) (by kernel_rfl) (fun _ _ _ h => h) (Or.inl ⟨by rfl, ?_⟩) (by assumption) ?_
      rotate_left
      · (intro w hSw; (try dsimp only at hSw); go_simp; (try with_reducible rfl))
      (try simp only [List.getElem_toArray, List.getElem_cons_succ, List.getElem_cons_zero, Act.put, List.setIfInBounds_toArray, List.set_cons_zero, List.set_cons_succ])
      refine wpAnyH_ready (rs := [24]) (by kernel_rfl) (by simp) (AllReadyH.cons (o := _) rfl (fun K hK => ?_) AllReadyH.nil)
      go_simp
      go_at_call 55
      refine (icmp_v fa fb).mono ?_
      rintro e vcxxxxxxxx ⟨rfl, hb⟩
      replace b0 := b0.below hb
      replace b1 := b1.below hb
      replace bx := bx.below hb
      replace b_y := b_y.below hb
      replace fa := fa.below hb
      replace fb := fb.below hb
      replace fx := fx.below hb
      replace fy := fy.below hb
      replace fr := fr.below hb
      replace H0 := H0.trans (hb.mono H0.size)
      clear hb
      go_wp2_with fail
      refine hK.out _ _ ?_ (fun hHeld => ?_)
      · exact ⟨b0.cell 0 _ rfl, b0.cell 1 _ rfl, b1.cell 0 _ rfl, b1.cell 1 _ rfl, bx.cell 0 _ rfl, bx.cell 1 _ rfl, b_y.cell 0 _ rfl, b_y.cell 1 _ rfl⟩
      clear hK K
      (try simp only [List.getElem_toArray, List.getElem_cons_succ, List.getElem_cons_zero, Act.put, List.setIfInBounds_toArray, List.set_cons_zero, List.set_cons_succ])
      refine wpAnyH_ready (rs := [27]) (by kernel_rfl) (by simp) (AllReadyH.cons (o := _) rfl (fun K hK => ?_) AllReadyH.nil)
      go_simp
      go_at_call 47
      refine (ncompare_v fx fy (by omega) (by omega) rfl).mono ?_
      rintro e vcxxxxxxxxx ⟨rfl, hb⟩
      replace b0 := b0.below hb
      replace b1 := b1.below hb
      replace bx := bx.below hb
      replace b_y := b_y.below hb
      replace fa := fa.below hb
      replace fb := fb.below hb
      replace fx := fx.below hb
      replace fy := fy.below hb
      replace fr := fr.below hb
      replace H0 := H0.trans (hb.mono H0.size)
      clear hb
      go_wp2_with fail
      refine hK.out _ _ ?_ (fun hHeld => ?_)
      · exact ⟨b0.cell 0 _ rfl, b0.cell 1 _ rfl, b1.cell 0 _ rfl, b1.cell 1 _ rfl, bx.cell 0 _ rfl, bx.cell 1 _ rfl, b_y.cell 0 _ rfl, b_y.cell 1 _ rfl⟩
      clear hK K
      (try simp only [List.getElem_toArray, List.getElem_cons_succ, List.getElem_cons_zero, Act.put, List.setIfInBounds_toArray, List.set_cons_zero, List.set_cons_succ])
      refine wpAnyH_take (i := 28) (v := ?_) rfl (by kernel_rfl) (by kernel_rfl) (by kernel_rfl) (fun _ _ _ h => h) (Or.inl ⟨by rfl, ?_⟩) (by assumption) ?_
      rotate_left
      · (intro w hSw; (try dsimp only at hSw); go_simp; (try with_reducible rfl))
      (try simp only [List.getElem_toArray, List.getElem_cons_succ, List.getElem_cons_zero, Act.put, List.setIfInBounds_toArray, List.set_cons_zero, List.set_cons_succ])
      refine wpAnyH_take (i := 29) (v := ?_) rfl (by kernel_rfl) (by kernel_rfl) (by kernel_rfl) (fun _ _ _ h => h) (Or.inl ⟨by rfl, ?_⟩) (by assumption) ?_
      rotate_left
      · (intro w hSw; (try dsimp only at hSw); go_simp; (try with_reducible rfl))
      (try simp only [List.getElem_toArray, List.getElem_cons_succ, List.getElem_cons_zero, Act.put, List.setIfInBounds_toArray, List.set_cons_zero, List.set_cons_succ])
      refine wpAnyH_take (i := 30) (v := ?_) rfl (by kernel_rfl) (by kernel_rfl) (by kernel_rfl) (fun _ _ _ h => h) (Or.inl ⟨by rfl, ?_⟩) (by assumption) ?_
      rotate_left
      · (intro w hSw; (try dsimp only at hSw); go_simp; (try with_reducible rfl))
      (try simp only [List.getElem_toArray, List.getElem_cons_succ, List.getElem_cons_zero, Act.put, List.setIfInBounds_toArray, List.set_cons_zero, List.set_cons_succ])
      refine wpAnyH_done (by kernel_rfl) ?_ _
      refine NoPanic.normal ?_
      go_wp2_with fail
      go_returns
      exact ⟨rfl, H0⟩
    · rcases Int.lt_or_le 9223372036854775807 za with hhi | hhi
      · have e1 : p1 = 1 := by omega
        have e2 : p2 = 1 := by omega
        subst e1 e2
        have HO := Lib.hid (show za < -9223372036854775808 ∨ 9223372036854775807 < za from .inr hhi)
        clear c1 c2 hlo hhi
        have a0 := b0.cell 0 _ rfl
        have a1 := b0.cell 1 _ rfl
        go_wp2_with fail
        refine (int64_out fa HO.out).mono ?_
        rintro e w1 ⟨rfl, hb⟩
        replace b0 := b0.below hb
        replace b1 := b1.below hb
        replace bx := bx.below hb
        replace b_y := b_y.below hb
        replace fa := fa.below hb
        replace fb := fb.below hb
        replace fx := fx.below hb
        replace fy := fy.below hb
        replace fr := fr.below hb
        replace H0 := H0.trans (hb.mono H0.size)
        clear hb
        clear a0 a1
        go_wp2_with fail
        refine (ifromint_v z hz0 hz1 _).mono ?_
        rintro e w2 ⟨t, B, k, d, rfl, fz, hb⟩
        replace b0 := b0.below hb
        replace b1 := b1.below hb
        replace bx := bx.below hb
        replace b_y := b_y.below hb
        replace fa := fa.below hb
        replace fb := fb.below hb
        replace fx := fx.below hb
        replace fy := fy.below hb
        replace fr := fr.below hb
        replace H0 := H0.trans (hb.mono H0.size)
        clear hb
        go_wp2_with fail
        refine (int64_in fz.ri hz0 hz1).mono ?_
        rintro e w3 ⟨rfl, hb⟩
        replace b0 := b0.below hb
        replace b1 := b1.below hb
        replace bx := bx.below hb
        replace b_y := b_y.below hb
        replace fa := fa.below hb
        replace fb := fb.below hb
        replace fx := fx.below hb
        replace fy := fy.below hb
        replace fr := fr.below hb
        replace H0 := H0.trans (hb.mono H0.size)
        clear hb
        clear fz
        go_wp2_with fail
        have hG := drawn_below w3
        replace b0 := b0.below hG
        replace b1 := b1.below hG
        replace bx := bx.below hG
        replace b_y := b_y.below hG
        replace fa := fa.below hG
        replace fb := fb.below hG
        replace fx := fx.below hG
        replace fy := fy.below hG
        replace fr := fr.below hG
        replace H0 := H0.trans (hG.mono H0.size)
        clear hG
        refine wp_region_noPanic ?_
        refine wp_region_held_drew (S := (fun V => V.cell? ⟨g7, 0, none⟩ = some (.bool t7) ∧ V.cell? ⟨g7, 1, none⟩ = some (.slice B7 k7 d7))) (by kernel_rfl) ?_ (fun hHeld => ?_)
        · exact ⟨bx.cell 0 _ rfl, bx.cell 1 _ rfl⟩
        generalize w3.drew = va at H0 hHeld b0 b1 bx b_y fa fb fx fy fr ⊢
        refine wpAnyH_take (i := 0) (v := ?_) rfl (by kernel_rfl) (by kernel_rfl) (by kernel_rfl) (fun _ _ _ h => h) (Or.inl ⟨by rfl, ?_⟩) (by assumption) ?_
        rotate_left
        · (intro w hSw; (try dsimp only at hSw); go_simp; (try with_reducible rfl))
        (try simp only [List.getElem_toArray, List.getElem_cons_zero, Act.put, List.setIfInBounds_toArray, List.set_cons_zero, List.set_cons_succ])
        refine wpAnyH_ready (rs := [1]) (by kernel_rfl) (by simp) (AllReadyH.cons (o := _) rfl (fun K hK => ?_) AllReadyH.nil)
        go_simp
        go_at_call 48
        refine (nint_v (-9223372036854775808) (by omega) (by omega) _).mono ?_
        rintro e vax ⟨tm, Bm, km, dm, rfl, fm, hb⟩
        replace b0 := b0.below hb
        replace b1 := b1.below hb
        replace bx := bx.below hb
        replace b_y := b_y.below hb
        replace fa := fa.below hb
        replace fb := fb.below hb
        replace fx := fx.below hb
        replace fy := fy.below hb
        replace fr := fr.below hb
        replace H0 := H0.trans (hb.mono H0.size)
        clear hb
        go_wp2_with fail
        refine hK.out _ _ ?_ (fun hHeld => ?_)
        · exact ⟨bx.cell 0 _ rfl, bx.cell 1 _ rfl⟩
        clear hK K
        (try simp only [List.getElem_toArray, List.getElem_cons_succ, List.getElem_cons_zero, Act.put, List.setIfInBounds_toArray, List.set_cons_zero, List.set_cons_succ])
        refine wpAnyH_ready (rs := [2]) (by kernel_rfl) (by simp) (AllReadyH.cons (o := _) rfl (fun K hK => ?_) AllReadyH.nil)
        go_simp
        go_at_call 47
        refine (ncompare_v fx fm (by omega) (by omega) HK1.out).mono ?_
        rintro e vaxx ⟨rfl, hb⟩
        replace b0 := b0.below hb
        replace b1 := b1.below hb
        replace bx := bx.below hb
        replace b_y := b_y.below hb
        replace fa := fa.below hb
        replace fb := fb.below hb
        replace fx := fx.below hb
        replace fy := fy.below hb
        replace fr := fr.below hb
        replace fm := fm.below hb
        replace H0 := H0.trans (hb.mono H0.size)
        clear hb
        go_wp2_with fail
        refine hK.out _ _ ?_ (fun hHeld => ?_)
        · exact ⟨bx.cell 0 _ rfl, bx.cell 1 _ rfl⟩
        clear hK K
        (try simp only [List.getElem_toArray, List.getElem_cons_succ, List.getElem_cons_zero, Act.put, List.setIfInBounds_toArray, List.set_cons_zero, List.set_cons_succ])
        clear fm
        refine wpAnyH_take (i := 3) (v := ?_) rfl (by kernel_rfl) (by kernel_rfl) (by kernel_rfl) (fun _ _ _ h => h) (Or.inl ⟨by rfl, ?_⟩) (by assumption) ?_
        rotate_left
        · (intro w hSw; (try dsimp only at hSw); go_simp; (try with_reducible rfl))
        (try simp only [List.getElem_toArray, List.getElem_cons_succ, List.getElem_cons_zero, Act.put, List.setIfInBounds_toArray, List.set_cons_zero, List.set_cons_succ])
        refine wpAnyH_take (i := 4) (v := ?_) rfl (by kernel_rfl) (by kernel_rfl) (by kernel_rfl) (fun _ _ _ h => h) (Or.inl ⟨by rfl, ?_⟩) (by assumption) ?_
        rotate_left
        · (intro w hSw; (try dsimp only at hSw); go_simp; (try with_reducible rfl))
        (try simp only [List.getElem_toArray, List.getElem_cons_succ, List.getElem_cons_zero, Act.put, List.setIfInBounds_toArray, List.set_cons_zero, List.set_cons_succ])
        refine wpAnyH_take (i := 5) (v := ?_) rfl (by kernel_rfl) (by kernel_rfl) (by kernel_rfl) (fun _ _ _ h => h) (Or.inl ⟨by rfl, ?_⟩) (by assumption) ?_
        rotate_left
        · (intro w hSw; (try dsimp only at hSw); go_simp; (try with_reducible rfl))
        (try simp only [List.getElem_toArray, List.getElem_cons_succ, List.getElem_cons_zero, Act.put, List.setIfInBounds_toArray, List.set_cons_zero, List.set_cons_succ])
        refine wpAnyH_ready (rs := [6]) (by kernel_rfl) (by simp) (AllReadyH.cons (o := _) rfl (fun K hK => ?_) AllReadyH.nil)
        go_simp
        go_at_call 48
        refine (nint_v 9223372036854775807 (by omega) (by omega) _).mono ?_
        rintro e vaxxx ⟨tm, Bm, km, dm, rfl, fm, hb⟩
        replace b0 := b0.below hb
        replace b1 := b1.below hb
        replace bx := bx.below hb
        replace b_y := b_y.below hb
        replace fa := fa.below hb
        replace fb := fb.below hb
        replace fx := fx.below hb
        replace fy := fy.below hb
        replace fr := fr.below hb
        replace H0 := H0.trans (hb.mono H0.size)
        clear hb
        go_wp2_with fail
        refine hK.out _ _ ?_ (fun hHeld => ?_)
        · exact ⟨bx.cell 0 _ rfl, bx.cell 1 _ rfl⟩
        clear hK K
        (try simp only [List.getElem_toArray, List.getElem_cons_succ, List.getElem_cons_zero, Act.put, List.setIfInBounds_toArray, List.set_cons_zero, List.set_cons_succ])
        refine wpAnyH_ready (rs := [7]) (by kernel_rfl) (by simp) (AllReadyH.cons (o := _) rfl (fun K hK => ?_) AllReadyH.nil)
        go_simp
        go_at_call 47
        refine (ncompare_v fx fm (by omega) (by omega) HK2.out).mono ?_
        rintro e vaxxxx ⟨rfl, hb⟩
        replace b0 := b0.below hb
        replace b1 := b1.below hb
        replace bx := bx.below hb
        replace b_y := b_y.below hb
        replace fa := fa.below hb
        replace fb := fb.below hb
        replace fx := fx.below hb
        replace fy := fy.below hb
        replace fr := fr.below hb
        replace fm := fm.below hb
        replace H0 := H0.trans (hb.mono H0.size)
        clear hb
        go_wp2_with fail
        refine hK.out _ _ ?_ (fun hHeld => ?_)
        · exact ⟨bx.cell 0 _ rfl, bx.cell 1 _ rfl⟩
        clear hK K
        (try simp only [List.getElem_toArray, List.getElem_cons_succ, List.getElem_cons_zero, Act.put, List.setIfInBounds_toArray, List.set_cons_zero, List.set_cons_succ])
        clear fm
        refine wpAnyH_take (i := 8) (v := ?_) rfl (by kernel_rfl) (by kernel_rfl) (by kernel_rfl) (fun _ _ _ h => h) (Or.inl ⟨by rfl, ?_⟩) (by assumption) ?_
        rotate_left
        · (intro w hSw; (try dsimp only at hSw); go_simp; (try with_reducible rfl))
        (try simp only [List.getElem_toArray, List.getElem_cons_succ, List.getElem_cons_zero, Act.put, List.setIfInBounds_toArray, List.set_cons_zero, List.set_cons_succ])
        refine wpAnyH_take (i := 9) (v := ?_) rfl (by kernel_rfl) (by kernel_rfl) (by kernel_rfl) (fun _ _ _ h => h) (Or.inl ⟨by rfl, ?_⟩) (by assumption) ?_
        rotate_left
        · (intro w hSw; (try dsimp only at hSw); go_simp; (try with_reducible rfl))
        (try simp only [List.getElem_toArray, List.getElem_cons_succ, List.getElem_cons_zero, Act.put, List.setIfInBounds_toArray, List.set_cons_zero, List.set_cons_succ])
        refine wpAnyH_take (i := 10) (v := ?_) rfl (by kernel_rfl) (by kernel_rfl) (by kernel_rfl) (fun _ _ _ h => h) (Or.inl ⟨by rfl, ?_⟩) (by assumption) ?_
        rotate_left
        · (intro w hSw; (try dsimp only at hSw); go_simp; (try with_reducible rfl))
        (try simp only [List.getElem_toArray, List.getElem_cons_succ, List.getElem_cons_zero, Act.put, List.setIfInBounds_toArray, List.set_cons_zero, List.set_cons_succ])
        refine wpAnyH_done (by kernel_rfl) ?_ _
        refine NoPanic.normal ?_
        go_wp2_with fail
        have hG := drawn_below vaxxxx
        replace b0 := b0.below hG
        replace b1 := b1.below hG
        replace bx := bx.below hG
        replace b_y := b_y.below hG
        replace fa := fa.below hG
        replace fb := fb.below hG
        replace fx := fx.below hG
        replace fy := fy.below hG
        replace fr := fr.below hG
        replace H0 := H0.trans (hG.mono H0.size)
        clear hG
        refine wp_region_noPanic ?_
        refine wp_region_held_drew (S := (fun V => V.cell? ⟨g7, 0, none⟩ = some (.bool t7) ∧ V.cell? ⟨g7, 1, none⟩ = some (.slice B7 k7 d7))) (by kernel_rfl) ?_ (fun hHeld => ?_)
        · exact ⟨bx.cell 0 _ rfl, bx.cell 1 _ rfl⟩
        generalize vaxxxx.drew = vb at H0 hHeld b0 b1 bx b_y fa fb fx fy fr ⊢
        refine wpAnyH_take (i := 0) (v := ?_) rfl (by kernel_rfl) (by kernel_rfl) (by kernel_rfl) (fun _ _ _ h => h) (Or.inl ⟨by rfl, ?_⟩) (by assumption) ?_
        rotate_left
        · (intro w hSw; (try dsimp only at hSw); go_simp; (try with_reducible rfl))
        (try simp only [List.getElem_toArray, List.getElem_cons_zero, Act.put, List.setIfInBounds_toArray, List.set_cons_zero, List.set_cons_succ])
        refine wpAnyH_take (i := 1) (v := ?_) rfl (by kernel_rfl) (by kernel_rfl) (by kernel_rfl) (fun _ _ _ h => h) (Or.inl ⟨by rfl, ?_⟩) (by assumption) ?_
        rotate_left
        · (intro w hSw; (try dsimp only at hSw); go_simp; (try with_reducible rfl))
        (try simp only [List.getElem_toArray, List.getElem_cons_succ, List.getElem_cons_zero, Act.put, List.setIfInBounds_toArray, List.set_cons_zero, List.set_cons_succ])
        refine wpAnyH_take (i := 2) (v := ?_) rfl (by kernel_rfl) (by kernel_rfl) (by kernel_rfl) (fun _ _ _ h => h) (Or.inl ⟨by rfl, ?_⟩) (by assumption) ?_
        rotate_left
        · (intro w hSw; (try dsimp only at hSw); go_simp; (try with_reducible rfl))
        (try simp only [List.getElem_toArray, List.getElem_cons_succ, List.getElem_cons_zero, Act.put, List.setIfInBounds_toArray, List.set_cons_zero, List.set_cons_succ])
        refine wpAnyH_take (i := 3) (v := ?_) rfl (by kernel_rfl) (by kernel_rfl) (by kernel_rfl) (fun _ _ _ h => h) (Or.inl ⟨by rfl, ?_⟩) (by assumption) ?_
        rotate_left
        · (intro w hSw; (try dsimp only at hSw); go_simp; (try with_reducible rfl))
        (try simp only [List.getElem_toArray, List.getElem_cons_succ, List.getElem_cons_zero, Act.put, List.setIfInBounds_toArray, List.set_cons_zero, List.set_cons_succ])
        refine wpAnyH_take (i := 4) (v := ?_) rfl (by kernel_rfl) (by kernel_rfl) (by kernel_rfl) (fun _ _ _ h => h) (Or.inl ⟨by rfl, ?_⟩) (by assumption) ?_
        rotate_left
        · (intro w hSw; (try dsimp only at hSw); go_simp; (try with_reducible rfl))
        (try simp only [List.getElem_toArray, List.getElem_cons_succ, List.getElem_cons_zero, Act.put, List.setIfInBounds_toArray, List.set_cons_zero, List.set_cons_succ])
        refine wpAnyH_take (i := 5) (v := ?_) rfl (by kernel_rfl) (by kernel_rfl) (by kernel_rfl) (fun _ _ _ h => h) (Or.inl ⟨by rfl, ?_⟩) (by assumption) ?_
        rotate_left
        · (intro w hSw; (try dsimp only at hSw); go_simp; (try with_reducible rfl))
        (try simp only [List.getElem_toArray, List.getElem_cons_succ, List.getElem_cons_zero, Act.put, List.setIfInBounds_toArray, List.set_cons_zero, List.set_cons_succ])
        refine wpAnyH_take (i := 6) (v := undef) rfl (by kernel_rfl) (by kernel_rfl) (by kernel_rfl) (fun _ _ _ h => h) (Or.inr ⟨by rfl, rfl⟩) (by assumption) ?_
        (try simp only [List.getElem_toArray, List.getElem_cons_succ, List.getElem_cons_zero, Act.put, List.setIfInBounds_toArray, List.set_cons_zero, List.set_cons_succ])
        refine wpAnyH_take (i := 8) (v := undef) rfl (by kernel_rfl) (by kernel_rfl) (by kernel_rfl) (fun _ _ _ h => h) (Or.inr ⟨by rfl, rfl⟩) (by assumption) ?_
        (try simp only [List.getElem_toArray, List.getElem_cons_succ, List.getElem_cons_zero, Act.put, List.setIfInBounds_toArray, List.set_cons_zero, List.set_cons_succ])
        refine wpAnyH_take (i := 7) (v := undef) rfl (by kernel_rfl) (by kernel_rfl) (by kernel_rfl) (fun _ _ _ h => h) (Or.inr ⟨by rfl, rfl⟩) (by assumption) ?_
        (try simp only [List.getElem_toArray, List.getElem_cons_succ, List.getElem_cons_zero, Act.put, List.setIfInBounds_toArray, List.set_cons_zero, List.set_cons_succ])
        refine wpAnyH_take (i := 9) (v := undef) rfl (by kernel_rfl) (by kernel_rfl) (by kernel_rfl) (fun _ _ _ h => h) (Or.inr ⟨by rfl, rfl⟩) (by assumption) ?_
        (try simp only [List.getElem_toArray, List.getElem_cons_succ, List.getElem_cons_zero, Act.put, List.setIfInBounds_toArray, List.set_cons_zero, List.set_cons_succ])
        refine wpAnyH_take (i := 10) (v := undef) rfl (by kernel_rfl) (by kernel_rfl) (by kernel_rfl) (fun _ _ _ h => h) (Or.inr ⟨by rfl, rfl⟩) (by assumption) ?_
        (try simp only [List.getElem_toArray, List.getElem_cons_succ, List.getElem_cons_zero, Act.put, List.setIfInBounds_toArray, List.set_cons_zero, List.set_cons_succ])
        refine wpAnyH_take (i := 11) (v := ?_) rfl (by kernel_rfl) (by kernel_rfl) (by kernel_rfl) (fun _ _ _ h => h) (Or.inl ⟨by rfl, ?_⟩) (by assumption) ?_
        rotate_left
        · (intro w hSw; (try dsimp only at hSw); go_simp; (try with_reducible rfl))
        (try simp only [List.getElem_toArray, List.getElem_cons_succ, List.getElem_cons_zero, Act.put, List.setIfInBounds_toArray, List.set_cons_zero, List.set_cons_succ])
        refine wpAnyH_take (i := 12) (v := ?_) rfl (by kernel_rfl) (by kernel_rfl) (by kernel_rfl) (fun _ _ _ h => h) (Or.inl ⟨by rfl, ?_⟩) (by assumption) ?_
        rotate_left
        · (intro w hSw; (try dsimp only at hSw); go_simp; (try with_reducible rfl))
        (try simp only [List.getElem_toArray, List.getElem_cons_succ, List.getElem_cons_zero, Act.put, List.setIfInBounds_toArray, List.set_cons_zero, List.set_cons_succ])
        refine wpAnyH_take (i := 13) (v := ?_) rfl (by kernel_rfl) (by kernel_rfl) (by kernel_rfl) (fun _ _ _ h => h) (Or.inl ⟨by rfl, ?_⟩) (by assumption) ?_
        rotate_left
        · (intro w hSw; (try dsimp only at hSw); go_simp; (try with_reducible rfl))
        (try simp only [List.getElem_toArray, List.getElem_cons_succ, List.getElem_cons_zero, Act.put, List.setIfInBounds_toArray, List.set_cons_zero, List.set_cons_succ])
        refine wpAnyH_take (i := 14) (v := ?_) rfl (by kernel_rfl) (by kernel_rfl) (by kernel_rfl) (fun _ _ _ h => h) (Or.inl ⟨by rfl, ?_⟩) (by assumption) ?_
        rotate_left
        · (intro w hSw; (try dsimp only at hSw); go_simp; (try with_reducible rfl))
        (try simp only [List.getElem_toArray, List.getElem_cons_succ, List.getElem_cons_zero, Act.put, List.setIfInBounds_toArray, List.set_cons_zero, List.set_cons_succ])
        refine wpAnyH_take (i := 15) (v := ?_) rfl (by kernel_rfl) (by kernel_rfl) (by kernel_rfl) (fun _ _ _ h => h) (Or.inl ⟨by rfl, ?_⟩) (by assumption) ?_
        rotate_left
        · (intro w hSw; (try dsimp only at hSw); go_simp; (try with_reducible rfl))
        (try simp only [List.getElem_toArray, List.getElem_cons_succ, List.getElem_cons_zero, Act.put, List.setIfInBounds_toArray, List.set_cons_zero, List.set_cons_succ])
        refine wpAnyH_take (i := 16) (v := ?_) rfl (by kernel_rfl) (by kernel_rfl) (by kernel_rfl) (fun _ _ _ h => h) (Or.inl ⟨by rfl, ?_⟩) (by assumption) ?_
        rotate_left
        · (intro w hSw; (try dsimp only at hSw); go_simp; (try with_reducible rfl))
        (try simp only [List.getElem_toArray, List.getElem_cons_succ, List.getElem_cons_zero, Act.put, List.setIfInBounds_toArray, List.set_cons_zero, List.set_cons_succ])
        refine wpAnyH_take (i := 17) (v := ?_) rfl (by kernel_rfl) (by kernel_rfl) (by kernel_rfl) (fun _ _ _ h => h) (Or.inl ⟨by rfl, ?_⟩) (by assumption) ?_
        rotate_left
        · (intro w hSw; (try dsimp only at hSw); go_simp; (try with_reducible rfl))
        (try simp only [List.getElem_toArray, List.getElem_cons_succ, List.getElem_cons_zero, Act.put, List.setIfInBounds_toArray, List.set_cons_zero, List.set_cons_succ])
        refine wpAnyH_take (i := 18) (v := ?_) rfl (by kernel_rfl) (by kernel_rfl) (by kernel_rfl) (fun _ _ _ h => h) (Or.inl ⟨by rfl, ?_⟩) (by assumption) ?_
        rotate_left
        · (intro w hSw; (try dsimp only at hSw); go_simp; (try with_reducible rfl))
        (try simp only [List.getElem_toArray, List.getElem_cons_succ, List.getElem_cons_zero, Act.put, List.setIfInBounds_toArray, List.set_cons_zero, List.set_cons_succ])
        refine wpAnyH_take (i := 19) (v := ?_) rfl (by kernel_rfl) (by kernel_rfl) (by kernel_rfl) (fun _ _ _ h => h) (Or.inl ⟨by rfl, ?_⟩) (by assumption) ?_
        rotate_left
        · (intro w hSw; (try dsimp only at hSw); go_simp; (try with_reducible rfl))
        (try simp only [List.getElem_toArray, List.getElem_cons_succ, List.getElem_cons_zero, Act.put, List.setIfInBounds_toArray, List.set_cons_zero, List.set_cons_succ])
        refine wpAnyH_take (i := 20) (v := ?_) rfl (by kernel_rfl) (by kernel_rfl) (by kernel_rfl) (fun _ _ _ h => h) (Or.inl ⟨by rfl, ?_⟩) (by assumption) ?_
        rotate_left
        · (intro w hSw; (try dsimp only at hSw); go_simp; (try with_reducible rfl))
        (try simp only [List.getElem_toArray, List.getElem_cons_succ, List.getElem_cons_zero, Act.put, List.setIfInBounds_toArray, List.set_cons_zero, List.set_cons_succ])
        refine wpAnyH_take (i := 21) (v := ?_) rfl (by kernel_rfl) (by kernel_rfl) (by kernel_rfl) (fun _ _ _ h => h) (Or.inl ⟨by rfl, ?_⟩) (by assumption) ?_
        rotate_left
        · (intro w hSw; (try dsimp only at hSw); go_simp; (try with_reducible rfl))
        (try simp only [List.getElem_toArray, List.getElem_cons_succ, List.getElem_cons_zero, Act.put, List.setIfInBounds_toArray, List.set_cons_zero, List.set_cons_succ])
        refine wpAnyH_take (i := 22) (v := ?_) rfl (by kernel_rfl) (by kernel_rfl) (by kernel_rfl) (fun _ _ _ h => h) (Or.inl ⟨by rfl, ?_⟩) (by assumption) ?_
        rotate_left
        · (intro w hSw; (try dsimp only at hSw); go_simp; (try with_reducible rfl))
        (try simp only [List.getElem_toArray, List.getElem_cons_succ, List.getElem_cons_zero, Act.put, List.setIfInBounds_toArray, List.set_cons_zero, List.set_cons_succ])
        refine wpAnyH_take (i := 23) (v := ?_) rfl (by kernel_rfl) (by kernel_rfl) (by kernel_rfl) (fun _ _ _ h => h) (Or.inl ⟨by rfl, ?_⟩) (by assumption) ?_
        rotate_left
        · (intro w hSw; (try dsimp only at hSw); go_simp; (try with_reducible rfl))
        (try simp only [List.getElem_toArray, List.getElem_cons_succ, List.getElem_cons_zero, Act.put, List.setIfInBounds_toArray, List.set_cons_zero, List.set_cons_succ])
        refine wpAnyH_take (i := 24) (v := ?_) rfl (by kernel_rfl) (by kernel_rfl) (by kernel_rfl) (fun _ _ _ h => h) (Or.inl ⟨by rfl, ?_⟩) (by assumption) ?_
        rotate_left
        · (intro w hSw; (try dsimp only at hSw); go_simp; (try with_reducible rfl))
        (try simp only [List.getElem_toArray, List.getElem_cons_succ, List.getElem_cons_zero, Act.put, List.setIfInBounds_toArray, List.set_cons_zero, List.set_cons_succ])
        refine wpAnyH_take (i := 25) (v := ?_) rfl (by kernel_rfl) (by kernel_rfl) (by kernel_rfl) (fun _ _ _ h => h) (Or.inl ⟨by rfl, ?_⟩) (by assumption) ?_
        rotate_left
        · (intro w hSw; (try dsimp only at hSw); go_simp; (try with_reducible rfl))
        (try simp only [List.getElem_toArray, List.getElem_cons_succ, List.getElem_cons_zero, Act.put, List.setIfInBounds_toArray, List.set_cons_zero, List.set_cons_succ])
        refine wpAnyH_take (i := 26) (v := ?_) rfl (by kernel_rfl) (by kernel_rfl) (by kernel_rfl) (fun _ _ _ h => h) (Or.inl ⟨by rfl, ?_⟩) (by assumption) ?_
        rotate_left
        · (intro w hSw; (try dsimp only at hSw); go_simp; (try with_reducible rfl))
        (try simp only [List.getElem_toArray, List.getElem_cons_succ, List.getElem_cons_zero, Act.put, List.setIfInBounds_toArray, List.set_cons_zero, List.set_cons_succ])
        refine wpAnyH_take (i := 27) (v := ?_) rfl (by kernel_rfl) (by kernel_rfl) (by kernel_rfl) (fun _ _ _ h => h) (Or.inl ⟨by rfl, ?_⟩) (by assumption) ?_
        rotate_left
        · (intro w hSw; (try dsimp only at hSw); go_simp; (try with_reducible rfl))
        (try simp only [List.getElem_toArray, List.getElem_cons_succ, List.getElem_cons_zero, Act.put, List.setIfInBounds_toArray, List.set_cons_zero, List.set_cons_succ])
        refine wpAnyH_take (i := 28) (v := ?_) rfl (by kernel_rfl) (by kernel_rfl) (by kernel_rfl) (fun _ _ _ h => h) (Or.inl ⟨by rfl, ?_⟩) (by assumption) ?_
        rotate_left
        · (intro w hSw; (try dsimp only at hSw); go_simp; (try with_reducible rfl))
        (try simp only [List.getElem_toArray, List.getElem_cons_succ, List.getElem_cons_zero, Act.put, List.setIfInBounds_toArray, List.set_cons_zero, List.set_cons_succ])
        refine wpAnyH_take (i := 29) (v := ?_) rfl (by kernel_rfl) (by kernel_rfl) (by kernel_rfl) (fun _ _ _ h => h) (Or.inl ⟨by rfl, ?_⟩) (by assumption) ?_
        rotate_left
        · (intro w hSw; (try dsimp only at hSw); go_simp; (try with_reducible rfl))
        (try simp only [List.getElem_toArray, List.getElem_cons_succ, List.getElem_cons_zero, Act.put, List.setIfInBounds_toArray, List.set_cons_zero, List.set_cons_succ])
        refine wpAnyH_take (i := 30) (v := ?_) rfl (by kernel_rfl) (by kernel_rfl) (by kernel_rfl) (fun _ _ _ h => h) (Or.inl ⟨by rfl, ?_⟩) (by assumption) ?_
        rotate_left
        · (intro w hSw; (try dsimp only at hSw); go_simp; (try with_reducible rfl))
        (try simp only [List.getElem_toArray, List.getElem_cons_succ, List.getElem_cons_zero, Act.put, List.setIfInBounds_toArray, List.set_cons_zero, List.set_cons_succ])
        refine wpAnyH_take (i := 31) (v := ?_) rfl (by kernel_rfl) (by kernel_rfl) (by kernel_rfl) (fun _ _ _ h => h) (Or.inl ⟨by rfl, ?_⟩) (by assumption) ?_
        rotate_left
        · (intro w hSw; (try dsimp only at hSw); go_simp; (try with_reducible rfl))
        (try simp only [List.getElem_toArray, List.getElem_cons_succ, List.getElem_cons_zero, Act.put, List.setIfInBounds_toArray, List.set_cons_zero, List.set_cons_succ])
        refine wpAnyH_take (i := 33) (v := ?_) rfl (by kernel_rfl) (by kernel_rfl) (by kernel_rfl) (fun _ _ _ h => h) (Or.inl ⟨by rfl, ?_⟩) (by assumption) ?_
        rotate_left
        · (intro w hSw; (try dsimp only at hSw); go_simp; (try with_reducible rfl))
        (try simp only [List.getElem_toArray, List.getElem_cons_succ, List.getElem_cons_zero, Act.put, List.setIfInBounds_toArray, List.set_cons_zero, List.set_cons_succ])
        refine wpAnyH_ready (rs := [32]) (by kernel_rfl) (by simp) (AllReadyH.cons (o := _) rfl (fun K hK => ?_) AllReadyH.nil)
        go_simp
        go_at_call 46
        refine (ifromint_v z hz0 hz1 _).mono ?_
        rintro e vbx ⟨tm, Bm, km, dm, rfl, fm, hb⟩
        replace b0 := b0.below hb
        replace b1 := b1.below hb
        replace bx := bx.below hb
        replace b_y := b_y.below hb
        replace fa := fa.below hb
        replace fb := fb.below hb
        replace fx := fx.below hb
        replace fy := fy.below hb
        replace fr := fr.below hb
        replace H0 := H0.trans (hb.mono H0.size)
        clear hb
        go_wp2_with fail
        refine hK.out _ _ ?_ (fun hHeld => ?_)
        · exact ⟨bx.cell 0 _ rfl, bx.cell 1 _ rfl⟩
        clear hK K
        (try simp only [List.getElem_toArray, List.getElem_cons_succ, List.getElem_cons_zero, Act.put, List.setIfInBounds_toArray, List.set_cons_zero, List.set_cons_succ])
        refine wpAnyH_ready (rs := [34]) (by kernel_rfl) (by simp) (AllReadyH.cons (o := _) rfl (fun K hK => ?_) AllReadyH.nil)
        go_simp
        go_at_call 48
        refine (nint_v z hz0 hz1 _).mono ?_
        rintro e vbxx ⟨tn, Bn, kn, dn, rfl, fn, hb⟩
        replace b0 := b0.below hb
        replace b1 := b1.below hb
        replace bx := bx.below hb
        replace b_y := b_y.below hb
        replace fa := fa.below hb
        replace fb := fb.below hb
        replace fx := fx.below hb
        replace fy := fy.below hb
        replace fr := fr.below hb
        replace fm := fm.below hb
        replace H0 := H0.trans (hb.mono H0.size)
        clear hb
        go_wp2_with fail
        refine hK.out _ _ ?_ (fun hHeld => ?_)
        · exact ⟨bx.cell 0 _ rfl, bx.cell 1 _ rfl⟩
        clear hK K
        (try simp only [List.getElem_toArray, List.getElem_cons_succ, List.getElem_cons_zero, Act.put, List.setIfInBounds_toArray, List.set_cons_zero, List.set_cons_succ])
        refine wpAnyH_ready (rs := [35]) (by kernel_rfl) (by simp) (AllReadyH.cons (o := _) rfl (fun K hK => ?_) AllReadyH.nil)
        go_simp
        go_at_call 49
        refine (same2_v fm fn rfl (by omega)).mono ?_
        rintro e vbxxx ⟨rfl, hb⟩
        replace b0 := b0.below hb
        replace b1 := b1.below hb
        replace bx := bx.below hb
        replace b_y := b_y.below hb
        replace fa := fa.below hb
        replace fb := fb.below hb
        replace fx := fx.below hb
        replace fy := fy.below hb
        replace fr := fr.below hb
        replace fm := fm.below hb
        replace fn := fn.below hb
        replace H0 := H0.trans (hb.mono H0.size)
        clear hb
        go_wp2_with fail
        refine hK.out _ _ ?_ (fun hHeld => ?_)
        · exact ⟨bx.cell 0 _ rfl, bx.cell 1 _ rfl⟩
        clear hK K
        (try simp only [List.getElem_toArray, List.getElem_cons_succ, List.getElem_cons_zero, Act.put, List.setIfInBounds_toArray, List.set_cons_zero, List.set_cons_succ])
        clear fm fn
        refine wpAnyH_take (i := 36) (v := ?_) rfl (by kernel_rfl) (by kernel_rfl) (by kernel_rfl) (fun _ _ _ h => h) (Or.inl ⟨by rfl, ?_⟩) (by assumption) ?_
        rotate_left
        · (intro w hSw; (try dsimp only at hSw); go_simp; (try with_reducible rfl))
        (try simp only [List.getElem_toArray, List.getElem_cons_succ, List.getElem_cons_zero, Act.put, List.setIfInBounds_toArray, List.set_cons_zero, List.set_cons_succ])
        refine wpAnyH_take (i := 37) (v := ?_) rfl (by kernel_rfl) (by kernel_rfl) (by kernel_rfl) (fun _ _ _ h => h) (Or.inl ⟨by rfl, ?_⟩) (by assumption) ?_
        rotate_left
        · (intro w hSw; (try dsimp only at hSw); go_simp; (try with_reducible rfl))
        (try simp only [List.getElem_toArray, List.getElem_cons_succ, List.getElem_cons_zero, Act.put, List.setIfInBounds_toArray, List.set_cons_zero, List.set_cons_succ])
        refine wpAnyH_done (by kernel_rfl) ?_ _
        refine NoPanic.normal ?_
        go_wp2_with fail
        have hG := drawn_below vbxxx
        replace b0 := b0.below hG
        replace b1 := b1.below hG
        replace bx := bx.below hG
        replace b_y := b_y.below hG
        replace fa := fa.below hG
        replace fb := fb.below hG
        replace fx := fx.below hG
        replace fy := fy.below hG
        replace fr := fr.below hG
        replace H0 := H0.trans (hG.mono H0.size)
        clear hG
        refine wp_region_noPanic ?_
        refine wp_region_held_drew (S := (fun V => V.cell? ⟨w.heap.size, 0, none⟩ = some (.bool s) ∧ V.cell? ⟨w.heap.size, 1, none⟩ = some (.slice A n c) ∧ V.cell? ⟨w.heap.size + 1, 0, none⟩ = some (.bool s') ∧ V.cell? ⟨w.heap.size + 1, 1, none⟩ = some (.slice A' n' c') ∧ V.cell? ⟨g7, 0, none⟩ = some (.bool t7) ∧ V.cell? ⟨g7, 1, none⟩ = some (.slice B7 k7 d7) ∧ V.cell? ⟨g8, 0, none⟩ = some (.bool t8) ∧ V.cell? ⟨g8, 1, none⟩ = some (.slice B8 k8 d8))) (by kernel_rfl) ?_ (fun hHeld => ?_)
        · exact ⟨b0.cell 0 _ rfl, b0.cell 1 _ rfl, b1.cell 0 _ rfl, b1.cell 1 _ rfl, bx.cell 0 _ rfl, bx.cell 1 _ rfl, b_y.cell 0 _ rfl, b_y.cell 1 _ rfl⟩
        generalize vbxxx.drew = vc at H0 hHeld b0 b1 bx b_y fa fb fx fy fr ⊢
        refine wpAnyH_ready (rs := [0]) (by kernel_rfl) (by simp) (AllReadyH.cons (o := _) rfl (fun K hK => ?_) AllReadyH.nil)
        go_simp
        go_at_call 43
        refine (known2_any _).mono ?_
        rintro e vcx ⟨rfl, hb⟩
        replace b0 := b0.below hb
        replace b1 := b1.below hb
        replace bx := bx.below hb
        replace b_y := b_y.below hb
        replace fa := fa.below hb
        replace fb := fb.below hb
        replace fx := fx.below hb
        replace fy := fy.below hb
        replace fr := fr.below hb
        replace H0 := H0.trans (hb.mono H0.size)
        clear hb
        go_wp2_with fail
        refine hK.out _ _ ?_ (fun hHeld => ?_)
        · exact ⟨b0.cell 0 _ rfl, b0.cell 1 _ rfl, b1.cell 0 _ rfl, b1.cell 1 _ rfl, bx.cell 0 _ rfl, bx.cell 1 _ rfl, b_y.cell 0 _ rfl, b_y.cell 1 _ rfl⟩
        clear hK K
        (try simp only [List.getElem_toArray, List.getElem_cons_zero, Act.put, List.setIfInBounds_toArray, List.set_cons_zero, List.set_cons_succ])
        refine wpAnyH_take (i := 1) (v := ?_) rfl (by kernel_rfl) (by kernel_rfl) (by kernel_rfl) (fun _ _ _ h => h) (Or.inl ⟨by rfl, ?_⟩) (by assumption) ?_
        rotate_left
        · (intro w hSw; (try dsimp only at hSw); go_simp; (try with_reducible rfl))
        (try simp only [List.getElem_toArray, List.getElem_cons_succ, List.getElem_cons_zero, Act.put, List.setIfInBounds_toArray, List.set_cons_zero, List.set_cons_succ])
        refine wpAnyH_take (i := 2) (v := ?_) rfl (by kernel_rfl) (by kernel_rfl) (by kernel_rfl) (fun _ _ _ h => h) (Or.inl ⟨by rfl, ?_⟩) (by assumption) ?_
        rotate_left
        · (intro w hSw; (try dsimp only at hSw); go_simp; (try with_reducible rfl))
        (try simp only [List.getElem_toArray, List.getElem_cons_succ, List.getElem_cons_zero, Act.put, List.setIfInBounds_toArray, List.set_cons_zero, List.set_cons_succ])
        refine wpAnyH_take (i := 4) (v := ?_) rfl (by kernel_rfl) (by kernel_rfl) (by kernel_rfl) (fun _ _ _ h => h) (Or.inl ⟨by rfl, ?_⟩) (by assumption) ?_
        rotate_left
        · (intro w hSw; (try dsimp only at hSw); go_simp; (try with_reducible rfl))
        (try simp only [List.getElem_toArray, List.getElem_cons_succ, List.getElem_cons_zero, Act.put, List.setIfInBounds_toArray, List.set_cons_zero, List.set_cons_succ])
        refine wpAnyH_ready (rs := [3]) (by kernel_rfl) (by simp) (AllReadyH.cons (o := _) rfl (fun K hK => ?_) AllReadyH.nil)
        go_simp
        go_at_call 50
        refine (inorm_v fa (by omega)).mono ?_
        rintro e vcxx ⟨tm, Bm, km, dm, rfl, fm, hb⟩
        replace b0 := b0.below hb
        replace b1 := b1.below hb
        replace bx := bx.below hb
        replace b_y := b_y.below hb
        replace fa := fa.below hb
        replace fb := fb.below hb
        replace fx := fx.below hb
        replace fy := fy.below hb
        replace fr := fr.below hb
        replace H0 := H0.trans (hb.mono H0.size)
        clear hb
        go_wp2_with fail
        refine hK.out _ _ ?_ (fun hHeld => ?_)
        · exact ⟨b0.cell 0 _ rfl, b0.cell 1 _ rfl, b1.cell 0 _ rfl, b1.cell 1 _ rfl, bx.cell 0 _ rfl, bx.cell 1 _ rfl, b_y.cell 0 _ rfl, b_y.cell 1 _ rfl⟩
        clear hK K
        (try simp only [List.getElem_toArray, List.getElem_cons_succ, List.getElem_cons_zero, Act.put, List.setIfInBounds_toArray, List.set_cons_zero, List.set_cons_succ])
        refine wpAnyH_ready (rs := [5]) (by kernel_rfl) (by simp) (AllReadyH.cons (o := _) rfl (fun K hK => ?_) AllReadyH.nil)
        go_simp
        go_at_call 49
        refine (same2_v fm fx rfl (by omega)).mono ?_
        rintro e vcxxx ⟨rfl, hb⟩
        replace b0 := b0.below hb
        replace b1 := b1.below hb
        replace bx := bx.below hb
        replace b_y := b_y.below hb
        replace fa := fa.below hb
        replace fb := fb.below hb
        replace fx := fx.below hb
        replace fy := fy.below hb
        replace fr := fr.below hb
        replace fm := fm.below hb
        replace H0 := H0.trans (hb.mono H0.size)
        clear hb
        go_wp2_with fail
        refine hK.out _ _ ?_ (fun hHeld => ?_)
        · exact ⟨b0.cell 0 _ rfl, b0.cell 1 _ rfl, b1.cell 0 _ rfl, b1.cell 1 _ rfl, bx.cell 0 _ rfl, bx.cell 1 _ rfl, b_y.cell 0 _ rfl, b_y.cell 1 _ rfl⟩
        clear hK K
        (try simp only [List.getElem_toArray, List.getElem_cons_succ, List.getElem_cons_zero, Act.put, List.setIfInBounds_toArray, List.set_cons_zero, List.set_cons_succ])
        clear fm
        refine wpAnyH_take (i := 6) (v := ?_) rfl (by kernel_rfl) (by kernel_rfl) (by kernel_rfl) (fun _ _ _ h => h) (Or.inl ⟨by rfl, ?_⟩) (by assumption) ?_
        rotate_left
        · (intro w hSw; (try dsimp only at hSw); go_simp; (try with_reducible rfl))
        (try simp only [List.getElem_toArray, List.getElem_cons_succ, List.getElem_cons_zero, Act.put, List.setIfInBounds_toArray, List.set_cons_zero, List.set_cons_succ])
        refine wpAnyH_take (i := 7) (v := ?_) rfl (by kernel_rfl) (by kernel_rfl) (by kernel_rfl) (fun _ _ _ h => h) (Or.inl ⟨by rfl, ?_⟩) (by assumption) ?_
        rotate_left
        · (intro w hSw; (try dsimp only at hSw); go_simp; (try with_reducible rfl))
        (try simp only [List.getElem_toArray, List.getElem_cons_succ, List.getElem_cons_zero, Act.put, List.setIfInBounds_toArray, List.set_cons_zero, List.set_cons_succ])
        refine wpAnyH_take (i := 8) (v := ?_) rfl (by kernel_rfl) (by kernel_rfl) (by kernel_rfl) (fun _ _ _ h => h) (Or.inl ⟨by rfl, ?_⟩) (by assumption) ?_
        rotate_left
        · (intro w hSw; (try dsimp only at hSw); go_simp; (try with_reducible rfl))
        (try simp only [List.getElem_toArray, List.getElem_cons_succ, List.getElem_cons_zero, Act.put, List.setIfInBounds_toArray, List.set_cons_zero, List.set_cons_succ])
        refine wpAnyH_take (i := 10) (v := ?_) rfl (by kernel_rfl) (by kernel_rfl) (by kernel_rfl) (fun _ _ _ h => h) (Or.inl ⟨by rfl, ?_⟩) (by assumption) ?_
        rotate_left
        · (intro w hSw; (try dsimp only at hSw); go_simp; (try with_reducible rfl))
        (try simp only [List.getElem_toArray, List.getElem_cons_succ, List.getElem_cons_zero, Act.put, List.setIfInBounds_toArray, List.set_cons_zero, List.set_cons_succ])
        refine wpAnyH_ready (rs := [9]) (by kernel_rfl) (by simp) (AllReadyH.cons (o := _) rfl (fun K hK => ?_) AllReadyH.nil)
        go_simp
        go_at_call 51
        refine (inormal_v fr).mono ?_
        rintro e vcxxxx ⟨rfl, hb⟩
        replace b0 := b0.below hb
        replace b1 := b1.below hb
        replace bx := bx.below hb
        replace b_y := b_y.below hb
        replace fa := fa.below hb
        replace fb := fb.below hb
        replace fx := fx.below hb
        replace fy := fy.below hb
        replace fr := fr.below hb
        replace H0 := H0.trans (hb.mono H0.size)
        clear hb
        go_wp2_with fail
        refine hK.out _ _ ?_ (fun hHeld => ?_)
        · exact ⟨b0.cell 0 _ rfl, b0.cell 1 _ rfl, b1.cell 0 _ rfl, b1.cell 1 _ rfl, bx.cell 0 _ rfl, bx.cell 1 _ rfl, b_y.cell 0 _ rfl, b_y.cell 1 _ rfl⟩
        clear hK K
        (try simp only [List.getElem_toArray, List.getElem_cons_succ, List.getElem_cons_zero, Act.put, List.setIfInBounds_toArray, List.set_cons_zero, List.set_cons_succ])
        refine wpAnyH_ready (rs := [11]) (by kernel_rfl) (by simp) (AllReadyH.cons (o := _) rfl (fun K hK => ?_) AllReadyH.nil)
        go_simp
        go_at_call 52
        refine (normalI_v fr).mono ?_
        rintro e vcxxxxx ⟨rfl, hb⟩
        replace b0 := b0.below hb
        replace b1 := b1.below hb
        replace bx := bx.below hb
        replace b_y := b_y.below hb
        replace fa := fa.below hb
        replace fb := fb.below hb
        replace fx := fx.below hb
        replace fy := fy.below hb
        replace fr := fr.below hb
        replace H0 := H0.trans (hb.mono H0.size)
        clear hb
        go_wp2_with fail
        refine hK.out _ _ ?_ (fun hHeld => ?_)
        · exact ⟨b0.cell 0 _ rfl, b0.cell 1 _ rfl, b1.cell 0 _ rfl, b1.cell 1 _ rfl, bx.cell 0 _ rfl, bx.cell 1 _ rfl, b_y.cell 0 _ rfl, b_y.cell 1 _ rfl⟩
        clear hK K
        (try simp only [List.getElem_toArray, List.getElem_cons_succ, List.getElem_cons_zero, Act.put, List.setIfInBounds_toArray, List.set_cons_zero, List.set_cons_succ])
        refine wpAnyH_take (i := 12) (v := ?_) rfl (by kernel_rfl) (by kernel_rfl) (by kernel_rfl) (fun _ _ _ h => h) (Or.inl ⟨by rfl, ?_⟩) (by assumption) ?_
        rotate_left
        · (intro w hSw; (try dsimp only at hSw); go_simp; (try with_reducible rfl))
        (try simp only [List.getElem_toArray, List.getElem_cons_succ, List.getElem_cons_zero, Act.put, List.setIfInBounds_toArray, List.set_cons_zero, List.set_cons_succ])
        refine wpAnyH_take (i := 13) (v := ?_) rfl (by kernel_rfl) (by kernel_rfl) (by kernel_rfl) (fun _ _ _ h => h) (Or.inl ⟨by rfl, ?_⟩) (by assumption) ?_
        rotate_left
        · (intro w hSw; (try dsimp only at hSw); go_simp; (try with_reducible rfl))
        (try simp only [List.getElem_toArray, List.getElem_cons_succ, List.getElem_cons_zero, Act.put, List.setIfInBounds_toArray, List.set_cons_zero, List.set_cons_succ])
        refine wpAnyH_take (i := 14) (v := ?_) rfl (by kernel_rfl) (by kernel_rfl) (by kernel_rfl) (fun _ _ _ h => h) (Or.inl ⟨by rfl, ?_⟩) (by assumption) ?_
        rotate_left
        · (intro w hSw; (try dsimp only at hSw); go_simp; (try with_reducible rfl))
        (try simp only [List.getElem_toArray, List.getElem_cons_succ, List.getElem_cons_zero, Act.put, List.setIfInBounds_toArray, List.set_cons_zero, List.set_cons_succ])
        refine wpAnyH_take (i := 15) (v := ?_) rfl (by kernel_rfl) (by kernel_rfl) (by kernel_rfl) (fun _ _ _ h => h) (Or.inl ⟨by rfl, ?_⟩) (by assumption) ?_
        rotate_left
        · (intro w hSw; (try dsimp only at hSw); go_simp; (try with_reducible rfl))
        (try simp only [List.getElem_toArray, List.getElem_cons_succ, List.getElem_cons_zero, Act.put, List.setIfInBounds_toArray, List.set_cons_zero, List.set_cons_succ])
        refine wpAnyH_take (i := 17) (v := ?_) rfl (by kernel_rfl) (by kernel_rfl) (by kernel_rfl) (fun _ _ _ h => h) (Or.inl ⟨by rfl, ?_⟩) (by assumption) ?_
        rotate_left
        · (intro w hSw; (try dsimp only at hSw); go_simp; (try with_reducible rfl))
        (try simp only [List.getElem_toArray, List.getElem_cons_succ, List.getElem_cons_zero, Act.put, List.setIfInBounds_toArray, List.set_cons_zero, List.set_cons_succ])
        refine wpAnyH_ready (rs := [16]) (by kernel_rfl) (by simp) (AllReadyH.cons (o := _) rfl (fun K hK => ?_) AllReadyH.nil)
        go_simp
        go_at_call 53
        refine (isign_v fa).mono ?_
        rintro e vcxxxxxx ⟨rfl, hb⟩
        replace b0 := b0.below hb
        replace b1 := b1.below hb
        replace bx := bx.below hb
        replace b_y := b_y.below hb
        replace fa := fa.below hb
        replace fb := fb.below hb
        replace fx := fx.below hb
        replace fy := fy.below hb
        replace fr := fr.below hb
        replace H0 := H0.trans (hb.mono H0.size)
        clear hb
        go_wp2_with fail
        refine hK.out _ _ ?_ (fun hHeld => ?_)
        · exact ⟨b0.cell 0 _ rfl, b0.cell 1 _ rfl, b1.cell 0 _ rfl, b1.cell 1 _ rfl, bx.cell 0 _ rfl, bx.cell 1 _ rfl, b_y.cell 0 _ rfl, b_y.cell 1 _ rfl⟩
        clear hK K
        (try simp only [List.getElem_toArray, List.getElem_cons_succ, List.getElem_cons_zero, Act.put, List.setIfInBounds_toArray, List.set_cons_zero, List.set_cons_succ])
        refine wpAnyH_ready (rs := [18]) (by kernel_rfl) (by simp) (AllReadyH.cons (o := _) rfl (fun K hK => ?_) AllReadyH.nil)
        go_simp
        go_at_call 54
        refine (nsign_v fx rfl).mono ?_
        rintro e vcxxxxxxx ⟨rfl, hb⟩
        replace b0 := b0.below hb
        replace b1 := b1.below hb
        replace bx := bx.below hb
        replace b_y := b_y.below hb
        replace fa := fa.below hb
        replace fb := fb.below hb
        replace fx := fx.below hb
        replace fy := fy.below hb
        replace fr := fr.below hb
        replace H0 := H0.trans (hb.mono H0.size)
        clear hb
        go_wp2_with fail
        refine hK.out _ _ ?_ (fun hHeld => ?_)
        · exact ⟨b0.cell 0 _ rfl, b0.cell 1 _ rfl, b1.cell 0 _ rfl, b1.cell 1 _ rfl, bx.cell 0 _ rfl, bx.cell 1 _ rfl, b_y.cell 0 _ rfl, b_y.cell 1 _ rfl⟩
        clear hK K
        (try simp only [List.getElem_toArray, List.getElem_cons_succ, List.getElem_cons_zero, Act.put, List.setIfInBounds_toArray, List.set_cons_zero, List.set_cons_succ])
        refine wpAnyH_take (i := 19) (v := ?_) rfl (by kernel_rfl) (by kernel_rfl) (by kernel_rfl) (fun _ _ _ h => h) (Or.inl ⟨by rfl, ?_⟩) (by assumption) ?_
        rotate_left
        · (intro w hSw; (try dsimp only at hSw); go_simp; (try with_reducible rfl))
        (try simp only [List.getElem_toArray, List.getElem_cons_succ, List.getElem_cons_zero, Act.put, List.setIfInBounds_toArray, List.set_cons_zero, List.set_cons_succ])
        refine wpAnyH_take (i := 20) (v := ?_) rfl (by kernel_rfl) (by kernel_rfl) (by kernel_rfl) (fun _ _ _ h => h) (Or.inl ⟨by rfl, ?_⟩) (by assumption) ?_
        rotate_left
        · (intro w hSw; (try dsimp only at hSw); go_simp; (try with_reducible rfl))
        (try simp only [List.getElem_toArray, List.getElem_cons_succ, List.getElem_cons_zero, Act.put, List.setIfInBounds_toArray, List.set_cons_zero, List.set_cons_succ])
        refine wpAnyH_take (i := 21) (v := ?_) rfl (by kernel_rfl) (by kernel_rfl) (by kernel_rfl) (fun _ _ _ h => h) (Or.inl ⟨by rfl, ?_⟩) (by assumption) ?_
        rotate_left
        · (intro w hSw; (try dsimp only at hSw); go_simp; (try with_reducible rfl))
        (try simp only [List.getElem_toArray, List.getElem_cons_succ, List.getElem_cons_zero, Act.put, List.setIfInBounds_toArray, List.set_cons_zero, List.set_cons_succ])
        refine wpAnyH_take (i := 22) (v := ?_) rfl (by kernel_rfl) (by kernel_rfl) (by kernel_rfl) (fun _ _ _ h => h) (Or.inl ⟨by rfl, ?_⟩) (by assumption) ?_
        rotate_left
        · (intro w hSw; (try dsimp only at hSw); go_simp; (try with_reducible rfl))
        (try simp only [List.getElem_toArray, List.getElem_cons_succ, List.getElem_cons_zero, Act.put, List.setIfInBounds_toArray, List.set_cons_zero, List.set_cons_succ])
        refine wpAnyH_take (i := 23) (v := ?_) rfl (by kernel_rfl) (by kernel_rfl) (by kernel_rfl) (fun _ _ _ h => h) (Or.inl ⟨by rfl, ?_⟩) (by assumption) ?_
        rotate_left
        · (intro w hSw; (try dsimp only at hSw); go_simp; (try with_reducible rfl))
        (try simp only [List.getElem_toArray, List.getElem_cons_succ, List.getElem_cons_zero, Act.put, List.setIfInBounds_toArray, List.set_cons_zero, List.set_cons_succ])
        refine wpAnyH_take (i := 25) (v := ?_) rfl (by kernel_rfl) (by kernel_rfl) (by kernel_rfl) (fun _ _ _ h => h) (Or.inl ⟨by rfl, ?_⟩) (by assumption) ?_
        rotate_left
        · (intro w hSw; (try dsimp only at hSw); go_simp; (try with_reducible rfl))
        (try simp only [List.getElem_toArray, List.getElem_cons_succ, List.getElem_cons_zero, Act.put, List.setIfInBounds_toArray, List.set_cons_zero, List.set_cons_succ])
        refine wpAnyH_take (i := 26) (v := ?_) rfl (by kernel_rfl) (by kernel_rfl) (by kernel_rfl) (fun _ _ _ h => h) (Or.inl ⟨by rfl, ?_⟩) (by assumption) ?_
        rotate_left
        · (intro w hSw; (try dsimp only at hSw); go_simp; (try with_reducible rfl))
        (try simp only [List.getElem_toArray, List.getElem_cons_succ, List.getElem_cons_zero, Act.put, List.setIfInBounds_toArray, List.set_cons_zero, List.set_cons_succ])
        refine wpAnyH_ready (rs := [24]) (by kernel_rfl) (by simp) (AllReadyH.cons (o := _) rfl (fun K hK => ?_) AllReadyH.nil)
        go_simp
        go_at_call 55
        refine (icmp_v fa fb).mono ?_
        rintro e vcxxxxxxxx ⟨rfl, hb⟩
        replace b0 := b0.below hb
        replace b1 := b1.below hb
        replace bx := bx.below hb
        replace b_y := b_y.below hb
        replace fa := fa.below hb
        replace fb := fb.below hb
        replace fx := fx.below hb
        replace fy := fy.below hb
        replace fr := fr.below hb
        replace H0 := H0.trans (hb.mono H0.size)
        clear hb
        go_wp2_with fail
        refine hK.out _ _ ?_ (fun hHeld => ?_)
        · exact ⟨b0.cell 0 _ rfl, b0.cell 1 _ rfl, b1.cell 0 _ rfl, b1.cell 1 _ rfl, bx.cell 0 _ rfl, bx.cell 1 _ rfl, b_y.cell 0 _ rfl, b_y.cell 1 _ rfl⟩
        clear hK K
        (try simp only [List.getElem_toArray, List.getElem_cons_succ, List.getElem_cons_zero, Act.put, List.setIfInBounds_toArray, List.set_cons_zero, List.set_cons_succ])
        refine wpAnyH_ready (rs := [27]) (by kernel_rfl) (by simp) (AllReadyH.cons (o := _) rfl (fun K hK => ?_) AllReadyH.nil)
        go_simp
        go_at_call 47
        refine (ncompare_v fx fy (by omega) (by omega) rfl).mono ?_
        rintro e vcxxxxxxxxx ⟨rfl, hb⟩
        replace b0 := b0.below hb
        replace b1 := b1.below hb
        replace bx := bx.below hb
        replace b_y := b_y.below hb
        replace fa := fa.below hb
        replace fb := fb.below hb
        replace fx := fx.below hb
        replace fy := fy.below hb
        replace fr := fr.below hb
        replace H0 := H0.trans (hb.mono H0.size)
        clear hb
        go_wp2_with fail
        refine hK.out _ _ ?_ (fun hHeld => ?_)
        · exact ⟨b0.cell 0 _ rfl, b0.cell 1 _ rfl, b1.cell 0 _ rfl, b1.cell 1 _ rfl, bx.cell 0 _ rfl, bx.cell 1 _ rfl, b_y.cell 0 _ rfl, b_y.cell 1 _ rfl⟩
        clear hK K
        (try simp only [List.getElem_toArray, List.getElem_cons_succ, List.getElem_cons_zero, Act.put, List.setIfInBounds_toArray, List.set_cons_zero, List.set_cons_succ])
        refine wpAnyH_take (i := 28) (v := ?_) rfl (by kernel_rfl) (by kernel_rfl) (by kernel_rfl) (fun _ _ _ h => h) (Or.inl ⟨by rfl, ?_⟩) (by assumption) ?_
        rotate_left
        · (intro w hSw; (try dsimp only at hSw); go_simp; (try with_reducible rfl))
        (try simp only [List.getElem_toArray, List.getElem_cons_succ, List.getElem_cons_zero, Act.put, List.setIfInBounds_toArray, List.set_cons_zero, List.set_cons_succ])
        refine wpAnyH_take (i := 29) (v := ?_) rfl (by kernel_rfl) (by kernel_rfl) (by kernel_rfl) (fun _ _ _ h => h) (Or.inl ⟨by rfl, ?_⟩) (by assumption) ?_
        rotate_left
        · (intro w hSw; (try dsimp only at hSw); go_simp; (try with_reducible rfl))
        (try simp only [List.getElem_toArray, List.getElem_cons_succ, List.getElem_cons_zero, Act.put, List.setIfInBounds_toArray, List.set_cons_zero, List.set_cons_succ])
        refine wpAnyH_take (i := 30) (v := ?_) rfl (by kernel_rfl) (by kernel_rfl) (by kernel_rfl) (fun _ _ _ h => h) (Or.inl ⟨by rfl, ?_⟩) (by assumption) ?_
        rotate_left
        · (intro w hSw; (try dsimp only at hSw); go_simp; (try with_reducible rfl))
        (try simp only [List.getElem_toArray, List.getElem_cons_succ, List.getElem_cons_zero, Act.put, List.setIfInBounds_toArray, List.set_cons_zero, List.set_cons_succ])
        refine wpAnyH_done (by kernel_rfl) ?_ _
        refine NoPanic.normal ?_
        go_wp2_with fail
        go_returns
        exact ⟨rfl, H0⟩
      · have q1 : decide ((0 : Int) ≤ p1) = true := decide_eq_true (by omega)
        have q2 : decide (p2 ≤ (0 : Int)) = true := decide_eq_true (by omega)
        have HI0 := Lib.hid (show -9223372036854775808 ≤ za by omega)
        have HI1 := Lib.hid (show za ≤ 9223372036854775807 by omega)
        clear c1 c2 hlo hhi
        have a0 := b0.cell 0 _ rfl
        have a1 := b0.cell 1 _ rfl
        go_wp2_with fail
        refine (int64_in fa HI0.out HI1.out).mono ?_
        rintro e w1 ⟨rfl, hb⟩
        replace b0 := b0.below hb
        replace b1 := b1.below hb
        replace bx := bx.below hb
        replace b_y := b_y.below hb
        replace fa := fa.below hb
        replace fb := fb.below hb
        replace fx := fx.below hb
        replace fy := fy.below hb
        replace fr := fr.below hb
        replace H0 := H0.trans (hb.mono H0.size)
        clear hb
        clear a0 a1
        go_wp2_with fail
        refine (ifromint_v z hz0 hz1 _).mono ?_
        rintro e w2 ⟨t, B, k, d, rfl, fz, hb⟩
        replace b0 := b0.below hb
        replace b1 := b1.below hb
        replace bx := bx.below hb
        replace b_y := b_y.below hb
        replace fa := fa.below hb
        replace fb := fb.below hb
        replace fx := fx.below hb
        replace fy := fy.below hb
        replace fr := fr.below hb
        replace H0 := H0.trans (hb.mono H0.size)
        clear hb
        go_wp2_with fail
        refine (int64_in fz.ri hz0 hz1).mono ?_
        rintro e w3 ⟨rfl, hb⟩
        replace b0 := b0.below hb
        replace b1 := b1.below hb
        replace bx := bx.below hb
        replace b_y := b_y.below hb
        replace fa := fa.below hb
        replace fb := fb.below hb
        replace fx := fx.below hb
        replace fy := fy.below hb
        replace fr := fr.below hb
        replace H0 := H0.trans (hb.mono H0.size)
        clear hb
        clear fz
        go_wp2_with fail
        have hG := drawn_below w3
        replace b0 := b0.below hG
        replace b1 := b1.below hG
        replace bx := bx.below hG
        replace b_y := b_y.below hG
        replace fa := fa.below hG
        replace fb := fb.below hG
        replace fx := fx.below hG
        replace fy := fy.below hG
        replace fr := fr.below hG
        replace H0 := H0.trans (hG.mono H0.size)
        clear hG
        refine wp_region_noPanic ?_
        refine wp_region_held_drew (S := (fun V => V.cell? ⟨g7, 0, none⟩ = some (.bool t7) ∧ V.cell? ⟨g7, 1, none⟩ = some (.slice B7 k7 d7))) (by kernel_rfl) ?_ (fun hHeld => ?_)
        · exact ⟨bx.cell 0 _ rfl, bx.cell 1 _ rfl⟩
        generalize w3.drew = va at H0 hHeld b0 b1 bx b_y fa fb fx fy fr ⊢
        refine wpAnyH_take (i := 0) (v := ?_) rfl (by kernel_rfl) (by kernel_rfl) (by kernel_rfl) (fun _ _ _ h => h) (Or.inl ⟨by rfl, ?_⟩) (by assumption) ?_
        rotate_left
        · (intro w hSw; (try dsimp only at hSw); go_simp; (try with_reducible rfl))
        (try simp only [List.getElem_toArray, List.getElem_cons_zero, Act.put, List.setIfInBounds_toArray, List.set_cons_zero, List.set_cons_succ])
        refine wpAnyH_ready (rs := [1]) (by kernel_rfl) (by simp) (AllReadyH.cons (o := _) rfl (fun K hK => ?_) AllReadyH.nil)
        go_simp
        go_at_call 48
        refine (nint_v (-9223372036854775808) (by omega) (by omega) _).mono ?_
        rintro e vax ⟨tm, Bm, km, dm, rfl, fm, hb⟩
        replace b0 := b0.below hb
        replace b1 := b1.below hb
        replace bx := bx.below hb
        replace b_y := b_y.below hb
        replace fa := fa.below hb
        replace fb := fb.below hb
        replace fx := fx.below hb
        replace fy := fy.below hb
        replace fr := fr.below hb
        replace H0 := H0.trans (hb.mono H0.size)
        clear hb
        go_wp2_with fail
        refine hK.out _ _ ?_ (fun hHeld => ?_)
        · exact ⟨bx.cell 0 _ rfl, bx.cell 1 _ rfl⟩
        clear hK K
        (try simp only [List.getElem_toArray, List.getElem_cons_succ, List.getElem_cons_zero, Act.put, List.setIfInBounds_toArray, List.set_cons_zero, List.set_cons_succ])
        refine wpAnyH_ready (rs := [2]) (by kernel_rfl) (by simp) (AllReadyH.cons (o := _) rfl (fun K hK => ?_) AllReadyH.nil)
        go_simp
        go_at_call 47
        refine (ncompare_v fx fm (by omega) (by omega) HK1.out).mono ?_
        rintro e vaxx ⟨rfl, hb⟩
        replace b0 := b0.below hb
        replace b1 := b1.below hb
        replace bx := bx.below hb
        replace b_y := b_y.below hb
        replace fa := fa.below hb
        replace fb := fb.below hb
        replace fx := fx.below hb
        replace fy := fy.below hb
        replace fr := fr.below hb
        replace fm := fm.below hb
        replace H0 := H0.trans (hb.mono H0.size)
        clear hb
        go_wp2_with fail
        refine hK.out _ _ ?_ (fun hHeld => ?_)
        · exact ⟨bx.cell 0 _ rfl, bx.cell 1 _ rfl⟩
        clear hK K
        (try simp only [List.getElem_toArray, List.getElem_cons_succ, List.getElem_cons_zero, Act.put, List.setIfInBounds_toArray, List.set_cons_zero, List.set_cons_succ])
        clear fm
        refine wpAnyH_take (i := 3) (v := ?_) rfl (by kernel_rfl) (by kernel_rfl) (by kernel_rfl) (fun _ _ _ h => h) (Or.inl ⟨by rfl, ?_⟩) (by assumption) ?_
        rotate_left
        · (intro w hSw; (try dsimp only at hSw); go_simp; (try with_reducible rfl))
        (try simp only [List.getElem_toArray, List.getElem_cons_succ, List.getElem_cons_zero, Act.put, List.setIfInBounds_toArray, List.set_cons_zero, List.set_cons_succ])
        refine wpAnyH_take (i := 4) (v := ?_) rfl (by kernel_rfl) (by kernel_rfl) (by kernel_rfl) (fun _ _ _ h => h) (Or.inl ⟨by rfl, ?_⟩) (by assumption) ?_
        rotate_left
        · (intro w hSw; (try dsimp only at hSw); go_simp; (try with_reducible rfl))
        (try simp only [List.getElem_toArray, List.getElem_cons_succ, List.getElem_cons_zero, Act.put, List.setIfInBounds_toArray, List.set_cons_zero, List.set_cons_succ])
        refine wpAnyH_take (i := 5) (v := ?_) rfl (by kernel_rfl) (by kernel_rfl) (by kernel_rfl) (fun _ _ _ h => h) (Or.inl ⟨by rfl, ?_⟩) (by assumption) ?_
        rotate_left
        · (intro w hSw; (try dsimp only at hSw); go_simp; (try with_reducible rfl))
        (try simp only [List.getElem_toArray, List.getElem_cons_succ, List.getElem_cons_zero, Act.put, List.setIfInBounds_toArray, List.set_cons_zero, List.set_cons_succ])
        refine wpAnyH_ready (rs := [6]) (by kernel_rfl) (by simp) (AllReadyH.cons (o := _) rfl (fun K hK => ?_) AllReadyH.nil)
        go_simp
        go_at_call 48
        refine (nint_v 9223372036854775807 (by omega) (by omega) _).mono ?_
        rintro e vaxxx ⟨tm, Bm, km, dm, rfl, fm, hb⟩
        replace b0 := b0.below hb
        replace b1 := b1.below hb
        replace bx := bx.below hb
        replace b_y := b_y.below hb
        replace fa := fa.below hb
        replace fb := fb.below hb
        replace fx := fx.below hb
        replace fy := fy.below hb
        replace fr := fr.below hb
        replace H0 := H0.trans (hb.mono H0.size)
        clear hb
        go_wp2_with fail
        refine hK.out _ _ ?_ (fun hHeld => ?_)
        · exact ⟨bx.cell 0 _ rfl, bx.cell 1 _ rfl⟩
        clear hK K
        (try simp only [List.getElem_toArray, List.getElem_cons_succ, List.getElem_cons_zero, Act.put, List.setIfInBounds_toArray, List.set_cons_zero, List.set_cons_succ])
        refine wpAnyH_ready (rs := [7]) (by kernel_rfl) (by simp) (AllReadyH.cons (o := _) rfl (fun K hK => ?_) AllReadyH.nil)
        go_simp
        go_at_call 47
        refine (ncompare_v fx fm (by omega) (by omega) HK2.out).mono ?_
        rintro e vaxxxx ⟨rfl, hb⟩
        replace b0 := b0.below hb
        replace b1 := b1.below hb
        replace bx := bx.below hb
        replace b_y := b_y.below hb
        replace fa := fa.below hb
        replace fb := fb.below hb
        replace fx := fx.below hb
        replace fy := fy.below hb
        replace fr := fr.below hb
        replace fm := fm.below hb
        replace H0 := H0.trans (hb.mono H0.size)
        clear hb
        go_wp2_with fail
        refine hK.out _ _ ?_ (fun hHeld => ?_)
        · exact ⟨bx.cell 0 _ rfl, bx.cell 1 _ rfl⟩
        clear hK K
        (try simp only [List.getElem_toArray, List.getElem_cons_succ, List.getElem_cons_zero, Act.put, List.setIfInBounds_toArray, List.set_cons_zero, List.set_cons_succ])
        clear fm
        refine wpAnyH_take (i := 8) (v := ?_) rfl (by kernel_rfl) (by kernel_rfl) (by kernel_rfl) (fun _ _ _ h => h) (Or.inl ⟨by rfl, ?_⟩) (by assumption) ?_
        rotate_left
        · (intro w hSw; (try dsimp only at hSw); go_simp; (try with_reducible rfl))
        (try simp only [List.getElem_toArray, List.getElem_cons_succ, List.getElem_cons_zero, Act.put, List.setIfInBounds_toArray, List.set_cons_zero, List.set_cons_succ])
        refine wpAnyH_take (i := 9) (v := ?_) rfl (by kernel_rfl) (by kernel_rfl) (by kernel_rfl) (fun _ _ _ h => h) (Or.inl ⟨by rfl, ?_⟩) (by assumption) ?_
        rotate_left
        · (intro w hSw; (try dsimp only at hSw); go_simp; (try with_reducible rfl))
        (try simp only [List.getElem_toArray, List.getElem_cons_succ, List.getElem_cons_zero, Act.put, List.setIfInBounds_toArray, List.set_cons_zero, List.set_cons_succ])
        refine wpAnyH_take (i := 10) (v := ?_) rfl (by kernel_rfl) (by kernel_rfl) (by kernel_rfl) (fun _ _ _ h => h) (Or.inl ⟨by rfl, ?_⟩) (by assumption) ?_
        rotate_left
        · (intro w hSw; (try dsimp only at hSw); go_simp; (try with_reducible rfl))
        (try simp only [List.getElem_toArray, List.getElem_cons_succ, List.getElem_cons_zero, Act.put, List.setIfInBounds_toArray, List.set_cons_zero, List.set_cons_succ])
        refine wpAnyH_done (by kernel_rfl) ?_ _
        refine NoPanic.normal ?_
        go_wp2_with fail
        have hG := drawn_below vaxxxx
        replace b0 := b0.below hG
        replace b1 := b1.below hG
        replace bx := bx.below hG
        replace b_y := b_y.below hG
        replace fa := fa.below hG
        replace fb := fb.below hG
        replace fx := fx.below hG
        replace fy := fy.below hG
        replace fr := fr.below hG
        replace H0 := H0.trans (hG.mono H0.size)
        clear hG
        refine wp_region_noPanic ?_
        refine wp_region_held_drew (S := (fun V => V.cell? ⟨g7, 0, none⟩ = some (.bool t7) ∧ V.cell? ⟨g7, 1, none⟩ = some (.slice B7 k7 d7))) (by kernel_rfl) ?_ (fun hHeld => ?_)
        · exact ⟨bx.cell 0 _ rfl, bx.cell 1 _ rfl⟩
        generalize vaxxxx.drew = vb at H0 hHeld b0 b1 bx b_y fa fb fx fy fr ⊢
        refine wpAnyH_take (i := 0) (v := ?_) rfl (by kernel_rfl) (by kernel_rfl) (by kernel_rfl) (fun _ _ _ h => h) (Or.inl ⟨by rfl, ?_⟩) (by assumption) ?_
        rotate_left
        · (intro w hSw; (try dsimp only at hSw); go_simp; (try with_reducible rfl))
        (try simp only [List.getElem_toArray, List.getElem_cons_zero, Act.put, List.setIfInBounds_toArray, List.set_cons_zero, List.set_cons_succ])
        refine wpAnyH_take (i := 1) (v := ?_) rfl (by kernel_rfl) (by kernel_rfl) (by kernel_rfl) (fun _ _ _ h => h) (Or.inl ⟨by rfl, ?_⟩) (by assumption) ?_
        rotate_left
        · (intro w hSw; (try dsimp only at hSw); go_simp; (try with_reducible rfl))
        (try simp only [List.getElem_toArray, List.getElem_cons_succ, List.getElem_cons_zero, Act.put, List.setIfInBounds_toArray, List.set_cons_zero, List.set_cons_succ])
        refine wpAnyH_take (i := 2) (v := ?_) rfl (by kernel_rfl) (by kernel_rfl) (by kernel_rfl) (fun _ _ _ h => h) (Or.inl ⟨by rfl, ?_⟩) (by assumption) ?_
        rotate_left
        · (intro w hSw; (try dsimp only at hSw); go_simp; (try with_reducible rfl))
        (try simp only [List.getElem_toArray, List.getElem_cons_succ, List.getElem_cons_zero, Act.put, List.setIfInBounds_toArray, List.set_cons_zero, List.set_cons_succ])
        refine wpAnyH_take (i := 3) (v := ?_) rfl (by kernel_rfl) (by kernel_rfl) (by kernel_rfl) (fun _ _ _ h => h) (Or.inl ⟨by rfl, ?_⟩) (by assumption) ?_
        rotate_left
        · (intro w hSw; (try dsimp only at hSw); go_simp; (try with_reducible rfl))
        (try simp only [List.getElem_toArray, List.getElem_cons_succ, List.getElem_cons_zero, Act.put, List.setIfInBounds_toArray, List.set_cons_zero, List.set_cons_succ])
        refine wpAnyH_take (i := 4) (v := ?_) rfl (by kernel_rfl) (by kernel_rfl) (by kernel_rfl) (fun _ _ _ h => h) (Or.inl ⟨by rfl, ?_⟩) (by assumption) ?_
        rotate_left
        · (intro w hSw; (try dsimp only at hSw); go_simp; (try with_reducible rfl))
        (try simp only [List.getElem_toArray, List.getElem_cons_succ, List.getElem_cons_zero, Act.put, List.setIfInBounds_toArray, List.set_cons_zero, List.set_cons_succ])
        refine wpAnyH_take (i := 5) (v := ?_) rfl (by kernel_rfl) (by kernel_rfl) (by kernel_rfl) (fun _ _ _ h => h) (Or.inl ⟨by rfl, ?_⟩) (by assumption) ?_
        rotate_left
        · (intro w hSw; (try dsimp only at hSw); go_simp; (try with_reducible rfl))
        (try simp only [List.getElem_toArray, List.getElem_cons_succ, List.getElem_cons_zero, Act.put, List.setIfInBounds_toArray, List.set_cons_zero, List.set_cons_succ])
        refine wpAnyH_take (i := 6) (v := ?_) rfl (by kernel_rfl) (by kernel_rfl) (by kernel_rfl) (fun _ _ _ h => h) (Or.inl ⟨by rfl, ?_⟩) (by assumption) ?_
        rotate_left
        · (intro w hSw; (try dsimp only at hSw); go_simp; (try with_reducible rfl))
        (try simp only [List.getElem_toArray, List.getElem_cons_succ, List.getElem_cons_zero, Act.put, List.setIfInBounds_toArray, List.set_cons_zero, List.set_cons_succ])
        refine wpAnyH_take (i := 8) (v := ?_) rfl (by kernel_rfl) (by kernel_rfl) (by kernel_rfl) (fun _ _ _ h => h) (Or.inl ⟨by rfl, ?_⟩) (by assumption) ?_
        rotate_left
        · (intro w hSw; (try dsimp only at hSw); go_simp; (try with_reducible rfl))
        (try simp only [List.getElem_toArray, List.getElem_cons_succ, List.getElem_cons_zero, Act.put, List.setIfInBounds_toArray, List.set_cons_zero, List.set_cons_succ])
        refine wpAnyH_ready (rs := [7]) (by kernel_rfl) (by simp) (AllReadyH.cons (o := _) rfl (fun K hK => ?_) AllReadyH.nil)
        go_simp
        go_at_call 46
        refine (ifromint_v za HI0.out HI1.out _).mono ?_
        rintro e vbx ⟨tm, Bm, km, dm, rfl, fm, hb⟩
        replace b0 := b0.below hb
        replace b1 := b1.below hb
        replace bx := bx.below hb
        replace b_y := b_y.below hb
        replace fa := fa.below hb
        replace fb := fb.below hb
        replace fx := fx.below hb
        replace fy := fy.below hb
        replace fr := fr.below hb
        replace H0 := H0.trans (hb.mono H0.size)
        clear hb
        go_wp2_with fail
        refine hK.out _ _ ?_ (fun hHeld => ?_)
        · exact ⟨bx.cell 0 _ rfl, bx.cell 1 _ rfl⟩
        clear hK K
        (try simp only [List.getElem_toArray, List.getElem_cons_succ, List.getElem_cons_zero, Act.put, List.setIfInBounds_toArray, List.set_cons_zero, List.set_cons_succ])
        refine wpAnyH_ready (rs := [9]) (by kernel_rfl) (by simp) (AllReadyH.cons (o := _) rfl (fun K hK => ?_) AllReadyH.nil)
        go_simp
        go_at_call 49
        refine (same2_v fm fx rfl (by omega)).mono ?_
        rintro e vbxx ⟨rfl, hb⟩
        replace b0 := b0.below hb
        replace b1 := b1.below hb
        replace bx := bx.below hb
        replace b_y := b_y.below hb
        replace fa := fa.below hb
        replace fb := fb.below hb
        replace fx := fx.below hb
        replace fy := fy.below hb
        replace fr := fr.below hb
        replace fm := fm.below hb
        replace H0 := H0.trans (hb.mono H0.size)
        clear hb
        go_wp2_with fail
        refine hK.out _ _ ?_ (fun hHeld => ?_)
        · exact ⟨bx.cell 0 _ rfl, bx.cell 1 _ rfl⟩
        clear hK K
        (try simp only [List.getElem_toArray, List.getElem_cons_succ, List.getElem_cons_zero, Act.put, List.setIfInBounds_toArray, List.set_cons_zero, List.set_cons_succ])
        clear fm
        refine wpAnyH_take (i := 10) (v := ?_) rfl (by kernel_rfl) (by kernel_rfl) (by kernel_rfl) (fun _ _ _ h => h) (Or.inl ⟨by rfl, ?_⟩) (by assumption) ?_
        rotate_left
        · (intro w hSw; (try dsimp only at hSw); go_simp; (try with_reducible rfl))
        (try simp only [List.getElem_toArray, List.getElem_cons_succ, List.getElem_cons_zero, Act.put, List.setIfInBounds_toArray, List.set_cons_zero, List.set_cons_succ])
        refine wpAnyH_take (i := 11) (v := ?_) rfl (by kernel_rfl) (by kernel_rfl) (by kernel_rfl) (fun _ _ _ h => h) (Or.inl ⟨by rfl, ?_⟩) (by assumption) ?_
        rotate_left
        · (intro w hSw; (try dsimp only at hSw); go_simp; (try with_reducible rfl))
        (try simp only [List.getElem_toArray, List.getElem_cons_succ, List.getElem_cons_zero, Act.put, List.setIfInBounds_toArray, List.set_cons_zero, List.set_cons_succ])
        refine wpAnyH_take (i := 12) (v := ?_) rfl (by kernel_rfl) (by kernel_rfl) (by kernel_rfl) (fun _ _ _ h => h) (Or.inl ⟨by rfl, ?_⟩) (by assumption) ?_
        rotate_left
        · (intro w hSw; (try dsimp only at hSw); go_simp; (try with_reducible rfl))
        (try simp only [List.getElem_toArray, List.getElem_cons_succ, List.getElem_cons_zero, Act.put, List.setIfInBounds_toArray, List.set_cons_zero, List.set_cons_succ])
        refine wpAnyH_take (i := 13) (v := ?_) rfl (by kernel_rfl) (by kernel_rfl) (by kernel_rfl) (fun _ _ _ h => h) (Or.inl ⟨by rfl, ?_⟩) (by assumption) ?_
        rotate_left
        · (intro w hSw; (try dsimp only at hSw); go_simp; (try with_reducible rfl))
        (try simp only [List.getElem_toArray, List.getElem_cons_succ, List.getElem_cons_zero, Act.put, List.setIfInBounds_toArray, List.set_cons_zero, List.set_cons_succ])
        refine wpAnyH_take (i := 14) (v := ?_) rfl (by kernel_rfl) (by kernel_rfl) (by kernel_rfl) (fun _ _ _ h => h) (Or.inl ⟨by rfl, ?_⟩) (by assumption) ?_
        rotate_left
        · (intro w hSw; (try dsimp only at hSw); go_simp; (try with_reducible rfl))
        (try simp only [List.getElem_toArray, List.getElem_cons_succ, List.getElem_cons_zero, Act.put, List.setIfInBounds_toArray, List.set_cons_zero, List.set_cons_succ])
        refine wpAnyH_take (i := 15) (v := ?_) rfl (by kernel_rfl) (by kernel_rfl) (by kernel_rfl) (fun _ _ _ h => h) (Or.inl ⟨by rfl, ?_⟩) (by assumption) ?_
        rotate_left
        · (intro w hSw; (try dsimp only at hSw); go_simp; (try with_reducible rfl))
        (try simp only [List.getElem_toArray, List.getElem_cons_succ, List.getElem_cons_zero, Act.put, List.setIfInBounds_toArray, List.set_cons_zero, List.set_cons_succ])
        refine wpAnyH_take (i := 16) (v := ?_) rfl (by kernel_rfl) (by kernel_rfl) (by kernel_rfl) (fun _ _ _ h => h) (Or.inl ⟨by rfl, ?_⟩) (by assumption) ?_
        rotate_left
        · (intro w hSw; (try dsimp only at hSw); go_simp; (try with_reducible rfl))
        (try simp only [List.getElem_toArray, List.getElem_cons_succ, List.getElem_cons_zero, Act.put, List.setIfInBounds_toArray, List.set_cons_zero, List.set_cons_succ])
        refine wpAnyH_take (i := 17) (v := undef) rfl (by kernel_rfl) (by kernel_rfl) (by kernel_rfl) (fun _ _ _ h => h) (Or.inr ⟨by rfl, rfl⟩) (by assumption) ?_
        (try simp only [List.getElem_toArray, List.getElem_cons_succ, List.getElem_cons_zero, Act.put, List.setIfInBounds_toArray, List.set_cons_zero, List.set_cons_succ])
        refine wpAnyH_take (i := 18) (v := undef) rfl (by kernel_rfl) (by kernel_rfl) (by kernel_rfl) (fun _ _ _ h => h) (Or.inr ⟨by rfl, rfl⟩) (by assumption) ?_
        (try simp only [List.getElem_toArray, List.getElem_cons_succ, List.getElem_cons_zero, Act.put, List.setIfInBounds_toArray, List.set_cons_zero, List.set_cons_succ])
        refine wpAnyH_take (i := 19) (v := ?_) rfl (by kernel_rfl) (by kernel_rfl) (by kernel_rfl) (fun _ _ _ h => h) (Or.inl ⟨by rfl, ?_⟩) (by assumption) ?_
        rotate_left
        · (intro w hSw; (try dsimp only at hSw); go_simp; (try with_reducible rfl))
        (try simp only [List.getElem_toArray, List.getElem_cons_succ, List.getElem_cons_zero, Act.put, List.setIfInBounds_toArray, List.set_cons_zero, List.set_cons_succ])
        refine wpAnyH_take (i := 20) (v := ?_) rfl (by kernel_rfl) (by kernel_rfl) (by kernel_rfl) (fun _ _ _ h => h) (Or.inl ⟨by rfl, ?_⟩) (by assumption) ?_
        rotate_left
        · (intro w hSw; (try dsimp only at hSw); go_simp; (try with_reducible rfl))
        (try simp only [List.getElem_toArray, List.getElem_cons_succ, List.getElem_cons_zero, Act.put, List.setIfInBounds_toArray, List.set_cons_zero, List.set_cons_succ])
        refine wpAnyH_take (i := 21) (v := ?_) rfl (by kernel_rfl) (by kernel_rfl) (by kernel_rfl) (fun _ _ _ h => h) (Or.inl ⟨by rfl, ?_⟩) (by assumption) ?_
        rotate_left
        · (intro w hSw; (try dsimp only at hSw); go_simp; (try with_reducible rfl))
        (try simp only [List.getElem_toArray, List.getElem_cons_succ, List.getElem_cons_zero, Act.put, List.setIfInBounds_toArray, List.set_cons_zero, List.set_cons_succ])
        refine wpAnyH_take (i := 22) (v := ?_) rfl (by kernel_rfl) (by kernel_rfl) (by kernel_rfl) (fun _ _ _ h => h) (Or.inl ⟨by rfl, ?_⟩) (by assumption) ?_
        rotate_left
        · (intro w hSw; (try dsimp only at hSw); go_simp; (try with_reducible rfl))
        (try simp only [List.getElem_toArray, List.getElem_cons_succ, List.getElem_cons_zero, Act.put, List.setIfInBounds_toArray, List.set_cons_zero, List.set_cons_succ])
        refine wpAnyH_take (i := 23) (v := ?_) rfl (by kernel_rfl) (by kernel_rfl) (by kernel_rfl) (fun _ _ _ h => h) (Or.inl ⟨by rfl, ?_⟩) (by assumption) ?_
        rotate_left
        · (intro w hSw; (try dsimp only at hSw); go_simp; (try with_reducible rfl))
        (try simp only [List.getElem_toArray, List.getElem_cons_succ, List.getElem_cons_zero, Act.put, List.setIfInBounds_toArray, List.set_cons_zero, List.set_cons_succ])
        refine wpAnyH_take (i := 24) (v := ?_) rfl (by kernel_rfl) (by kernel_rfl) (by kernel_rfl) (fun _ _ _ h => h) (Or.inl ⟨by rfl, ?_⟩) (by assumption) ?_
        rotate_left
        · (intro w hSw; (try dsimp only at hSw); go_simp; (try with_reducible rfl))
        (try simp only [List.getElem_toArray, List.getElem_cons_succ, List.getElem_cons_zero, Act.put, List.setIfInBounds_toArray, List.set_cons_zero, List.set_cons_succ])
        refine wpAnyH_take (i := 25) (v := ?_) rfl (by kernel_rfl) (by kernel_rfl) (by kernel_rfl) (fun _ _ _ h => h) (Or.inl ⟨by rfl, ?_⟩) (by assumption) ?_
        rotate_left
        · (intro w hSw; (try dsimp only at hSw); go_simp; (try with_reducible rfl))
        (try simp only [List.getElem_toArray, List.getElem_cons_succ, List.getElem_cons_zero, Act.put, List.setIfInBounds_toArray, List.set_cons_zero, List.set_cons_succ])
        refine wpAnyH_take (i := 26) (v := ?_) rfl (by kernel_rfl) (by kernel_rfl) (by kernel_rfl) (fun _ _ _ h => h) (Or.inl ⟨by rfl, ?_⟩) (by assumption) ?_
        rotate_left
        · (intro w hSw; (try dsimp only at hSw); go_simp; (try with_reducible rfl))
        (try simp only [List.getElem_toArray, List.getElem_cons_succ, List.getElem_cons_zero, Act.put, List.setIfInBounds_toArray, List.set_cons_zero, List.set_cons_succ])
        refine wpAnyH_take (i := 27) (v := ?_) rfl (by kernel_rfl) (by kernel_rfl) (by kernel_rfl) (fun _ _ _ h => h) (Or.inl ⟨by rfl, ?_⟩) (by assumption) ?_
        rotate_left
        · (intro w hSw; (try dsimp only at hSw); go_simp; (try with_reducible rfl))
        (try simp only [List.getElem_toArray, List.getElem_cons_succ, List.getElem_cons_zero, Act.put, List.setIfInBounds_toArray, List.set_cons_zero, List.set_cons_succ])
        refine wpAnyH_take (i := 28) (v := ?_) rfl (by kernel_rfl) (by kernel_rfl) (by kernel_rfl) (fun _ _ _ h => h) (Or.inl ⟨by rfl, ?_⟩) (by assumption) ?_
        rotate_left
        · (intro w hSw; (try dsimp only at hSw); go_simp; (try with_reducible rfl))
        (try simp only [List.getElem_toArray, List.getElem_cons_succ, List.getElem_cons_zero, Act.put, List.setIfInBounds_toArray, List.set_cons_zero, List.set_cons_succ])
        refine wpAnyH_take (i := 29) (v := ?_) rfl (by kernel_rfl) (by kernel_rfl) (by kernel_rfl) (fun _ _ _ h => h) (Or.inl ⟨by rfl, ?_⟩) (by assumption) ?_
        rotate_left
        · (intro w hSw; (try dsimp only at hSw); go_simp; (try with_reducible rfl))
        (try simp only [List.getElem_toArray, List.getElem_cons_succ, List.getElem_cons_zero, Act.put, List.setIfInBounds_toArray, List.set_cons_zero, List.set_cons_succ])
        refine wpAnyH_take (i := 30) (v := ?_) rfl (by kernel_rfl) (by kernel_rfl) (by kernel_rfl) (fun _ _ _ h => h) (Or.inl ⟨by rfl, ?_⟩) (by assumption) ?_
        rotate_left
        · (intro w hSw; (try dsimp only at hSw); go_simp; (try with_reducible rfl))
        (try simp only [List.getElem_toArray, List.getElem_cons_succ, List.getElem_cons_zero, Act.put, List.setIfInBounds_toArray, List.set_cons_zero, List.set_cons_succ])
        refine wpAnyH_take (i := 31) (v := ?_) rfl (by kernel_rfl) (by kernel_rfl) (by kernel_rfl) (fun _ _ _ h => h) (Or.inl ⟨by rfl, ?_⟩) (by assumption) ?_
        rotate_left
        · (intro w hSw; (try dsimp only at hSw); go_simp; (try with_reducible rfl))
        (try simp only [List.getElem_toArray, List.getElem_cons_succ, List.getElem_cons_zero, Act.put, List.setIfInBounds_toArray, List.set_cons_zero, List.set_cons_succ])
        refine wpAnyH_take (i := 33) (v := ?_) rfl (by kernel_rfl) (by kernel_rfl) (by kernel_rfl) (fun _ _ _ h => h) (Or.inl ⟨by rfl, ?_⟩) (by assumption) ?_
        rotate_left
        · (intro w hSw; (try dsimp only at hSw); go_simp; (try with_reducible rfl))
        (try simp only [List.getElem_toArray, List.getElem_cons_succ, List.getElem_cons_zero, Act.put, List.setIfInBounds_toArray, List.set_cons_zero, List.set_cons_succ])
        refine wpAnyH_ready (rs := [32]) (by kernel_rfl) (by simp) (AllReadyH.cons (o := _) rfl (fun K hK => ?_) AllReadyH.nil)
        go_simp
        go_at_call 46
        refine (ifromint_v z hz0 hz1 _).mono ?_
        rintro e vbxxx ⟨tm, Bm, km, dm, rfl, fm, hb⟩
        replace b0 := b0.below hb
        replace b1 := b1.below hb
        replace bx := bx.below hb
        replace b_y := b_y.below hb
        replace fa := fa.below hb
        replace fb := fb.below hb
        replace fx := fx.below hb
        replace fy := fy.below hb
        replace fr := fr.below hb
        replace H0 := H0.trans (hb.mono H0.size)
        clear hb
        go_wp2_with fail
        refine hK.out _ _ ?_ (fun hHeld => ?_)
        · exact ⟨bx.cell 0 _ rfl, bx.cell 1 _ rfl⟩
        clear hK K
        (try simp only [List.getElem_toArray, List.getElem_cons_succ, List.getElem_cons_zero, Act.put, List.setIfInBounds_toArray, List.set_cons_zero, List.set_cons_succ])
        refine wpAnyH_ready (rs := [34]) (by kernel_rfl) (by simp) (AllReadyH.cons (o := _) rfl (fun K hK => ?_) AllReadyH.nil)
        go_simp
        go_at_call 48
        refine (nint_v z hz0 hz1 _).mono ?_
        rintro e vbxxxx ⟨tn, Bn, kn, dn, rfl, fn, hb⟩
        replace b0 := b0.below hb
        replace b1 := b1.below hb
        replace bx := bx.below hb
        replace b_y := b_y.below hb
        replace fa := fa.below hb
        replace fb := fb.below hb
        replace fx := fx.below hb
        replace fy := fy.below hb
        replace fr := fr.below hb
        replace fm := fm.below hb
        replace H0 := H0.trans (hb.mono H0.size)
        clear hb
        go_wp2_with fail
        refine hK.out _ _ ?_ (fun hHeld => ?_)
        · exact ⟨bx.cell 0 _ rfl, bx.cell 1 _ rfl⟩
        clear hK K
        (try simp only [List.getElem_toArray, List.getElem_cons_succ, List.getElem_cons_zero, Act.put, List.setIfInBounds_toArray, List.set_cons_zero, List.set_cons_succ])
        refine wpAnyH_ready (rs := [35]) (by kernel_rfl) (by simp) (AllReadyH.cons (o := _) rfl (fun K hK => ?_) AllReadyH.nil)
        go_simp
        go_at_call 49
        refine (same2_v fm fn rfl (by omega)).mono ?_
        rintro e vbxxxxx ⟨rfl, hb⟩
        replace b0 := b0.below hb
        replace b1 := b1.below hb
        replace bx := bx.below hb
        replace b_y := b_y.below hb
        replace fa := fa.below hb
        replace fb := fb.below hb
        replace fx := fx.below hb
        replace fy := fy.below hb
        replace fr := fr.below hb
        replace fm := fm.below hb
        replace fn := fn.below hb
        replace H0 := H0.trans (hb.mono H0.size)
        clear hb
        go_wp2_with fail
        refine hK.out _ _ ?_ (fun hHeld => ?_)
        · exact ⟨bx.cell 0 _ rfl, bx.cell 1 _ rfl⟩
        clear hK K
        (try simp only [List.getElem_toArray, List.getElem_cons_succ, List.getElem_cons_zero, Act.put, List.setIfInBounds_toArray, List.set_cons_zero, List.set_cons_succ])
        clear fm fn
        refine wpAnyH_take (i := 36) (v := ?_) rfl (by kernel_rfl) (by kernel_rfl) (by kernel_rfl) (fun _ _ _ h => h) (Or.inl ⟨by rfl, ?_⟩) (by assumption) ?_
        rotate_left
        · (intro w hSw; (try dsimp only at hSw); go_simp; (try with_reducible rfl))
        (try simp only [List.getElem_toArray, List.getElem_cons_succ, List.getElem_cons_zero, Act.put, List.setIfInBounds_toArray, List.set_cons_zero, List.set_cons_succ])
        refine wpAnyH_take (i := 37) (v := ?_) rfl (by kernel_rfl) (by kernel_rfl) (by kernel_rfl) (fun _ _ _ h => h) (Or.inl ⟨by rfl, ?_⟩) (by assumption) ?_
        rotate_left
        · (intro w hSw; (try dsimp only at hSw); go_simp; (try with_reducible rfl))
        (try simp only [List.getElem_toArray, List.getElem_cons_succ, List.getElem_cons_zero, Act.put, List.setIfInBounds_toArray, List.set_cons_zero, List.set_cons_succ])
        refine wpAnyH_done (by kernel_rfl) ?_ _
        refine NoPanic.normal ?_
        go_wp2_with fail
        have hG := drawn_below vbxxxxx
        replace b0 := b0.below hG
        replace b1 := b1.below hG
        replace bx := bx.below hG
        replace b_y := b_y.below hG
        replace fa := fa.below hG
        replace fb := fb.below hG
        replace fx := fx.below hG
        replace fy := fy.below hG
        replace fr := fr.below hG
        replace H0 := H0.trans (hG.mono H0.size)
        clear hG
        refine wp_region_noPanic ?_
        refine wp_region_held_drew (S := (fun V => V.cell? ⟨w.heap.size, 0, none⟩ = some (.bool s) ∧ V.cell? ⟨w.heap.size, 1, none⟩ = some (.slice A n c) ∧ V.cell? ⟨w.heap.size + 1, 0, none⟩ = some (.bool s') ∧ V.cell? ⟨w.heap.size + 1, 1, none⟩ = some (.slice A' n' c') ∧ V.cell? ⟨g7, 0, none⟩ = some (.bool t7) ∧ V.cell? ⟨g7, 1, none⟩ = some (.slice B7 k7 d7) ∧ V.cell? ⟨g8, 0, none⟩ = some (.bool t8) ∧ V.cell? ⟨g8, 1, none⟩ = some (.slice B8 k8 d8))) (by kernel_rfl) ?_ (fun hHeld => ?_)
        · exact ⟨b0.cell 0 _ rfl, b0.cell 1 _ rfl, b1.cell 0 _ rfl, b1.cell 1 _ rfl, bx.cell 0 _ rfl, bx.cell 1 _ rfl, b_y.cell 0 _ rfl, b_y.cell 1 _ rfl⟩
        generalize vbxxxxx.drew = vc at H0 hHeld b0 b1 bx b_y fa fb fx fy fr ⊢
        refine wpAnyH_ready (rs := [0]) (by kernel_rfl) (by simp) (AllReadyH.cons (o := _) rfl (fun K hK => ?_) AllReadyH.nil)
        go_simp
        go_at_call 43
        refine (known2_any _).mono ?_
        rintro e vcx ⟨rfl, hb⟩
        replace b0 := b0.below hb
        replace b1 := b1.below hb
        replace bx := bx.below hb
        replace b_y := b_y.below hb
        replace fa := fa.below hb
        replace fb := fb.below hb
        replace fx := fx.below hb
        replace fy := fy.below hb
        replace fr := fr.below hb
        replace H0 := H0.trans (hb.mono H0.size)
        clear hb
        go_wp2_with fail
        refine hK.out _ _ ?_ (fun hHeld => ?_)
        · exact ⟨b0.cell 0 _ rfl, b0.cell 1 _ rfl, b1.cell 0 _ rfl, b1.cell 1 _ rfl, bx.cell 0 _ rfl, bx.cell 1 _ rfl, b_y.cell 0 _ rfl, b_y.cell 1 _ rfl⟩
        clear hK K
        (try simp only [List.getElem_toArray, List.getElem_cons_zero, Act.put, List.setIfInBounds_toArray, List.set_cons_zero, List.set_cons_succ])
        refine wpAnyH_take (i := 1) (v := ?_) rfl (by kernel_rfl) (by kernel_rfl) (by kernel_rfl) (fun _ _ _ h => h) (Or.inl ⟨by rfl, ?_⟩) (by assumption) ?_
        rotate_left
        · (intro w hSw; (try dsimp only at hSw); go_simp; (try with_reducible rfl))
        (try simp only [List.getElem_toArray, List.getElem_cons_succ, List.getElem_cons_zero, Act.put, List.setIfInBounds_toArray, List.set_cons_zero, List.set_cons_succ])
        refine wpAnyH_take (i := 2) (v := ?_) rfl (by kernel_rfl) (by kernel_rfl) (by kernel_rfl) (fun _ _ _ h => h) (Or.inl ⟨by rfl, ?_⟩) (by assumption) ?_
        rotate_left
        · (intro w hSw; (try dsimp only at hSw); go_simp; (try with_reducible rfl))
        (try simp only [List.getElem_toArray, List.getElem_cons_succ, List.getElem_cons_zero, Act.put, List.setIfInBounds_toArray, List.set_cons_zero, List.set_cons_succ])
        refine wpAnyH_take (i := 4) (v := ?_) rfl (by kernel_rfl) (by kernel_rfl) (by kernel_rfl) (fun _ _ _ h => h) (Or.inl ⟨by rfl, ?_⟩) (by assumption) ?_
        rotate_left
        · (intro w hSw; (try dsimp only at hSw); go_simp; (try with_reducible rfl))
        (try simp only [List.getElem_toArray, List.getElem_cons_succ, List.getElem_cons_zero, Act.put, List.setIfInBounds_toArray, List.set_cons_zero, List.set_cons_succ])
        refine wpAnyH_ready (rs := [3]) (by kernel_rfl) (by simp) (AllReadyH.cons (o := _) rfl (fun K hK => ?_) AllReadyH.nil)
        go_simp
        go_at_call 50
        refine (inorm_v fa (by omega)).mono ?_
        rintro e vcxx ⟨tm, Bm, km, dm, rfl, fm, hb⟩
        replace b0 := b0.below hb
        replace b1 := b1.below hb
        replace bx := bx.below hb
        replace b_y := b_y.below hb
        replace fa := fa.below hb
        replace fb := fb.below hb
        replace fx := fx.below hb
        replace fy := fy.below hb
        replace fr := fr.below hb
        replace H0 := H0.trans (hb.mono H0.size)
        clear hb
        go_wp2_with fail
        refine hK.out _ _ ?_ (fun hHeld => ?_)
        · exact ⟨b0.cell 0 _ rfl, b0.cell 1 _ rfl, b1.cell 0 _ rfl, b1.cell 1 _ rfl, bx.cell 0 _ rfl, bx.cell 1 _ rfl, b_y.cell 0 _ rfl, b_y.cell 1 _ rfl⟩
        clear hK K
        (try simp only [List.getElem_toArray, List.getElem_cons_succ, List.getElem_cons_zero, Act.put, List.setIfInBounds_toArray, List.set_cons_zero, List.set_cons_succ])
        refine wpAnyH_ready (rs := [5]) (by kernel_rfl) (by simp) (AllReadyH.cons (o := _) rfl (fun K hK => ?_) AllReadyH.nil)
        go_simp
        go_at_call 49
        refine (same2_v fm fx rfl (by omega)).mono ?_
        rintro e vcxxx ⟨rfl, hb⟩
        replace b0 := b0.below hb
        replace b1 := b1.below hb
        replace bx := bx.below hb
        replace b_y := b_y.below hb
        replace fa := fa.below hb
        replace fb := fb.below hb
        replace fx := fx.below hb
        replace fy := fy.below hb
        replace fr := fr.below hb
        replace fm := fm.below hb
        replace H0 := H0.trans (hb.mono H0.size)
        clear hb
        go_wp2_with fail
        refine hK.out _ _ ?_ (fun hHeld => ?_)
        · exact ⟨b0.cell 0 _ rfl, b0.cell 1 _ rfl, b1.cell 0 _ rfl, b1.cell 1 _ rfl, bx.cell 0 _ rfl, bx.cell 1 _ rfl, b_y.cell 0 _ rfl, b_y.cell 1 _ rfl⟩
        clear hK K
        (try simp only [List.getElem_toArray, List.getElem_cons_succ, List.getElem_cons_zero, Act.put, List.setIfInBounds_toArray, List.set_cons_zero, List.set_cons_succ])
        clear fm
        refine wpAnyH_take (i := 6) (v := ?_) rfl (by kernel_rfl) (by kernel_rfl) (by kernel_rfl) (fun _ _ _ h => h) (Or.inl ⟨by rfl, ?_⟩) (by assumption) ?_
        rotate_left
        · (intro w hSw; (try dsimp only at hSw); go_simp; (try with_reducible rfl))
        (try simp only [List.getElem_toArray, List.getElem_cons_succ, List.getElem_cons_zero, Act.put, List.setIfInBounds_toArray, List.set_cons_zero, List.set_cons_succ])
        refine wpAnyH_take (i := 7) (v := ?_) rfl (by kernel_rfl) (by kernel_rfl) (by kernel_rfl) (fun _ _ _ h => h) (Or.inl ⟨by rfl, ?_⟩) (by assumption) ?_
        rotate_left
        · (intro w hSw; (try dsimp only at hSw); go_simp; (try with_reducible rfl))
        (try simp only [List.getElem_toArray, List.getElem_cons_succ, List.getElem_cons_zero, Act.put, List.setIfInBounds_toArray, List.set_cons_zero, List.set_cons_succ])
        refine wpAnyH_take (i := 8) (v := ?_) rfl (by kernel_rfl) (by kernel_rfl) (by kernel_rfl) (fun _ _ _ h => h) (Or.inl ⟨by rfl, ?_⟩) (by assumption) ?_
        rotate_left
        · (intro w hSw; (try dsimp only at hSw); go_simp; (try with_reducible rfl))
        (try simp only [List.getElem_toArray, List.getElem_cons_succ, List.getElem_cons_zero, Act.put, List.setIfInBounds_toArray, List.set_cons_zero, List.set_cons_succ])
        refine wpAnyH_take (i := 10) (v := ?_) rfl (by kernel_rfl) (by kernel_rfl) (by kernel_rfl) (fun _ _ _ h => h) (Or.inl ⟨by rfl, ?_⟩) (by assumption) ?_
        rotate_left
        · (intro w hSw; (try dsimp only at hSw); go_simp; (try with_reducible rfl))
        (try simp only [List.getElem_toArray, List.getElem_cons_succ, List.getElem_cons_zero, Act.put, List.setIfInBounds_toArray, List.set_cons_zero, List.set_cons_succ])
        refine wpAnyH_ready (rs := [9]) (by kernel_rfl) (by simp) (AllReadyH.cons (o := _) rfl (fun K hK => ?_) AllReadyH.nil)
        go_simp
        go_at_call 51
        refine (inormal_v fr).mono ?_
        rintro e vcxxxx ⟨rfl, hb⟩
        replace b0 := b0.below hb
        replace b1 := b1.below hb
        replace bx := bx.below hb
        replace b_y := b_y.below hb
        replace fa := fa.below hb
        replace fb := fb.below hb
        replace fx := fx.below hb
        replace fy := fy.below hb
        replace fr := fr.below hb
        replace H0 := H0.trans (hb.mono H0.size)
        clear hb
        go_wp2_with fail
        refine hK.out _ _ ?_ (fun hHeld => ?_)
        · exact ⟨b0.cell 0 _ rfl, b0.cell 1 _ rfl, b1.cell 0 _ rfl, b1.cell 1 _ rfl, bx.cell 0 _ rfl, bx.cell 1 _ rfl, b_y.cell 0 _ rfl, b_y.cell 1 _ rfl⟩
        clear hK K
        (try simp only [List.getElem_toArray, List.getElem_cons_succ, List.getElem_cons_zero, Act.put, List.setIfInBounds_toArray, List.set_cons_zero, List.set_cons_succ])
        refine wpAnyH_ready (rs := [11]) (by kernel_rfl) (by simp) (AllReadyH.cons (o := _) rfl (fun K hK => ?_) AllReadyH.nil)
        go_simp
        go_at_call 52
        refine (normalI_v fr).mono ?_
        rintro e vcxxxxx ⟨rfl, hb⟩
        replace b0 := b0.below hb
        replace b1 := b1.below hb
        replace bx := bx.below hb
        replace b_y := b_y.below hb
        replace fa := fa.below hb
        replace fb := fb.below hb
        replace fx := fx.below hb
        replace fy := fy.below hb
        replace fr := fr.below hb
        replace H0 := H0.trans (hb.mono H0.size)
        clear hb
        go_wp2_with fail
        refine hK.out _ _ ?_ (fun hHeld => ?_)
        · exact ⟨b0.cell 0 _ rfl, b0.cell 1 _ rfl, b1.cell 0 _ rfl, b1.cell 1 _ rfl, bx.cell 0 _ rfl, bx.cell 1 _ rfl, b_y.cell 0 _ rfl, b_y.cell 1 _ rfl⟩
        clear hK K
        (try simp only [List.getElem_toArray, List.getElem_cons_succ, List.getElem_cons_zero, Act.put, List.setIfInBounds_toArray, List.set_cons_zero, List.set_cons_succ])
        refine wpAnyH_take (i := 12) (v := ?_) rfl (by kernel_rfl) (by kernel_rfl) (by kernel_rfl) (fun _ _ _ h => h) (Or.inl ⟨by rfl, ?_⟩) (by assumption) ?_
        rotate_left
        · (intro w hSw; (try dsimp only at hSw); go_simp; (try with_reducible rfl))
        (try simp only [List.getElem_toArray, List.getElem_cons_succ, List.getElem_cons_zero, Act.put, List.setIfInBounds_toArray, List.set_cons_zero, List.set_cons_succ])
        refine wpAnyH_take (i := 13) (v := ?_) rfl (by kernel_rfl) (by kernel_rfl) (by kernel_rfl) (fun _ _ _ h => h) (Or.inl ⟨by rfl, ?_⟩) (by assumption) ?_
        rotate_left
        · (intro w hSw; (try dsimp only at hSw); go_simp; (try with_reducible rfl))
        (try simp only [List.getElem_toArray, List.getElem_cons_succ, List.getElem_cons_zero, Act.put, List.setIfInBounds_toArray, List.set_cons_zero, List.set_cons_succ])
        refine wpAnyH_take (i := 14) (v := ?_) rfl (by kernel_rfl) (by kernel_rfl) (by kernel_rfl) (fun _ _ _ h => h) (Or.inl ⟨by rfl, ?_⟩) (by assumption) ?_
        rotate_left
        · (intro w hSw; (try dsimp only at hSw); go_simp; (try with_reducible rfl))
        (try simp only [List.getElem_toArray, List.getElem_cons_succ, List.getElem_cons_zero, Act.put, List.setIfInBounds_toArray, List.set_cons_zero, List.set_cons_succ])
        refine wpAnyH_take (i := 15) (v := ?_) rfl (by kernel_rfl) (by kernel_rfl) (by kernel_rfl) (fun _ _ _ h => h) (Or.inl ⟨by rfl, ?_⟩) (by assumption) ?_
        rotate_left
        · (intro w hSw; (try dsimp only at hSw); go_simp; (try with_reducible rfl))
        (try simp only [List.getElem_toArray, List.getElem_cons_succ, List.getElem_cons_zero, Act.put, List.setIfInBounds_toArray, List.set_cons_zero, List.set_cons_succ])
        refine wpAnyH_take (i := 17) (v := ?_) rfl (by kernel_rfl) (by kernel_rfl) (by kernel_rfl) (fun _ _ _ h => h) (Or.inl ⟨by rfl, ?_⟩) (by assumption) ?_
        rotate_left
        · (intro w hSw; (try dsimp only at hSw); go_simp; (try with_reducible rfl))
        (try simp only [List.getElem_toArray, List.getElem_cons_succ, List.getElem_cons_zero, Act.put, List.setIfInBounds_toArray, List.set_cons_zero, List.set_cons_succ])
        refine wpAnyH_ready (rs := [16]) (by kernel_rfl) (by simp) (AllReadyH.cons (o := _) rfl (fun K hK => ?_) AllReadyH.nil)
        go_simp
        go_at_call 53
        refine (isign_v fa).mono ?_
        rintro e vcxxxxxx ⟨rfl, hb⟩
        replace b0 := b0.below hb
        replace b1 := b1.below hb
        replace bx := bx.below hb
        replace b_y := b_y.below hb
        replace fa := fa.below hb
        replace fb := fb.below hb
        replace fx := fx.below hb
        replace fy := fy.below hb
        replace fr := fr.below hb
        replace H0 := H0.trans (hb.mono H0.size)
        clear hb
        go_wp2_with fail
        refine hK.out _ _ ?_ (fun hHeld => ?_)
        · exact ⟨b0.cell 0 _ rfl, b0.cell 1 _ rfl, b1.cell 0 _ rfl, b1.cell 1 _ rfl, bx.cell 0 _ rfl, bx.cell 1 _ rfl, b_y.cell 0 _ rfl, b_y.cell 1 _ rfl⟩
        clear hK K
        (try simp only [List.getElem_toArray, List.getElem_cons_succ, List.getElem_cons_zero, Act.put, List.setIfInBounds_toArray, List.set_cons_zero, List.set_cons_succ])
        refine wpAnyH_ready (rs := [18]) (by kernel_rfl) (by simp) (AllReadyH.cons (o := _) rfl (fun K hK => ?_) AllReadyH.nil)
        go_simp
        go_at_call 54
        refine (nsign_v fx rfl).mono ?_
        rintro e vcxxxxxxx ⟨rfl, hb⟩
        replace b0 := b0.below hb
        replace b1 := b1.below hb
        replace bx := bx.below hb
        replace b_y := b_y.below hb
        replace fa := fa.below hb
        replace fb := fb.below hb
        replace fx := fx.below hb
        replace fy := fy.below hb
        replace fr := fr.below hb
        replace H0 := H0.trans (hb.mono H0.size)
        clear hb
        go_wp2_with fail
        refine hK.out _ _ ?_ (fun hHeld => ?_)
        · exact ⟨b0.cell 0 _ rfl, b0.cell 1 _ rfl, b1.cell 0 _ rfl, b1.cell 1 _ rfl, bx.cell 0 _ rfl, bx.cell 1 _ rfl, b_y.cell 0 _ rfl, b_y.cell 1 _ rfl⟩
        clear hK K
        (try simp only [List.getElem_toArray, List.getElem_cons_succ, List.getElem_cons_zero, Act.put, List.setIfInBounds_toArray, List.set_cons_zero, List.set_cons_succ])
        refine wpAnyH_take (i := 19) (v := ?_) rfl (by kernel_rfl) (by kernel_rfl) (by kernel_rfl) (fun _ _ _ h => h) (Or.inl ⟨by rfl, ?_⟩) (by assumption) ?_
        rotate_left
        · (intro w hSw; (try dsimp only at hSw); go_simp; (try with_reducible rfl))
        (try simp only [List.getElem_toArray, List.getElem_cons_succ, List.getElem_cons_zero, Act.put, List.setIfInBounds_toArray, List.set_cons_zero, List.set_cons_succ])
        refine wpAnyH_take (i := 20) (v := ?_) rfl (by kernel_rfl) (by kernel_rfl) (by kernel_rfl) (fun _ _ _ h => h) (Or.inl ⟨by rfl, ?_⟩) (by assumption) ?_
        rotate_left
        · (intro w hSw; (try dsimp only at hSw); go_simp; (try with_reducible rfl))
        (try simp only [List.getElem_toArray, List.getElem_cons_succ, List.getElem_cons_zero, Act.put, List.setIfInBounds_toArray, List.set_cons_zero, List.set_cons_succ])
        refine wpAnyH_take (i := 21) (v := ?_) rfl (by kernel_rfl) (by kernel_rfl) (by kernel_rfl) (fun _ _ _ h => h) (Or.inl ⟨by rfl, ?_⟩) (by assumption) ?_
        rotate_left
        · (intro w hSw; (try dsimp only at hSw); go_simp; (try with_reducible rfl))
        (try simp only [List.getElem_toArray, List.getElem_cons_succ, List.getElem_cons_zero, Act.put, List.setIfInBounds_toArray, List.set_cons_zero, List.set_cons_succ])
        refine wpAnyH_take (i := 22) (v := ?_) rfl (by kernel_rfl) (by kernel_rfl) (by kernel_rfl) (fun _ _ _ h => h) (Or.inl ⟨by rfl, ?_⟩) (by assumption) ?_
        rotate_left
        · (intro w hSw; (try dsimp only at hSw); go_simp; (try with_reducible rfl))
        (try simp only [List.getElem_toArray, List.getElem_cons_succ, List.getElem_cons_zero, Act.put, List.setIfInBounds_toArray, List.set_cons_zero, List.set_cons_succ])
        refine wpAnyH_take (i := 23) (v := ?_) rfl (by kernel_rfl) (by kernel_rfl) (by kernel_rfl) (fun _ _ _ h => h) (Or.inl ⟨by rfl, ?_⟩) (by assumption) ?_
        rotate_left
        · (intro w hSw; (try dsimp only at hSw); go_simp; (try with_reducible rfl))
        (try simp only [List.getElem_toArray, List.getElem_cons_succ, List.getElem_cons_zero, Act.put, List.setIfInBounds_toArray, List.set_cons_zero, List.set_cons_succ])
        refine wpAnyH_take (i := 25) (v := ?_) rfl (by kernel_rfl) (by kernel_rfl) (by kernel_rfl) (fun _ _ _ h => h) (Or.inl ⟨by rfl, ?_⟩) (by assumption) ?_
        rotate_left
        · (intro w hSw; (try dsimp only at hSw); go_simp; (try with_reducible rfl))
        (try simp only [List.getElem_toArray, List.getElem_cons_succ, List.getElem_cons_zero, Act.put, List.setIfInBounds_toArray, List.set_cons_zero, List.set_cons_succ])
        refine wpAnyH_take (i := 26) (v := ?_) rfl (by kernel_rfl) (by kernel_rfl) (by kernel_rfl) (fun _ _ _ h => h) (Or.inl ⟨by rfl, ?_⟩) (by assumption) ?_
        rotate_left
        · (intro w hSw; (try dsimp only at hSw); go_simp; (try with_reducible rfl))
        (try simp only [List.getElem_toArray, List.getElem_cons_succ, List.getElem_cons_zero, Act.put, List.setIfInBounds_toArray, List.set_cons_zero, List.set_cons_succ])
        refine wpAnyH_ready (rs := [24]) (by kernel_rfl) (by simp) (AllReadyH.cons (o := _) rfl (fun K hK => ?_) AllReadyH.nil)
        go_simp
        go_at_call 55
        refine (icmp_v fa fb).mono ?_
        rintro e vcxxxxxxxx ⟨rfl, hb⟩
        replace b0 := b0.below hb
        replace b1 := b1.below hb
        replace bx := bx.below hb
        replace b_y := b_y.below hb
        replace fa := fa.below hb
        replace fb := fb.below hb
        replace fx := fx.below hb
        replace fy := fy.below hb
        replace fr := fr.below hb
        replace H0 := H0.trans (hb.mono H0.size)
        clear hb
        go_wp2_with fail
        refine hK.out _ _ ?_ (fun hHeld => ?_)
        · exact ⟨b0.cell 0 _ rfl, b0.cell 1 _ rfl, b1.cell 0 _ rfl, b1.cell 1 _ rfl, bx.cell 0 _ rfl, bx.cell 1 _ rfl, b_y.cell 0 _ rfl, b_y.cell 1 _ rfl⟩
        clear hK K
        (try simp only [List.getElem_toArray, List.getElem_cons_succ, List.getElem_cons_zero, Act.put, List.setIfInBounds_toArray, List.set_cons_zero, List.set_cons_succ])
        refine wpAnyH_ready (rs := [27]) (by kernel_rfl) (by simp) (AllReadyH.cons (o := _) rfl (fun K hK => ?_) AllReadyH.nil)
        go_simp
        go_at_call 47
        refine (ncompare_v fx fy (by omega) (by omega) rfl).mono ?_
        rintro e vcxxxxxxxxx ⟨rfl, hb⟩
        replace b0 := b0.below hb
        replace b1 := b1.below hb
        replace bx := bx.below hb
        replace b_y := b_y.below hb
        replace fa := fa.below hb
        replace fb := fb.below hb
        replace fx := fx.below hb
        replace fy := fy.below hb
        replace fr := fr.below hb
        replace H0 := H0.trans (hb.mono H0.size)
        clear hb
        go_wp2_with fail
        refine hK.out _ _ ?_ (fun hHeld => ?_)
        · exact ⟨b0.cell 0 _ rfl, b0.cell 1 _ rfl, b1.cell 0 _ rfl, b1.cell 1 _ rfl, bx.cell 0 _ rfl, bx.cell 1 _ rfl, b_y.cell 0 _ rfl, b_y.cell 1 _ rfl⟩
        clear hK K
        (try simp only [List.getElem_toArray, List.getElem_cons_succ, List.getElem_cons_zero, Act.put, List.setIfInBounds_toArray, List.set_cons_zero, List.set_cons_succ])
        refine wpAnyH_take (i := 28) (v := ?_) rfl (by kernel_rfl) (by kernel_rfl) (by kernel_rfl) (fun _ _ _ h => h) (Or.inl ⟨by rfl, ?_⟩) (by assumption) ?_
        rotate_left
        · (intro w hSw; (try dsimp only at hSw); go_simp; (try with_reducible rfl))
        (try simp only [List.getElem_toArray, List.getElem_cons_succ, List.getElem_cons_zero, Act.put, List.setIfInBounds_toArray, List.set_cons_zero, List.set_cons_succ])
        refine wpAnyH_take (i := 29) (v := ?_) rfl (by kernel_rfl) (by kernel_rfl) (by kernel_rfl) (fun _ _ _ h => h) (Or.inl ⟨by rfl, ?_⟩) (by assumption) ?_
        rotate_left
        · (intro w hSw; (try dsimp only at hSw); go_simp; (try with_reducible rfl))
        (try simp only [List.getElem_toArray, List.getElem_cons_succ, List.getElem_cons_zero, Act.put, List.setIfInBounds_toArray, List.set_cons_zero, List.set_cons_succ])
        refine wpAnyH_take (i := 30) (v := ?_) rfl (by kernel_rfl) (by kernel_rfl) (by kernel_rfl) (fun _ _ _ h => h) (Or.inl ⟨by rfl, ?_⟩) (by assumption) ?_
        rotate_left
        · (intro w hSw; (try dsimp only at hSw); go_simp; (try with_reducible rfl))
        (try simp only [List.getElem_toArray, List.getElem_cons_succ, List.getElem_cons_zero, Act.put, List.setIfInBounds_toArray, List.set_cons_zero, List.set_cons_succ])
        refine wpAnyH_done (by kernel_rfl) ?_ _
        refine NoPanic.normal ?_
        go_wp2_with fail
        go_returns
        exact ⟨rfl, H0⟩
end Go.Proofs.YtacfdcfkfjildaaDoor
