/-
  The walk of the law IntegerComputes, out of the contracts of what it calls.
-/
import Derived.Test.YtkhfadfjkmhpgaaDoorBigG
import Derived.Deep.Cut
namespace Go.Proofs.YtkhfadfjkmhpgaaDoor
open Go.RowKit

theorem samen_v {A A' : Option Addr} {n n' c c' x y L L' : Nat} {w : World} (h : NV w (.slice A n c) x L) (h' : NV w (.slice A' n' c') y L') (he : x = y) :
    Calls Tryd.prog 11 #[.slice A n c, .slice A' n' c'] w fun e w' => e = .returned (.bool true) ∧ Below w.heap.size w w' := by
  subst he
  refine (same_true h.1 h'.1).mono ?_
  rintro e w' ⟨rfl, j, rfl⟩
  exact ⟨rfl, below_drewN (Below.refl _ w) j⟩
theorem NI_zero0 (w : World) : NI w false (.slice none 0 0) 0 1 := ⟨⟨num_zero _ _, Bs_pos 1⟩, rfl⟩
theorem qr_floor {z z' q r : Int} (h : QR z z' q r) : (¬ z' < 0 → q = z / (z'.natAbs : Int)) ∧ (z' < 0 → q = -(z / (z'.natAbs : Int))) ∧ r = sg false (z % (z'.natAbs : Int)).toNat := by
  rw [sg_false]
  obtain ⟨h1, h2, h3⟩ := h
  have hp : (0 : Int) < (z'.natAbs : Int) := by omega
  rcases Int.lt_or_le z' 0 with hn | hn
  · have e : (z'.natAbs : Int) = -z' := by omega
    obtain ⟨u1, u2⟩ := (Int.ediv_emod_unique (a := z) (b := (z'.natAbs : Int)) (q := -q) (r := r) hp).2 ⟨by rw [e, Int.neg_mul_neg, h1, Int.mul_comm]; omega, h2, h3⟩
    exact ⟨fun h => absurd hn h, fun _ => by omega, by omega⟩
  · have e : (z'.natAbs : Int) = z' := by omega
    obtain ⟨u1, u2⟩ := (Int.ediv_emod_unique (a := z) (b := (z'.natAbs : Int)) (q := q) (r := r) hp).2 ⟨by rw [e, h1, Int.mul_comm]; omega, h2, h3⟩
    exact ⟨fun _ => by omega, fun h => by omega, by omega⟩
section
variable {A A' : Option Addr} {n n' c c' x L L' : Nat} {s s' : Bool} {z z' : Int} {w : World}
theorem ton_i (h : NI w s (.slice A n c) z L) (hL : L ≤ 1000000) :
    Calls Tryd.prog 13 #[.slice A n c] w fun e w' => ∃ B k d, e = .returned (.slice B k d) ∧ NV w' (.slice B k d) z.natAbs L ∧ Below w.heap.size w w' := ton_v h.1.1 h.1.2 hL
theorem ton_n (h : NV w (.slice A n c) x L) (hL : L ≤ 1000000) :
    Calls Tryd.prog 13 #[.slice A n c] w fun e w' => ∃ B k d, e = .returned (.slice B k d) ∧ NV w' (.slice B k d) x L ∧ Below w.heap.size w w' := ton_v h.1 h.2 hL
theorem ncommon_i (h : NI w s (.slice A n c) z L) (h' : NI w s' (.slice A' n' c') z' L') (hL : L ≤ 1000) (hL' : L' ≤ 1000) :
    Calls Tryd.prog 20 #[.slice A n c, .slice A' n' c'] w fun e w' => ∃ B k d, e = .returned (.slice B k d) ∧ NV w' (.slice B k d) (Nat.gcd z.natAbs z'.natAbs) (max L L') ∧ Below w.heap.size w w' := ncommon_v h.1 h'.1 hL hL'
end
set_option maxRecDepth 100000 in
set_option maxHeartbeats 16000000 in
theorem integercomputes_any {v : Value} {w : World} (HI : Ints w v) : Calls Tryd.prog 3 #[v] w fun e w' => e = .returned (.bool true) ∧ Below w.heap.size w w' := by
  go_enter Tryd.func3, Tryd.ntmps3
  go_wp2_with fail
  refine (new_any HI).mono ?_
  rintro e w1 ⟨rfl, hT, H0, hsz⟩
  have hlt : w.heap.size < w1.heap.size := by omega
  clear hsz
  go_wp2_with fail
  refine (made_v hT hlt).mono ?_
  rintro e w2 ⟨z0, s0, B0, k0, d0, rfl, f0, hT, hg⟩
  replace hlt := Nat.lt_of_lt_of_le hlt hg.size
  replace H0 := H0.grown hg H0.size (by rintro k hk; injection hk with hk; omega)
  clear hg
  go_wp2_with fail
  refine (made_v hT hlt).mono ?_
  rintro e w3 ⟨z1, s1, B1, k1, d1, rfl, f1, hT, hg⟩
  replace f0 := f0.other hg
  replace hlt := Nat.lt_of_lt_of_le hlt hg.size
  replace H0 := H0.grown hg H0.size (by rintro k hk; injection hk with hk; omega)
  clear hg
  replace f0 := f0.ri (by omega)
  replace f1 := f1.ri (by omega)
  clear hT hlt
  go_wp2_with fail
  obtain ⟨W, hW, b0, b1, hbW, hsz⟩ := boxes2 w3 #[.bool s0, .slice B0 k0 d0] #[.bool s1, .slice B1 k1 d1] 28 28
  rw [hW]
  clear hW
  replace f0 := f0.below hbW
  replace f1 := f1.below hbW
  replace H0 := H0.trans (hbW.mono H0.size)
  clear hbW
  go_wp2_with fail
  go_cut [6, 7] from 13 (fun s7 s8 wx => ∃ g7 g8 t7 B7 k7 d7 t8 B8 k8 d8, s7 = .pointer (some ⟨g7, 0, none⟩) ∧ s8 = .pointer (some ⟨g8, 0, none⟩) ∧ NI wx t7 (.slice B7 k7 d7) z0 6 ∧ NI wx t8 (.slice B8 k8 d8) z1 6 ∧ Box wx g7 #[.bool t7, .slice B7 k7 d7] 32 ∧ Box wx g8 #[.bool t8, .slice B8 k8 d8] 32 ∧ Below W.heap.size W wx)
  case first =>
    refine wp_region_noPanic ?_
    refine wp_region_held_drew (S := (fun V => V.cell? ⟨w3.heap.size, 0, none⟩ = some (.bool s0) ∧ V.cell? ⟨w3.heap.size, 1, none⟩ = some (.slice B0 k0 d0) ∧ V.cell? ⟨w3.heap.size + 1, 0, none⟩ = some (.bool s1) ∧ V.cell? ⟨w3.heap.size + 1, 1, none⟩ = some (.slice B1 k1 d1))) (by kernel_rfl) ?_ (fun hHeld => ?_)
    · exact ⟨b0.cell 0 _ rfl, b0.cell 1 _ rfl, b1.cell 0 _ rfl, b1.cell 1 _ rfl⟩
    have hG := drawn_below W
    generalize W.drew = v at hG hHeld ⊢
    have sG := hG.size
    have sG0 := sG
    refine wpAnyH_take (i := 0) (v := ?_) rfl (by kernel_rfl) (by kernel_rfl) (by kernel_rfl) (fun _ _ _ h => h) (Or.inl ⟨by rfl, ?_⟩) (by assumption) ?_
    rotate_left
    · (intro w hSw; (try dsimp only at hSw); go_simp; (try with_reducible rfl))
    (try simp only [List.getElem_toArray, List.getElem_cons_zero, Act.put, List.setIfInBounds_toArray, List.set_cons_zero, List.set_cons_succ])
    refine wpAnyH_take (i := 2) (v := ?_) rfl (by kernel_rfl) (by kernel_rfl) (by kernel_rfl) (fun _ _ _ h => h) (Or.inl ⟨by rfl, ?_⟩) (by assumption) ?_
    rotate_left
    · (intro w hSw; (try dsimp only at hSw); go_simp; (try with_reducible rfl))
    (try simp only [List.getElem_toArray, List.getElem_cons_succ, List.getElem_cons_zero, Act.put, List.setIfInBounds_toArray, List.set_cons_zero, List.set_cons_succ])
    refine wpAnyH_ready (rs := [1, 4, 5]) (by kernel_rfl) (by simp) (AllReadyH.cons (o := _) rfl (fun K hK => ?_) (AllReadyH.cons (o := _) rfl (fun K hK => ?_) (AllReadyH.cons (o := _) rfl (fun K hK => ?_) AllReadyH.nil)))
    · go_simp
      go_at_call 6
      refine (refI_v (f0.below hG)).mono ?_
      rintro e v1 ⟨t7, B7, k7, d7, rfl, hI7, hb9⟩
      have szv1 := hb9.size
      replace hG := hG.trans (hb9.mono sG)
      replace sG := hG.size
      clear hb9
      go_wp2_with fail
      refine hK.out _ _ ?_ (fun hHeld => ?_)
      · exact ⟨(b0.below hG).cell 0 _ rfl, (b0.below hG).cell 1 _ rfl, (b1.below hG).cell 0 _ rfl, (b1.below hG).cell 1 _ rfl⟩
      clear hK K
      (try simp only [List.getElem_toArray, List.getElem_cons_succ, List.getElem_cons_zero, Act.put, List.setIfInBounds_toArray, List.set_cons_zero, List.set_cons_succ])
      refine wpAnyH_ready (rs := [3, 4, 5]) (by kernel_rfl) (by simp) (AllReadyH.cons (o := _) rfl (fun K hK => ?_) (AllReadyH.cons (o := _) rfl (fun K hK => ?_) (AllReadyH.cons (o := _) rfl (fun K hK => ?_) AllReadyH.nil)))
      · go_simp
        go_at_call 6
        refine (refI_v (f1.below hG)).mono ?_
        rintro e v13 ⟨t8, B8, k8, d8, rfl, hI8, hb9⟩
        have szv13 := hb9.size
        replace hI7 := hI7.below hb9
        replace hG := hG.trans (hb9.mono sG)
        replace sG := hG.size
        clear hb9
        go_wp2_with fail
        refine hK.out _ _ ?_ (fun hHeld => ?_)
        · exact ⟨(b0.below hG).cell 0 _ rfl, (b0.below hG).cell 1 _ rfl, (b1.below hG).cell 0 _ rfl, (b1.below hG).cell 1 _ rfl⟩
        clear hK K
        (try simp only [List.getElem_toArray, List.getElem_cons_succ, List.getElem_cons_zero, Act.put, List.setIfInBounds_toArray, List.set_cons_zero, List.set_cons_succ])
        refine wpAnyH_ready (rs := [4, 5]) (by kernel_rfl) (by simp) (AllReadyH.cons (o := _) rfl (fun K hK => ?_) (AllReadyH.cons (o := _) rfl (fun K hK => ?_) AllReadyH.nil))
        · go_simp
          obtain ⟨v134, hV, x7, hb9, szv134⟩ := boxes1 v13 #[.bool false, .slice none 0 0] 32
          rw [hV]
          clear hV
          replace szv134 : v13.heap.size < v134.heap.size := by omega
          replace hI7 := hI7.below hb9
          replace hI8 := hI8.below hb9
          replace hG := hG.trans (hb9.mono sG)
          replace sG := hG.size
          clear hb9
          refine hK.out _ _ ?_ (fun hHeld => ?_)
          · exact ⟨(b0.below hG).cell 0 _ rfl, (b0.below hG).cell 1 _ rfl, (b1.below hG).cell 0 _ rfl, (b1.below hG).cell 1 _ rfl⟩
          clear hK K
          (try simp only [List.getElem_toArray, List.getElem_cons_succ, List.getElem_cons_zero, Act.put, List.setIfInBounds_toArray, List.set_cons_zero, List.set_cons_succ])
          refine wpAnyH_ready (rs := [5]) (by kernel_rfl) (by simp) (AllReadyH.cons (o := _) rfl (fun K hK => ?_) AllReadyH.nil)
          go_simp
          obtain ⟨v1345, hV, x8, hb9, szv1345⟩ := boxes1 v134 #[.bool false, .slice none 0 0] 32
          rw [hV]
          clear hV
          replace szv1345 : v134.heap.size < v1345.heap.size := by omega
          replace x7 := x7.below hb9
          replace hI7 := hI7.below hb9
          replace hI8 := hI8.below hb9
          replace hG := hG.trans (hb9.mono sG)
          replace sG := hG.size
          clear hb9
          refine hK.out _ _ ?_ (fun hHeld => ?_)
          · exact ⟨(b0.below hG).cell 0 _ rfl, (b0.below hG).cell 1 _ rfl, (b1.below hG).cell 0 _ rfl, (b1.below hG).cell 1 _ rfl⟩
          clear hK K
          (try simp only [List.getElem_toArray, List.getElem_cons_succ, List.getElem_cons_zero, Act.put, List.setIfInBounds_toArray, List.set_cons_zero, List.set_cons_succ])
          have r0 := x7.cell 0 _ rfl
          have r1 := x7.cell 1 _ rfl
          have f0 := x7.frozen 0
          have f1 := x7.frozen 1
          have r2 := x8.cell 0 _ rfl
          have r3 := x8.cell 1 _ rfl
          have f2 := x8.frozen 0
          have f3 := x8.frozen 1
          have ne78 : v134.heap.size ≠ v13.heap.size := by omega
          have ne87 : v13.heap.size ≠ v134.heap.size := by omega
          refine wpAnyH_ready (rs := [6]) (by kernel_rfl) (by simp) (AllReadyH.cons (o := _) rfl (fun K hK => ?_) AllReadyH.nil)
          go_simp
          refine hK.out _ _ ?_ (fun hHeld => ?_)
          · exact ⟨((b0.below hG).far (g' := v13.heap.size) (by omega) _ _).cell 0 _ rfl, ((b0.below hG).far (g' := v13.heap.size) (by omega) _ _).cell 1 _ rfl, ((b1.below hG).far (g' := v13.heap.size) (by omega) _ _).cell 0 _ rfl, ((b1.below hG).far (g' := v13.heap.size) (by omega) _ _).cell 1 _ rfl⟩
          clear hK K
          (try simp only [List.getElem_toArray, List.getElem_cons_succ, List.getElem_cons_zero, Act.put, List.setIfInBounds_toArray, List.set_cons_zero, List.set_cons_succ])
          have y8 := x8.far (g' := v13.heap.size) ne78 (.bool t7) (.slice B7 k7 d7)
          have y7 := x7.stored (.bool t7) (.slice B7 k7 d7)
          have r2 := y8.cell 0 _ rfl
          have r3 := y8.cell 1 _ rfl
          have f2 := y8.frozen 0
          have f3 := y8.frozen 1
          refine wpAnyH_ready (rs := [7]) (by kernel_rfl) (by simp) (AllReadyH.cons (o := _) rfl (fun K hK => ?_) AllReadyH.nil)
          go_simp
          refine hK.out _ _ ?_ (fun hHeld => ?_)
          · exact ⟨((((b0.below hG).far (g' := v13.heap.size) (by omega) _ _)).far (g' := v134.heap.size) (by omega) _ _).cell 0 _ rfl, ((((b0.below hG).far (g' := v13.heap.size) (by omega) _ _)).far (g' := v134.heap.size) (by omega) _ _).cell 1 _ rfl, ((((b1.below hG).far (g' := v13.heap.size) (by omega) _ _)).far (g' := v134.heap.size) (by omega) _ _).cell 0 _ rfl, ((((b1.below hG).far (g' := v13.heap.size) (by omega) _ _)).far (g' := v134.heap.size) (by omega) _ _).cell 1 _ rfl⟩
          clear hK K
          (try simp only [List.getElem_toArray, List.getElem_cons_succ, List.getElem_cons_zero, Act.put, List.setIfInBounds_toArray, List.set_cons_zero, List.set_cons_succ])
          refine wpAnyH_done (by kernel_rfl) ?_ _
          refine NoPanic.normal ?_
          have z8 := y8.stored (.bool t8) (.slice B8 k8 d8)
          have z7 := y7.far (g' := v134.heap.size) ne87 (.bool t8) (.slice B8 k8 d8)
          have j7 := (hI7.stored x7 (notInt_box _ _ _ _) (.bool t7) (.slice B7 k7 d7)).stored y8 (notInt_box _ _ _ _) (.bool t8) (.slice B8 k8 d8)
          have j8 := (hI8.stored x7 (notInt_box _ _ _ _) (.bool t7) (.slice B7 k7 d7)).stored y8 (notInt_box _ _ _ _) (.bool t8) (.slice B8 k8 d8)
          have hF := below_stored (g := v134.heap.size) (below_stored (g := v13.heap.size) hG (by omega) (.bool t7) (.slice B7 k7 d7)) (by omega) (.bool t8) (.slice B8 k8 d8)
          go_wp2_with fail
          go_meet
          exact ⟨v13.heap.size, v134.heap.size, t7, B7, k7, d7, t8, B8, k8, d8, rfl, rfl, j7, j8, z7, z8, hF⟩
        · go_simp
          obtain ⟨v135, hV, x8, hb9, szv135⟩ := boxes1 v13 #[.bool false, .slice none 0 0] 32
          rw [hV]
          clear hV
          replace szv135 : v13.heap.size < v135.heap.size := by omega
          replace hI7 := hI7.below hb9
          replace hI8 := hI8.below hb9
          replace hG := hG.trans (hb9.mono sG)
          replace sG := hG.size
          clear hb9
          refine hK.out _ _ ?_ (fun hHeld => ?_)
          · exact ⟨(b0.below hG).cell 0 _ rfl, (b0.below hG).cell 1 _ rfl, (b1.below hG).cell 0 _ rfl, (b1.below hG).cell 1 _ rfl⟩
          clear hK K
          (try simp only [List.getElem_toArray, List.getElem_cons_succ, List.getElem_cons_zero, Act.put, List.setIfInBounds_toArray, List.set_cons_zero, List.set_cons_succ])
          refine wpAnyH_ready (rs := [4]) (by kernel_rfl) (by simp) (AllReadyH.cons (o := _) rfl (fun K hK => ?_) AllReadyH.nil)
          go_simp
          obtain ⟨v1354, hV, x7, hb9, szv1354⟩ := boxes1 v135 #[.bool false, .slice none 0 0] 32
          rw [hV]
          clear hV
          replace szv1354 : v135.heap.size < v1354.heap.size := by omega
          replace x8 := x8.below hb9
          replace hI7 := hI7.below hb9
          replace hI8 := hI8.below hb9
          replace hG := hG.trans (hb9.mono sG)
          replace sG := hG.size
          clear hb9
          refine hK.out _ _ ?_ (fun hHeld => ?_)
          · exact ⟨(b0.below hG).cell 0 _ rfl, (b0.below hG).cell 1 _ rfl, (b1.below hG).cell 0 _ rfl, (b1.below hG).cell 1 _ rfl⟩
          clear hK K
          (try simp only [List.getElem_toArray, List.getElem_cons_succ, List.getElem_cons_zero, Act.put, List.setIfInBounds_toArray, List.set_cons_zero, List.set_cons_succ])
          have r0 := x7.cell 0 _ rfl
          have r1 := x7.cell 1 _ rfl
          have f0 := x7.frozen 0
          have f1 := x7.frozen 1
          have r2 := x8.cell 0 _ rfl
          have r3 := x8.cell 1 _ rfl
          have f2 := x8.frozen 0
          have f3 := x8.frozen 1
          have ne78 : v13.heap.size ≠ v135.heap.size := by omega
          have ne87 : v135.heap.size ≠ v13.heap.size := by omega
          refine wpAnyH_ready (rs := [6]) (by kernel_rfl) (by simp) (AllReadyH.cons (o := _) rfl (fun K hK => ?_) AllReadyH.nil)
          go_simp
          refine hK.out _ _ ?_ (fun hHeld => ?_)
          · exact ⟨((b0.below hG).far (g' := v135.heap.size) (by omega) _ _).cell 0 _ rfl, ((b0.below hG).far (g' := v135.heap.size) (by omega) _ _).cell 1 _ rfl, ((b1.below hG).far (g' := v135.heap.size) (by omega) _ _).cell 0 _ rfl, ((b1.below hG).far (g' := v135.heap.size) (by omega) _ _).cell 1 _ rfl⟩
          clear hK K
          (try simp only [List.getElem_toArray, List.getElem_cons_succ, List.getElem_cons_zero, Act.put, List.setIfInBounds_toArray, List.set_cons_zero, List.set_cons_succ])
          have y8 := x8.far (g' := v135.heap.size) ne78 (.bool t7) (.slice B7 k7 d7)
          have y7 := x7.stored (.bool t7) (.slice B7 k7 d7)
          have r2 := y8.cell 0 _ rfl
          have r3 := y8.cell 1 _ rfl
          have f2 := y8.frozen 0
          have f3 := y8.frozen 1
          refine wpAnyH_ready (rs := [7]) (by kernel_rfl) (by simp) (AllReadyH.cons (o := _) rfl (fun K hK => ?_) AllReadyH.nil)
          go_simp
          refine hK.out _ _ ?_ (fun hHeld => ?_)
          · exact ⟨((((b0.below hG).far (g' := v135.heap.size) (by omega) _ _)).far (g' := v13.heap.size) (by omega) _ _).cell 0 _ rfl, ((((b0.below hG).far (g' := v135.heap.size) (by omega) _ _)).far (g' := v13.heap.size) (by omega) _ _).cell 1 _ rfl, ((((b1.below hG).far (g' := v135.heap.size) (by omega) _ _)).far (g' := v13.heap.size) (by omega) _ _).cell 0 _ rfl, ((((b1.below hG).far (g' := v135.heap.size) (by omega) _ _)).far (g' := v13.heap.size) (by omega) _ _).cell 1 _ rfl⟩
          clear hK K
          (try simp only [List.getElem_toArray, List.getElem_cons_succ, List.getElem_cons_zero, Act.put, List.setIfInBounds_toArray, List.set_cons_zero, List.set_cons_succ])
          refine wpAnyH_done (by kernel_rfl) ?_ _
          refine NoPanic.normal ?_
          have z8 := y8.stored (.bool t8) (.slice B8 k8 d8)
          have z7 := y7.far (g' := v13.heap.size) ne87 (.bool t8) (.slice B8 k8 d8)
          have j7 := (hI7.stored x7 (notInt_box _ _ _ _) (.bool t7) (.slice B7 k7 d7)).stored y8 (notInt_box _ _ _ _) (.bool t8) (.slice B8 k8 d8)
          have j8 := (hI8.stored x7 (notInt_box _ _ _ _) (.bool t7) (.slice B7 k7 d7)).stored y8 (notInt_box _ _ _ _) (.bool t8) (.slice B8 k8 d8)
          have hF := below_stored (g := v13.heap.size) (below_stored (g := v135.heap.size) hG (by omega) (.bool t7) (.slice B7 k7 d7)) (by omega) (.bool t8) (.slice B8 k8 d8)
          go_wp2_with fail
          go_meet
          exact ⟨v135.heap.size, v13.heap.size, t7, B7, k7, d7, t8, B8, k8, d8, rfl, rfl, j7, j8, z7, z8, hF⟩
      · go_simp
        obtain ⟨v14, hV, x7, hb9, szv14⟩ := boxes1 v1 #[.bool false, .slice none 0 0] 32
        rw [hV]
        clear hV
        replace szv14 : v1.heap.size < v14.heap.size := by omega
        replace hI7 := hI7.below hb9
        replace hG := hG.trans (hb9.mono sG)
        replace sG := hG.size
        clear hb9
        refine hK.out _ _ ?_ (fun hHeld => ?_)
        · exact ⟨(b0.below hG).cell 0 _ rfl, (b0.below hG).cell 1 _ rfl, (b1.below hG).cell 0 _ rfl, (b1.below hG).cell 1 _ rfl⟩
        clear hK K
        (try simp only [List.getElem_toArray, List.getElem_cons_succ, List.getElem_cons_zero, Act.put, List.setIfInBounds_toArray, List.set_cons_zero, List.set_cons_succ])
        refine wpAnyH_ready (rs := [3, 5]) (by kernel_rfl) (by simp) (AllReadyH.cons (o := _) rfl (fun K hK => ?_) (AllReadyH.cons (o := _) rfl (fun K hK => ?_) AllReadyH.nil))
        · go_simp
          go_at_call 6
          refine (refI_v (f1.below hG)).mono ?_
          rintro e v143 ⟨t8, B8, k8, d8, rfl, hI8, hb9⟩
          have szv143 := hb9.size
          replace x7 := x7.below hb9
          replace hI7 := hI7.below hb9
          replace hG := hG.trans (hb9.mono sG)
          replace sG := hG.size
          clear hb9
          go_wp2_with fail
          refine hK.out _ _ ?_ (fun hHeld => ?_)
          · exact ⟨(b0.below hG).cell 0 _ rfl, (b0.below hG).cell 1 _ rfl, (b1.below hG).cell 0 _ rfl, (b1.below hG).cell 1 _ rfl⟩
          clear hK K
          (try simp only [List.getElem_toArray, List.getElem_cons_succ, List.getElem_cons_zero, Act.put, List.setIfInBounds_toArray, List.set_cons_zero, List.set_cons_succ])
          refine wpAnyH_ready (rs := [5]) (by kernel_rfl) (by simp) (AllReadyH.cons (o := _) rfl (fun K hK => ?_) AllReadyH.nil)
          go_simp
          obtain ⟨v1435, hV, x8, hb9, szv1435⟩ := boxes1 v143 #[.bool false, .slice none 0 0] 32
          rw [hV]
          clear hV
          replace szv1435 : v143.heap.size < v1435.heap.size := by omega
          replace x7 := x7.below hb9
          replace hI7 := hI7.below hb9
          replace hI8 := hI8.below hb9
          replace hG := hG.trans (hb9.mono sG)
          replace sG := hG.size
          clear hb9
          refine hK.out _ _ ?_ (fun hHeld => ?_)
          · exact ⟨(b0.below hG).cell 0 _ rfl, (b0.below hG).cell 1 _ rfl, (b1.below hG).cell 0 _ rfl, (b1.below hG).cell 1 _ rfl⟩
          clear hK K
          (try simp only [List.getElem_toArray, List.getElem_cons_succ, List.getElem_cons_zero, Act.put, List.setIfInBounds_toArray, List.set_cons_zero, List.set_cons_succ])
          have r0 := x7.cell 0 _ rfl
          have r1 := x7.cell 1 _ rfl
          have f0 := x7.frozen 0
          have f1 := x7.frozen 1
          have r2 := x8.cell 0 _ rfl
          have r3 := x8.cell 1 _ rfl
          have f2 := x8.frozen 0
          have f3 := x8.frozen 1
          have ne78 : v143.heap.size ≠ v1.heap.size := by omega
          have ne87 : v1.heap.size ≠ v143.heap.size := by omega
          refine wpAnyH_ready (rs := [6]) (by kernel_rfl) (by simp) (AllReadyH.cons (o := _) rfl (fun K hK => ?_) AllReadyH.nil)
          go_simp
          refine hK.out _ _ ?_ (fun hHeld => ?_)
          · exact ⟨((b0.below hG).far (g' := v1.heap.size) (by omega) _ _).cell 0 _ rfl, ((b0.below hG).far (g' := v1.heap.size) (by omega) _ _).cell 1 _ rfl, ((b1.below hG).far (g' := v1.heap.size) (by omega) _ _).cell 0 _ rfl, ((b1.below hG).far (g' := v1.heap.size) (by omega) _ _).cell 1 _ rfl⟩
          clear hK K
          (try simp only [List.getElem_toArray, List.getElem_cons_succ, List.getElem_cons_zero, Act.put, List.setIfInBounds_toArray, List.set_cons_zero, List.set_cons_succ])
          have y8 := x8.far (g' := v1.heap.size) ne78 (.bool t7) (.slice B7 k7 d7)
          have y7 := x7.stored (.bool t7) (.slice B7 k7 d7)
          have r2 := y8.cell 0 _ rfl
          have r3 := y8.cell 1 _ rfl
          have f2 := y8.frozen 0
          have f3 := y8.frozen 1
          refine wpAnyH_ready (rs := [7]) (by kernel_rfl) (by simp) (AllReadyH.cons (o := _) rfl (fun K hK => ?_) AllReadyH.nil)
          go_simp
          refine hK.out _ _ ?_ (fun hHeld => ?_)
          · exact ⟨((((b0.below hG).far (g' := v1.heap.size) (by omega) _ _)).far (g' := v143.heap.size) (by omega) _ _).cell 0 _ rfl, ((((b0.below hG).far (g' := v1.heap.size) (by omega) _ _)).far (g' := v143.heap.size) (by omega) _ _).cell 1 _ rfl, ((((b1.below hG).far (g' := v1.heap.size) (by omega) _ _)).far (g' := v143.heap.size) (by omega) _ _).cell 0 _ rfl, ((((b1.below hG).far (g' := v1.heap.size) (by omega) _ _)).far (g' := v143.heap.size) (by omega) _ _).cell 1 _ rfl⟩
          clear hK K
          (try simp only [List.getElem_toArray, List.getElem_cons_succ, List.getElem_cons_zero, Act.put, List.setIfInBounds_toArray, List.set_cons_zero, List.set_cons_succ])
          refine wpAnyH_done (by kernel_rfl) ?_ _
          refine NoPanic.normal ?_
          have z8 := y8.stored (.bool t8) (.slice B8 k8 d8)
          have z7 := y7.far (g' := v143.heap.size) ne87 (.bool t8) (.slice B8 k8 d8)
          have j7 := (hI7.stored x7 (notInt_box _ _ _ _) (.bool t7) (.slice B7 k7 d7)).stored y8 (notInt_box _ _ _ _) (.bool t8) (.slice B8 k8 d8)
          have j8 := (hI8.stored x7 (notInt_box _ _ _ _) (.bool t7) (.slice B7 k7 d7)).stored y8 (notInt_box _ _ _ _) (.bool t8) (.slice B8 k8 d8)
          have hF := below_stored (g := v143.heap.size) (below_stored (g := v1.heap.size) hG (by omega) (.bool t7) (.slice B7 k7 d7)) (by omega) (.bool t8) (.slice B8 k8 d8)
          go_wp2_with fail
          go_meet
          exact ⟨v1.heap.size, v143.heap.size, t7, B7, k7, d7, t8, B8, k8, d8, rfl, rfl, j7, j8, z7, z8, hF⟩
        · go_simp
          obtain ⟨v145, hV, x8, hb9, szv145⟩ := boxes1 v14 #[.bool false, .slice none 0 0] 32
          rw [hV]
          clear hV
          replace szv145 : v14.heap.size < v145.heap.size := by omega
          replace x7 := x7.below hb9
          replace hI7 := hI7.below hb9
          replace hG := hG.trans (hb9.mono sG)
          replace sG := hG.size
          clear hb9
          refine hK.out _ _ ?_ (fun hHeld => ?_)
          · exact ⟨(b0.below hG).cell 0 _ rfl, (b0.below hG).cell 1 _ rfl, (b1.below hG).cell 0 _ rfl, (b1.below hG).cell 1 _ rfl⟩
          clear hK K
          (try simp only [List.getElem_toArray, List.getElem_cons_succ, List.getElem_cons_zero, Act.put, List.setIfInBounds_toArray, List.set_cons_zero, List.set_cons_succ])
          refine wpAnyH_ready (rs := [3]) (by kernel_rfl) (by simp) (AllReadyH.cons (o := _) rfl (fun K hK => ?_) AllReadyH.nil)
          go_simp
          go_at_call 6
          refine (refI_v (f1.below hG)).mono ?_
          rintro e v1453 ⟨t8, B8, k8, d8, rfl, hI8, hb9⟩
          have szv1453 := hb9.size
          replace x7 := x7.below hb9
          replace x8 := x8.below hb9
          replace hI7 := hI7.below hb9
          replace hG := hG.trans (hb9.mono sG)
          replace sG := hG.size
          clear hb9
          go_wp2_with fail
          refine hK.out _ _ ?_ (fun hHeld => ?_)
          · exact ⟨(b0.below hG).cell 0 _ rfl, (b0.below hG).cell 1 _ rfl, (b1.below hG).cell 0 _ rfl, (b1.below hG).cell 1 _ rfl⟩
          clear hK K
          (try simp only [List.getElem_toArray, List.getElem_cons_succ, List.getElem_cons_zero, Act.put, List.setIfInBounds_toArray, List.set_cons_zero, List.set_cons_succ])
          have r0 := x7.cell 0 _ rfl
          have r1 := x7.cell 1 _ rfl
          have f0 := x7.frozen 0
          have f1 := x7.frozen 1
          have r2 := x8.cell 0 _ rfl
          have r3 := x8.cell 1 _ rfl
          have f2 := x8.frozen 0
          have f3 := x8.frozen 1
          have ne78 : v14.heap.size ≠ v1.heap.size := by omega
          have ne87 : v1.heap.size ≠ v14.heap.size := by omega
          refine wpAnyH_ready (rs := [6]) (by kernel_rfl) (by simp) (AllReadyH.cons (o := _) rfl (fun K hK => ?_) AllReadyH.nil)
          go_simp
          refine hK.out _ _ ?_ (fun hHeld => ?_)
          · exact ⟨((b0.below hG).far (g' := v1.heap.size) (by omega) _ _).cell 0 _ rfl, ((b0.below hG).far (g' := v1.heap.size) (by omega) _ _).cell 1 _ rfl, ((b1.below hG).far (g' := v1.heap.size) (by omega) _ _).cell 0 _ rfl, ((b1.below hG).far (g' := v1.heap.size) (by omega) _ _).cell 1 _ rfl⟩
          clear hK K
          (try simp only [List.getElem_toArray, List.getElem_cons_succ, List.getElem_cons_zero, Act.put, List.setIfInBounds_toArray, List.set_cons_zero, List.set_cons_succ])
          have y8 := x8.far (g' := v1.heap.size) ne78 (.bool t7) (.slice B7 k7 d7)
          have y7 := x7.stored (.bool t7) (.slice B7 k7 d7)
          have r2 := y8.cell 0 _ rfl
          have r3 := y8.cell 1 _ rfl
          have f2 := y8.frozen 0
          have f3 := y8.frozen 1
          refine wpAnyH_ready (rs := [7]) (by kernel_rfl) (by simp) (AllReadyH.cons (o := _) rfl (fun K hK => ?_) AllReadyH.nil)
          go_simp
          refine hK.out _ _ ?_ (fun hHeld => ?_)
          · exact ⟨((((b0.below hG).far (g' := v1.heap.size) (by omega) _ _)).far (g' := v14.heap.size) (by omega) _ _).cell 0 _ rfl, ((((b0.below hG).far (g' := v1.heap.size) (by omega) _ _)).far (g' := v14.heap.size) (by omega) _ _).cell 1 _ rfl, ((((b1.below hG).far (g' := v1.heap.size) (by omega) _ _)).far (g' := v14.heap.size) (by omega) _ _).cell 0 _ rfl, ((((b1.below hG).far (g' := v1.heap.size) (by omega) _ _)).far (g' := v14.heap.size) (by omega) _ _).cell 1 _ rfl⟩
          clear hK K
          (try simp only [List.getElem_toArray, List.getElem_cons_succ, List.getElem_cons_zero, Act.put, List.setIfInBounds_toArray, List.set_cons_zero, List.set_cons_succ])
          refine wpAnyH_done (by kernel_rfl) ?_ _
          refine NoPanic.normal ?_
          have z8 := y8.stored (.bool t8) (.slice B8 k8 d8)
          have z7 := y7.far (g' := v14.heap.size) ne87 (.bool t8) (.slice B8 k8 d8)
          have j7 := (hI7.stored x7 (notInt_box _ _ _ _) (.bool t7) (.slice B7 k7 d7)).stored y8 (notInt_box _ _ _ _) (.bool t8) (.slice B8 k8 d8)
          have j8 := (hI8.stored x7 (notInt_box _ _ _ _) (.bool t7) (.slice B7 k7 d7)).stored y8 (notInt_box _ _ _ _) (.bool t8) (.slice B8 k8 d8)
          have hF := below_stored (g := v14.heap.size) (below_stored (g := v1.heap.size) hG (by omega) (.bool t7) (.slice B7 k7 d7)) (by omega) (.bool t8) (.slice B8 k8 d8)
          go_wp2_with fail
          go_meet
          exact ⟨v1.heap.size, v14.heap.size, t7, B7, k7, d7, t8, B8, k8, d8, rfl, rfl, j7, j8, z7, z8, hF⟩
      · go_simp
        obtain ⟨v15, hV, x8, hb9, szv15⟩ := boxes1 v1 #[.bool false, .slice none 0 0] 32
        rw [hV]
        clear hV
        replace szv15 : v1.heap.size < v15.heap.size := by omega
        replace hI7 := hI7.below hb9
        replace hG := hG.trans (hb9.mono sG)
        replace sG := hG.size
        clear hb9
        refine hK.out _ _ ?_ (fun hHeld => ?_)
        · exact ⟨(b0.below hG).cell 0 _ rfl, (b0.below hG).cell 1 _ rfl, (b1.below hG).cell 0 _ rfl, (b1.below hG).cell 1 _ rfl⟩
        clear hK K
        (try simp only [List.getElem_toArray, List.getElem_cons_succ, List.getElem_cons_zero, Act.put, List.setIfInBounds_toArray, List.set_cons_zero, List.set_cons_succ])
        refine wpAnyH_ready (rs := [3, 4]) (by kernel_rfl) (by simp) (AllReadyH.cons (o := _) rfl (fun K hK => ?_) (AllReadyH.cons (o := _) rfl (fun K hK => ?_) AllReadyH.nil))
        · go_simp
          go_at_call 6
          refine (refI_v (f1.below hG)).mono ?_
          rintro e v153 ⟨t8, B8, k8, d8, rfl, hI8, hb9⟩
          have szv153 := hb9.size
          replace x8 := x8.below hb9
          replace hI7 := hI7.below hb9
          replace hG := hG.trans (hb9.mono sG)
          replace sG := hG.size
          clear hb9
          go_wp2_with fail
          refine hK.out _ _ ?_ (fun hHeld => ?_)
          · exact ⟨(b0.below hG).cell 0 _ rfl, (b0.below hG).cell 1 _ rfl, (b1.below hG).cell 0 _ rfl, (b1.below hG).cell 1 _ rfl⟩
          clear hK K
          (try simp only [List.getElem_toArray, List.getElem_cons_succ, List.getElem_cons_zero, Act.put, List.setIfInBounds_toArray, List.set_cons_zero, List.set_cons_succ])
          refine wpAnyH_ready (rs := [4]) (by kernel_rfl) (by simp) (AllReadyH.cons (o := _) rfl (fun K hK => ?_) AllReadyH.nil)
          go_simp
          obtain ⟨v1534, hV, x7, hb9, szv1534⟩ := boxes1 v153 #[.bool false, .slice none 0 0] 32
          rw [hV]
          clear hV
          replace szv1534 : v153.heap.size < v1534.heap.size := by omega
          replace x8 := x8.below hb9
          replace hI7 := hI7.below hb9
          replace hI8 := hI8.below hb9
          replace hG := hG.trans (hb9.mono sG)
          replace sG := hG.size
          clear hb9
          refine hK.out _ _ ?_ (fun hHeld => ?_)
          · exact ⟨(b0.below hG).cell 0 _ rfl, (b0.below hG).cell 1 _ rfl, (b1.below hG).cell 0 _ rfl, (b1.below hG).cell 1 _ rfl⟩
          clear hK K
          (try simp only [List.getElem_toArray, List.getElem_cons_succ, List.getElem_cons_zero, Act.put, List.setIfInBounds_toArray, List.set_cons_zero, List.set_cons_succ])
          have r0 := x7.cell 0 _ rfl
          have r1 := x7.cell 1 _ rfl
          have f0 := x7.frozen 0
          have f1 := x7.frozen 1
          have r2 := x8.cell 0 _ rfl
          have r3 := x8.cell 1 _ rfl
          have f2 := x8.frozen 0
          have f3 := x8.frozen 1
          have ne78 : v1.heap.size ≠ v153.heap.size := by omega
          have ne87 : v153.heap.size ≠ v1.heap.size := by omega
          refine wpAnyH_ready (rs := [6]) (by kernel_rfl) (by simp) (AllReadyH.cons (o := _) rfl (fun K hK => ?_) AllReadyH.nil)
          go_simp
          refine hK.out _ _ ?_ (fun hHeld => ?_)
          · exact ⟨((b0.below hG).far (g' := v153.heap.size) (by omega) _ _).cell 0 _ rfl, ((b0.below hG).far (g' := v153.heap.size) (by omega) _ _).cell 1 _ rfl, ((b1.below hG).far (g' := v153.heap.size) (by omega) _ _).cell 0 _ rfl, ((b1.below hG).far (g' := v153.heap.size) (by omega) _ _).cell 1 _ rfl⟩
          clear hK K
          (try simp only [List.getElem_toArray, List.getElem_cons_succ, List.getElem_cons_zero, Act.put, List.setIfInBounds_toArray, List.set_cons_zero, List.set_cons_succ])
          have y8 := x8.far (g' := v153.heap.size) ne78 (.bool t7) (.slice B7 k7 d7)
          have y7 := x7.stored (.bool t7) (.slice B7 k7 d7)
          have r2 := y8.cell 0 _ rfl
          have r3 := y8.cell 1 _ rfl
          have f2 := y8.frozen 0
          have f3 := y8.frozen 1
          refine wpAnyH_ready (rs := [7]) (by kernel_rfl) (by simp) (AllReadyH.cons (o := _) rfl (fun K hK => ?_) AllReadyH.nil)
          go_simp
          refine hK.out _ _ ?_ (fun hHeld => ?_)
          · exact ⟨((((b0.below hG).far (g' := v153.heap.size) (by omega) _ _)).far (g' := v1.heap.size) (by omega) _ _).cell 0 _ rfl, ((((b0.below hG).far (g' := v153.heap.size) (by omega) _ _)).far (g' := v1.heap.size) (by omega) _ _).cell 1 _ rfl, ((((b1.below hG).far (g' := v153.heap.size) (by omega) _ _)).far (g' := v1.heap.size) (by omega) _ _).cell 0 _ rfl, ((((b1.below hG).far (g' := v153.heap.size) (by omega) _ _)).far (g' := v1.heap.size) (by omega) _ _).cell 1 _ rfl⟩
          clear hK K
          (try simp only [List.getElem_toArray, List.getElem_cons_succ, List.getElem_cons_zero, Act.put, List.setIfInBounds_toArray, List.set_cons_zero, List.set_cons_succ])
          refine wpAnyH_done (by kernel_rfl) ?_ _
          refine NoPanic.normal ?_
          have z8 := y8.stored (.bool t8) (.slice B8 k8 d8)
          have z7 := y7.far (g' := v1.heap.size) ne87 (.bool t8) (.slice B8 k8 d8)
          have j7 := (hI7.stored x7 (notInt_box _ _ _ _) (.bool t7) (.slice B7 k7 d7)).stored y8 (notInt_box _ _ _ _) (.bool t8) (.slice B8 k8 d8)
          have j8 := (hI8.stored x7 (notInt_box _ _ _ _) (.bool t7) (.slice B7 k7 d7)).stored y8 (notInt_box _ _ _ _) (.bool t8) (.slice B8 k8 d8)
          have hF := below_stored (g := v1.heap.size) (below_stored (g := v153.heap.size) hG (by omega) (.bool t7) (.slice B7 k7 d7)) (by omega) (.bool t8) (.slice B8 k8 d8)
          go_wp2_with fail
          go_meet
          exact ⟨v153.heap.size, v1.heap.size, t7, B7, k7, d7, t8, B8, k8, d8, rfl, rfl, j7, j8, z7, z8, hF⟩
        · go_simp
          obtain ⟨v154, hV, x7, hb9, szv154⟩ := boxes1 v15 #[.bool false, .slice none 0 0] 32
          rw [hV]
          clear hV
          replace szv154 : v15.heap.size < v154.heap.size := by omega
          replace x8 := x8.below hb9
          replace hI7 := hI7.below hb9
          replace hG := hG.trans (hb9.mono sG)
          replace sG := hG.size
          clear hb9
          refine hK.out _ _ ?_ (fun hHeld => ?_)
          · exact ⟨(b0.below hG).cell 0 _ rfl, (b0.below hG).cell 1 _ rfl, (b1.below hG).cell 0 _ rfl, (b1.below hG).cell 1 _ rfl⟩
          clear hK K
          (try simp only [List.getElem_toArray, List.getElem_cons_succ, List.getElem_cons_zero, Act.put, List.setIfInBounds_toArray, List.set_cons_zero, List.set_cons_succ])
          refine wpAnyH_ready (rs := [3]) (by kernel_rfl) (by simp) (AllReadyH.cons (o := _) rfl (fun K hK => ?_) AllReadyH.nil)
          go_simp
          go_at_call 6
          refine (refI_v (f1.below hG)).mono ?_
          rintro e v1543 ⟨t8, B8, k8, d8, rfl, hI8, hb9⟩
          have szv1543 := hb9.size
          replace x7 := x7.below hb9
          replace x8 := x8.below hb9
          replace hI7 := hI7.below hb9
          replace hG := hG.trans (hb9.mono sG)
          replace sG := hG.size
          clear hb9
          go_wp2_with fail
          refine hK.out _ _ ?_ (fun hHeld => ?_)
          · exact ⟨(b0.below hG).cell 0 _ rfl, (b0.below hG).cell 1 _ rfl, (b1.below hG).cell 0 _ rfl, (b1.below hG).cell 1 _ rfl⟩
          clear hK K
          (try simp only [List.getElem_toArray, List.getElem_cons_succ, List.getElem_cons_zero, Act.put, List.setIfInBounds_toArray, List.set_cons_zero, List.set_cons_succ])
          have r0 := x7.cell 0 _ rfl
          have r1 := x7.cell 1 _ rfl
          have f0 := x7.frozen 0
          have f1 := x7.frozen 1
          have r2 := x8.cell 0 _ rfl
          have r3 := x8.cell 1 _ rfl
          have f2 := x8.frozen 0
          have f3 := x8.frozen 1
          have ne78 : v1.heap.size ≠ v15.heap.size := by omega
          have ne87 : v15.heap.size ≠ v1.heap.size := by omega
          refine wpAnyH_ready (rs := [6]) (by kernel_rfl) (by simp) (AllReadyH.cons (o := _) rfl (fun K hK => ?_) AllReadyH.nil)
          go_simp
          refine hK.out _ _ ?_ (fun hHeld => ?_)
          · exact ⟨((b0.below hG).far (g' := v15.heap.size) (by omega) _ _).cell 0 _ rfl, ((b0.below hG).far (g' := v15.heap.size) (by omega) _ _).cell 1 _ rfl, ((b1.below hG).far (g' := v15.heap.size) (by omega) _ _).cell 0 _ rfl, ((b1.below hG).far (g' := v15.heap.size) (by omega) _ _).cell 1 _ rfl⟩
          clear hK K
          (try simp only [List.getElem_toArray, List.getElem_cons_succ, List.getElem_cons_zero, Act.put, List.setIfInBounds_toArray, List.set_cons_zero, List.set_cons_succ])
          have y8 := x8.far (g' := v15.heap.size) ne78 (.bool t7) (.slice B7 k7 d7)
          have y7 := x7.stored (.bool t7) (.slice B7 k7 d7)
          have r2 := y8.cell 0 _ rfl
          have r3 := y8.cell 1 _ rfl
          have f2 := y8.frozen 0
          have f3 := y8.frozen 1
          refine wpAnyH_ready (rs := [7]) (by kernel_rfl) (by simp) (AllReadyH.cons (o := _) rfl (fun K hK => ?_) AllReadyH.nil)
          go_simp
          refine hK.out _ _ ?_ (fun hHeld => ?_)
          · exact ⟨((((b0.below hG).far (g' := v15.heap.size) (by omega) _ _)).far (g' := v1.heap.size) (by omega) _ _).cell 0 _ rfl, ((((b0.below hG).far (g' := v15.heap.size) (by omega) _ _)).far (g' := v1.heap.size) (by omega) _ _).cell 1 _ rfl, ((((b1.below hG).far (g' := v15.heap.size) (by omega) _ _)).far (g' := v1.heap.size) (by omega) _ _).cell 0 _ rfl, ((((b1.below hG).far (g' := v15.heap.size) (by omega) _ _)).far (g' := v1.heap.size) (by omega) _ _).cell 1 _ rfl⟩
          clear hK K
          (try simp only [List.getElem_toArray, List.getElem_cons_succ, List.getElem_cons_zero, Act.put, List.setIfInBounds_toArray, List.set_cons_zero, List.set_cons_succ])
          refine wpAnyH_done (by kernel_rfl) ?_ _
          refine NoPanic.normal ?_
          have z8 := y8.stored (.bool t8) (.slice B8 k8 d8)
          have z7 := y7.far (g' := v1.heap.size) ne87 (.bool t8) (.slice B8 k8 d8)
          have j7 := (hI7.stored x7 (notInt_box _ _ _ _) (.bool t7) (.slice B7 k7 d7)).stored y8 (notInt_box _ _ _ _) (.bool t8) (.slice B8 k8 d8)
          have j8 := (hI8.stored x7 (notInt_box _ _ _ _) (.bool t7) (.slice B7 k7 d7)).stored y8 (notInt_box _ _ _ _) (.bool t8) (.slice B8 k8 d8)
          have hF := below_stored (g := v1.heap.size) (below_stored (g := v15.heap.size) hG (by omega) (.bool t7) (.slice B7 k7 d7)) (by omega) (.bool t8) (.slice B8 k8 d8)
          go_wp2_with fail
          go_meet
          exact ⟨v15.heap.size, v1.heap.size, t7, B7, k7, d7, t8, B8, k8, d8, rfl, rfl, j7, j8, z7, z8, hF⟩
    · go_simp
      obtain ⟨v4, hV, x7, hb9, szv4⟩ := boxes1 v #[.bool false, .slice none 0 0] 32
      rw [hV]
      clear hV
      replace szv4 : v.heap.size < v4.heap.size := by omega
      replace hG := hG.trans (hb9.mono sG)
      replace sG := hG.size
      clear hb9
      refine hK.out _ _ ?_ (fun hHeld => ?_)
      · exact ⟨(b0.below hG).cell 0 _ rfl, (b0.below hG).cell 1 _ rfl, (b1.below hG).cell 0 _ rfl, (b1.below hG).cell 1 _ rfl⟩
      clear hK K
      (try simp only [List.getElem_toArray, List.getElem_cons_succ, List.getElem_cons_zero, Act.put, List.setIfInBounds_toArray, List.set_cons_zero, List.set_cons_succ])
      refine wpAnyH_ready (rs := [1, 5]) (by kernel_rfl) (by simp) (AllReadyH.cons (o := _) rfl (fun K hK => ?_) (AllReadyH.cons (o := _) rfl (fun K hK => ?_) AllReadyH.nil))
      · go_simp
        go_at_call 6
        refine (refI_v (f0.below hG)).mono ?_
        rintro e v41 ⟨t7, B7, k7, d7, rfl, hI7, hb9⟩
        have szv41 := hb9.size
        replace x7 := x7.below hb9
        replace hG := hG.trans (hb9.mono sG)
        replace sG := hG.size
        clear hb9
        go_wp2_with fail
        refine hK.out _ _ ?_ (fun hHeld => ?_)
        · exact ⟨(b0.below hG).cell 0 _ rfl, (b0.below hG).cell 1 _ rfl, (b1.below hG).cell 0 _ rfl, (b1.below hG).cell 1 _ rfl⟩
        clear hK K
        (try simp only [List.getElem_toArray, List.getElem_cons_succ, List.getElem_cons_zero, Act.put, List.setIfInBounds_toArray, List.set_cons_zero, List.set_cons_succ])
        refine wpAnyH_ready (rs := [3, 5]) (by kernel_rfl) (by simp) (AllReadyH.cons (o := _) rfl (fun K hK => ?_) (AllReadyH.cons (o := _) rfl (fun K hK => ?_) AllReadyH.nil))
        · go_simp
          go_at_call 6
          refine (refI_v (f1.below hG)).mono ?_
          rintro e v413 ⟨t8, B8, k8, d8, rfl, hI8, hb9⟩
          have szv413 := hb9.size
          replace x7 := x7.below hb9
          replace hI7 := hI7.below hb9
          replace hG := hG.trans (hb9.mono sG)
          replace sG := hG.size
          clear hb9
          go_wp2_with fail
          refine hK.out _ _ ?_ (fun hHeld => ?_)
          · exact ⟨(b0.below hG).cell 0 _ rfl, (b0.below hG).cell 1 _ rfl, (b1.below hG).cell 0 _ rfl, (b1.below hG).cell 1 _ rfl⟩
          clear hK K
          (try simp only [List.getElem_toArray, List.getElem_cons_succ, List.getElem_cons_zero, Act.put, List.setIfInBounds_toArray, List.set_cons_zero, List.set_cons_succ])
          refine wpAnyH_ready (rs := [5]) (by kernel_rfl) (by simp) (AllReadyH.cons (o := _) rfl (fun K hK => ?_) AllReadyH.nil)
          go_simp
          obtain ⟨v4135, hV, x8, hb9, szv4135⟩ := boxes1 v413 #[.bool false, .slice none 0 0] 32
          rw [hV]
          clear hV
          replace szv4135 : v413.heap.size < v4135.heap.size := by omega
          replace x7 := x7.below hb9
          replace hI7 := hI7.below hb9
          replace hI8 := hI8.below hb9
          replace hG := hG.trans (hb9.mono sG)
          replace sG := hG.size
          clear hb9
          refine hK.out _ _ ?_ (fun hHeld => ?_)
          · exact ⟨(b0.below hG).cell 0 _ rfl, (b0.below hG).cell 1 _ rfl, (b1.below hG).cell 0 _ rfl, (b1.below hG).cell 1 _ rfl⟩
          clear hK K
          (try simp only [List.getElem_toArray, List.getElem_cons_succ, List.getElem_cons_zero, Act.put, List.setIfInBounds_toArray, List.set_cons_zero, List.set_cons_succ])
          have r0 := x7.cell 0 _ rfl
          have r1 := x7.cell 1 _ rfl
          have f0 := x7.frozen 0
          have f1 := x7.frozen 1
          have r2 := x8.cell 0 _ rfl
          have r3 := x8.cell 1 _ rfl
          have f2 := x8.frozen 0
          have f3 := x8.frozen 1
          have ne78 : v413.heap.size ≠ v.heap.size := by omega
          have ne87 : v.heap.size ≠ v413.heap.size := by omega
          refine wpAnyH_ready (rs := [6]) (by kernel_rfl) (by simp) (AllReadyH.cons (o := _) rfl (fun K hK => ?_) AllReadyH.nil)
          go_simp
          refine hK.out _ _ ?_ (fun hHeld => ?_)
          · exact ⟨((b0.below hG).far (g' := v.heap.size) (by omega) _ _).cell 0 _ rfl, ((b0.below hG).far (g' := v.heap.size) (by omega) _ _).cell 1 _ rfl, ((b1.below hG).far (g' := v.heap.size) (by omega) _ _).cell 0 _ rfl, ((b1.below hG).far (g' := v.heap.size) (by omega) _ _).cell 1 _ rfl⟩
          clear hK K
          (try simp only [List.getElem_toArray, List.getElem_cons_succ, List.getElem_cons_zero, Act.put, List.setIfInBounds_toArray, List.set_cons_zero, List.set_cons_succ])
          have y8 := x8.far (g' := v.heap.size) ne78 (.bool t7) (.slice B7 k7 d7)
          have y7 := x7.stored (.bool t7) (.slice B7 k7 d7)
          have r2 := y8.cell 0 _ rfl
          have r3 := y8.cell 1 _ rfl
          have f2 := y8.frozen 0
          have f3 := y8.frozen 1
          refine wpAnyH_ready (rs := [7]) (by kernel_rfl) (by simp) (AllReadyH.cons (o := _) rfl (fun K hK => ?_) AllReadyH.nil)
          go_simp
          refine hK.out _ _ ?_ (fun hHeld => ?_)
          · exact ⟨((((b0.below hG).far (g' := v.heap.size) (by omega) _ _)).far (g' := v413.heap.size) (by omega) _ _).cell 0 _ rfl, ((((b0.below hG).far (g' := v.heap.size) (by omega) _ _)).far (g' := v413.heap.size) (by omega) _ _).cell 1 _ rfl, ((((b1.below hG).far (g' := v.heap.size) (by omega) _ _)).far (g' := v413.heap.size) (by omega) _ _).cell 0 _ rfl, ((((b1.below hG).far (g' := v.heap.size) (by omega) _ _)).far (g' := v413.heap.size) (by omega) _ _).cell 1 _ rfl⟩
          clear hK K
          (try simp only [List.getElem_toArray, List.getElem_cons_succ, List.getElem_cons_zero, Act.put, List.setIfInBounds_toArray, List.set_cons_zero, List.set_cons_succ])
          refine wpAnyH_done (by kernel_rfl) ?_ _
          refine NoPanic.normal ?_
          have z8 := y8.stored (.bool t8) (.slice B8 k8 d8)
          have z7 := y7.far (g' := v413.heap.size) ne87 (.bool t8) (.slice B8 k8 d8)
          have j7 := (hI7.stored x7 (notInt_box _ _ _ _) (.bool t7) (.slice B7 k7 d7)).stored y8 (notInt_box _ _ _ _) (.bool t8) (.slice B8 k8 d8)
          have j8 := (hI8.stored x7 (notInt_box _ _ _ _) (.bool t7) (.slice B7 k7 d7)).stored y8 (notInt_box _ _ _ _) (.bool t8) (.slice B8 k8 d8)
          have hF := below_stored (g := v413.heap.size) (below_stored (g := v.heap.size) hG (by omega) (.bool t7) (.slice B7 k7 d7)) (by omega) (.bool t8) (.slice B8 k8 d8)
          go_wp2_with fail
          go_meet
          exact ⟨v.heap.size, v413.heap.size, t7, B7, k7, d7, t8, B8, k8, d8, rfl, rfl, j7, j8, z7, z8, hF⟩
        · go_simp
          obtain ⟨v415, hV, x8, hb9, szv415⟩ := boxes1 v41 #[.bool false, .slice none 0 0] 32
          rw [hV]
          clear hV
          replace szv415 : v41.heap.size < v415.heap.size := by omega
          replace x7 := x7.below hb9
          replace hI7 := hI7.below hb9
          replace hG := hG.trans (hb9.mono sG)
          replace sG := hG.size
          clear hb9
          refine hK.out _ _ ?_ (fun hHeld => ?_)
          · exact ⟨(b0.below hG).cell 0 _ rfl, (b0.below hG).cell 1 _ rfl, (b1.below hG).cell 0 _ rfl, (b1.below hG).cell 1 _ rfl⟩
          clear hK K
          (try simp only [List.getElem_toArray, List.getElem_cons_succ, List.getElem_cons_zero, Act.put, List.setIfInBounds_toArray, List.set_cons_zero, List.set_cons_succ])
          refine wpAnyH_ready (rs := [3]) (by kernel_rfl) (by simp) (AllReadyH.cons (o := _) rfl (fun K hK => ?_) AllReadyH.nil)
          go_simp
          go_at_call 6
          refine (refI_v (f1.below hG)).mono ?_
          rintro e v4153 ⟨t8, B8, k8, d8, rfl, hI8, hb9⟩
          have szv4153 := hb9.size
          replace x7 := x7.below hb9
          replace x8 := x8.below hb9
          replace hI7 := hI7.below hb9
          replace hG := hG.trans (hb9.mono sG)
          replace sG := hG.size
          clear hb9
          go_wp2_with fail
          refine hK.out _ _ ?_ (fun hHeld => ?_)
          · exact ⟨(b0.below hG).cell 0 _ rfl, (b0.below hG).cell 1 _ rfl, (b1.below hG).cell 0 _ rfl, (b1.below hG).cell 1 _ rfl⟩
          clear hK K
          (try simp only [List.getElem_toArray, List.getElem_cons_succ, List.getElem_cons_zero, Act.put, List.setIfInBounds_toArray, List.set_cons_zero, List.set_cons_succ])
          have r0 := x7.cell 0 _ rfl
          have r1 := x7.cell 1 _ rfl
          have f0 := x7.frozen 0
          have f1 := x7.frozen 1
          have r2 := x8.cell 0 _ rfl
          have r3 := x8.cell 1 _ rfl
          have f2 := x8.frozen 0
          have f3 := x8.frozen 1
          have ne78 : v41.heap.size ≠ v.heap.size := by omega
          have ne87 : v.heap.size ≠ v41.heap.size := by omega
          refine wpAnyH_ready (rs := [6]) (by kernel_rfl) (by simp) (AllReadyH.cons (o := _) rfl (fun K hK => ?_) AllReadyH.nil)
          go_simp
          refine hK.out _ _ ?_ (fun hHeld => ?_)
          · exact ⟨((b0.below hG).far (g' := v.heap.size) (by omega) _ _).cell 0 _ rfl, ((b0.below hG).far (g' := v.heap.size) (by omega) _ _).cell 1 _ rfl, ((b1.below hG).far (g' := v.heap.size) (by omega) _ _).cell 0 _ rfl, ((b1.below hG).far (g' := v.heap.size) (by omega) _ _).cell 1 _ rfl⟩
          clear hK K
          (try simp only [List.getElem_toArray, List.getElem_cons_succ, List.getElem_cons_zero, Act.put, List.setIfInBounds_toArray, List.set_cons_zero, List.set_cons_succ])
          have y8 := x8.far (g' := v.heap.size) ne78 (.bool t7) (.slice B7 k7 d7)
          have y7 := x7.stored (.bool t7) (.slice B7 k7 d7)
          have r2 := y8.cell 0 _ rfl
          have r3 := y8.cell 1 _ rfl
          have f2 := y8.frozen 0
          have f3 := y8.frozen 1
          refine wpAnyH_ready (rs := [7]) (by kernel_rfl) (by simp) (AllReadyH.cons (o := _) rfl (fun K hK => ?_) AllReadyH.nil)
          go_simp
          refine hK.out _ _ ?_ (fun hHeld => ?_)
          · exact ⟨((((b0.below hG).far (g' := v.heap.size) (by omega) _ _)).far (g' := v41.heap.size) (by omega) _ _).cell 0 _ rfl, ((((b0.below hG).far (g' := v.heap.size) (by omega) _ _)).far (g' := v41.heap.size) (by omega) _ _).cell 1 _ rfl, ((((b1.below hG).far (g' := v.heap.size) (by omega) _ _)).far (g' := v41.heap.size) (by omega) _ _).cell 0 _ rfl, ((((b1.below hG).far (g' := v.heap.size) (by omega) _ _)).far (g' := v41.heap.size) (by omega) _ _).cell 1 _ rfl⟩
          clear hK K
          (try simp only [List.getElem_toArray, List.getElem_cons_succ, List.getElem_cons_zero, Act.put, List.setIfInBounds_toArray, List.set_cons_zero, List.set_cons_succ])
          refine wpAnyH_done (by kernel_rfl) ?_ _
          refine NoPanic.normal ?_
          have z8 := y8.stored (.bool t8) (.slice B8 k8 d8)
          have z7 := y7.far (g' := v41.heap.size) ne87 (.bool t8) (.slice B8 k8 d8)
          have j7 := (hI7.stored x7 (notInt_box _ _ _ _) (.bool t7) (.slice B7 k7 d7)).stored y8 (notInt_box _ _ _ _) (.bool t8) (.slice B8 k8 d8)
          have j8 := (hI8.stored x7 (notInt_box _ _ _ _) (.bool t7) (.slice B7 k7 d7)).stored y8 (notInt_box _ _ _ _) (.bool t8) (.slice B8 k8 d8)
          have hF := below_stored (g := v41.heap.size) (below_stored (g := v.heap.size) hG (by omega) (.bool t7) (.slice B7 k7 d7)) (by omega) (.bool t8) (.slice B8 k8 d8)
          go_wp2_with fail
          go_meet
          exact ⟨v.heap.size, v41.heap.size, t7, B7, k7, d7, t8, B8, k8, d8, rfl, rfl, j7, j8, z7, z8, hF⟩
      · go_simp
        obtain ⟨v45, hV, x8, hb9, szv45⟩ := boxes1 v4 #[.bool false, .slice none 0 0] 32
        rw [hV]
        clear hV
        replace szv45 : v4.heap.size < v45.heap.size := by omega
        replace x7 := x7.below hb9
        replace hG := hG.trans (hb9.mono sG)
        replace sG := hG.size
        clear hb9
        refine hK.out _ _ ?_ (fun hHeld => ?_)
        · exact ⟨(b0.below hG).cell 0 _ rfl, (b0.below hG).cell 1 _ rfl, (b1.below hG).cell 0 _ rfl, (b1.below hG).cell 1 _ rfl⟩
        clear hK K
        (try simp only [List.getElem_toArray, List.getElem_cons_succ, List.getElem_cons_zero, Act.put, List.setIfInBounds_toArray, List.set_cons_zero, List.set_cons_succ])
        refine wpAnyH_ready (rs := [1]) (by kernel_rfl) (by simp) (AllReadyH.cons (o := _) rfl (fun K hK => ?_) AllReadyH.nil)
        go_simp
        go_at_call 6
        refine (refI_v (f0.below hG)).mono ?_
        rintro e v451 ⟨t7, B7, k7, d7, rfl, hI7, hb9⟩
        have szv451 := hb9.size
        replace x7 := x7.below hb9
        replace x8 := x8.below hb9
        replace hG := hG.trans (hb9.mono sG)
        replace sG := hG.size
        clear hb9
        go_wp2_with fail
        refine hK.out _ _ ?_ (fun hHeld => ?_)
        · exact ⟨(b0.below hG).cell 0 _ rfl, (b0.below hG).cell 1 _ rfl, (b1.below hG).cell 0 _ rfl, (b1.below hG).cell 1 _ rfl⟩
        clear hK K
        (try simp only [List.getElem_toArray, List.getElem_cons_succ, List.getElem_cons_zero, Act.put, List.setIfInBounds_toArray, List.set_cons_zero, List.set_cons_succ])
        refine wpAnyH_ready (rs := [3]) (by kernel_rfl) (by simp) (AllReadyH.cons (o := _) rfl (fun K hK => ?_) AllReadyH.nil)
        go_simp
        go_at_call 6
        refine (refI_v (f1.below hG)).mono ?_
        rintro e v4513 ⟨t8, B8, k8, d8, rfl, hI8, hb9⟩
        have szv4513 := hb9.size
        replace x7 := x7.below hb9
        replace x8 := x8.below hb9
        replace hI7 := hI7.below hb9
        replace hG := hG.trans (hb9.mono sG)
        replace sG := hG.size
        clear hb9
        go_wp2_with fail
        refine hK.out _ _ ?_ (fun hHeld => ?_)
        · exact ⟨(b0.below hG).cell 0 _ rfl, (b0.below hG).cell 1 _ rfl, (b1.below hG).cell 0 _ rfl, (b1.below hG).cell 1 _ rfl⟩
        clear hK K
        (try simp only [List.getElem_toArray, List.getElem_cons_succ, List.getElem_cons_zero, Act.put, List.setIfInBounds_toArray, List.set_cons_zero, List.set_cons_succ])
        have r0 := x7.cell 0 _ rfl
        have r1 := x7.cell 1 _ rfl
        have f0 := x7.frozen 0
        have f1 := x7.frozen 1
        have r2 := x8.cell 0 _ rfl
        have r3 := x8.cell 1 _ rfl
        have f2 := x8.frozen 0
        have f3 := x8.frozen 1
        have ne78 : v4.heap.size ≠ v.heap.size := by omega
        have ne87 : v.heap.size ≠ v4.heap.size := by omega
        refine wpAnyH_ready (rs := [6]) (by kernel_rfl) (by simp) (AllReadyH.cons (o := _) rfl (fun K hK => ?_) AllReadyH.nil)
        go_simp
        refine hK.out _ _ ?_ (fun hHeld => ?_)
        · exact ⟨((b0.below hG).far (g' := v.heap.size) (by omega) _ _).cell 0 _ rfl, ((b0.below hG).far (g' := v.heap.size) (by omega) _ _).cell 1 _ rfl, ((b1.below hG).far (g' := v.heap.size) (by omega) _ _).cell 0 _ rfl, ((b1.below hG).far (g' := v.heap.size) (by omega) _ _).cell 1 _ rfl⟩
        clear hK K
        (try simp only [List.getElem_toArray, List.getElem_cons_succ, List.getElem_cons_zero, Act.put, List.setIfInBounds_toArray, List.set_cons_zero, List.set_cons_succ])
        have y8 := x8.far (g' := v.heap.size) ne78 (.bool t7) (.slice B7 k7 d7)
        have y7 := x7.stored (.bool t7) (.slice B7 k7 d7)
        have r2 := y8.cell 0 _ rfl
        have r3 := y8.cell 1 _ rfl
        have f2 := y8.frozen 0
        have f3 := y8.frozen 1
        refine wpAnyH_ready (rs := [7]) (by kernel_rfl) (by simp) (AllReadyH.cons (o := _) rfl (fun K hK => ?_) AllReadyH.nil)
        go_simp
        refine hK.out _ _ ?_ (fun hHeld => ?_)
        · exact ⟨((((b0.below hG).far (g' := v.heap.size) (by omega) _ _)).far (g' := v4.heap.size) (by omega) _ _).cell 0 _ rfl, ((((b0.below hG).far (g' := v.heap.size) (by omega) _ _)).far (g' := v4.heap.size) (by omega) _ _).cell 1 _ rfl, ((((b1.below hG).far (g' := v.heap.size) (by omega) _ _)).far (g' := v4.heap.size) (by omega) _ _).cell 0 _ rfl, ((((b1.below hG).far (g' := v.heap.size) (by omega) _ _)).far (g' := v4.heap.size) (by omega) _ _).cell 1 _ rfl⟩
        clear hK K
        (try simp only [List.getElem_toArray, List.getElem_cons_succ, List.getElem_cons_zero, Act.put, List.setIfInBounds_toArray, List.set_cons_zero, List.set_cons_succ])
        refine wpAnyH_done (by kernel_rfl) ?_ _
        refine NoPanic.normal ?_
        have z8 := y8.stored (.bool t8) (.slice B8 k8 d8)
        have z7 := y7.far (g' := v4.heap.size) ne87 (.bool t8) (.slice B8 k8 d8)
        have j7 := (hI7.stored x7 (notInt_box _ _ _ _) (.bool t7) (.slice B7 k7 d7)).stored y8 (notInt_box _ _ _ _) (.bool t8) (.slice B8 k8 d8)
        have j8 := (hI8.stored x7 (notInt_box _ _ _ _) (.bool t7) (.slice B7 k7 d7)).stored y8 (notInt_box _ _ _ _) (.bool t8) (.slice B8 k8 d8)
        have hF := below_stored (g := v4.heap.size) (below_stored (g := v.heap.size) hG (by omega) (.bool t7) (.slice B7 k7 d7)) (by omega) (.bool t8) (.slice B8 k8 d8)
        go_wp2_with fail
        go_meet
        exact ⟨v.heap.size, v4.heap.size, t7, B7, k7, d7, t8, B8, k8, d8, rfl, rfl, j7, j8, z7, z8, hF⟩
    · go_simp
      obtain ⟨v5, hV, x8, hb9, szv5⟩ := boxes1 v #[.bool false, .slice none 0 0] 32
      rw [hV]
      clear hV
      replace szv5 : v.heap.size < v5.heap.size := by omega
      replace hG := hG.trans (hb9.mono sG)
      replace sG := hG.size
      clear hb9
      refine hK.out _ _ ?_ (fun hHeld => ?_)
      · exact ⟨(b0.below hG).cell 0 _ rfl, (b0.below hG).cell 1 _ rfl, (b1.below hG).cell 0 _ rfl, (b1.below hG).cell 1 _ rfl⟩
      clear hK K
      (try simp only [List.getElem_toArray, List.getElem_cons_succ, List.getElem_cons_zero, Act.put, List.setIfInBounds_toArray, List.set_cons_zero, List.set_cons_succ])
      refine wpAnyH_ready (rs := [1, 4]) (by kernel_rfl) (by simp) (AllReadyH.cons (o := _) rfl (fun K hK => ?_) (AllReadyH.cons (o := _) rfl (fun K hK => ?_) AllReadyH.nil))
      · go_simp
        go_at_call 6
        refine (refI_v (f0.below hG)).mono ?_
        rintro e v51 ⟨t7, B7, k7, d7, rfl, hI7, hb9⟩
        have szv51 := hb9.size
        replace x8 := x8.below hb9
        replace hG := hG.trans (hb9.mono sG)
        replace sG := hG.size
        clear hb9
        go_wp2_with fail
        refine hK.out _ _ ?_ (fun hHeld => ?_)
        · exact ⟨(b0.below hG).cell 0 _ rfl, (b0.below hG).cell 1 _ rfl, (b1.below hG).cell 0 _ rfl, (b1.below hG).cell 1 _ rfl⟩
        clear hK K
        (try simp only [List.getElem_toArray, List.getElem_cons_succ, List.getElem_cons_zero, Act.put, List.setIfInBounds_toArray, List.set_cons_zero, List.set_cons_succ])
        refine wpAnyH_ready (rs := [3, 4]) (by kernel_rfl) (by simp) (AllReadyH.cons (o := _) rfl (fun K hK => ?_) (AllReadyH.cons (o := _) rfl (fun K hK => ?_) AllReadyH.nil))
        · go_simp
          go_at_call 6
          refine (refI_v (f1.below hG)).mono ?_
          rintro e v513 ⟨t8, B8, k8, d8, rfl, hI8, hb9⟩
          have szv513 := hb9.size
          replace x8 := x8.below hb9
          replace hI7 := hI7.below hb9
          replace hG := hG.trans (hb9.mono sG)
          replace sG := hG.size
          clear hb9
          go_wp2_with fail
          refine hK.out _ _ ?_ (fun hHeld => ?_)
          · exact ⟨(b0.below hG).cell 0 _ rfl, (b0.below hG).cell 1 _ rfl, (b1.below hG).cell 0 _ rfl, (b1.below hG).cell 1 _ rfl⟩
          clear hK K
          (try simp only [List.getElem_toArray, List.getElem_cons_succ, List.getElem_cons_zero, Act.put, List.setIfInBounds_toArray, List.set_cons_zero, List.set_cons_succ])
          refine wpAnyH_ready (rs := [4]) (by kernel_rfl) (by simp) (AllReadyH.cons (o := _) rfl (fun K hK => ?_) AllReadyH.nil)
          go_simp
          obtain ⟨v5134, hV, x7, hb9, szv5134⟩ := boxes1 v513 #[.bool false, .slice none 0 0] 32
          rw [hV]
          clear hV
          replace szv5134 : v513.heap.size < v5134.heap.size := by omega
          replace x8 := x8.below hb9
          replace hI7 := hI7.below hb9
          replace hI8 := hI8.below hb9
          replace hG := hG.trans (hb9.mono sG)
          replace sG := hG.size
          clear hb9
          refine hK.out _ _ ?_ (fun hHeld => ?_)
          · exact ⟨(b0.below hG).cell 0 _ rfl, (b0.below hG).cell 1 _ rfl, (b1.below hG).cell 0 _ rfl, (b1.below hG).cell 1 _ rfl⟩
          clear hK K
          (try simp only [List.getElem_toArray, List.getElem_cons_succ, List.getElem_cons_zero, Act.put, List.setIfInBounds_toArray, List.set_cons_zero, List.set_cons_succ])
          have r0 := x7.cell 0 _ rfl
          have r1 := x7.cell 1 _ rfl
          have f0 := x7.frozen 0
          have f1 := x7.frozen 1
          have r2 := x8.cell 0 _ rfl
          have r3 := x8.cell 1 _ rfl
          have f2 := x8.frozen 0
          have f3 := x8.frozen 1
          have ne78 : v.heap.size ≠ v513.heap.size := by omega
          have ne87 : v513.heap.size ≠ v.heap.size := by omega
          refine wpAnyH_ready (rs := [6]) (by kernel_rfl) (by simp) (AllReadyH.cons (o := _) rfl (fun K hK => ?_) AllReadyH.nil)
          go_simp
          refine hK.out _ _ ?_ (fun hHeld => ?_)
          · exact ⟨((b0.below hG).far (g' := v513.heap.size) (by omega) _ _).cell 0 _ rfl, ((b0.below hG).far (g' := v513.heap.size) (by omega) _ _).cell 1 _ rfl, ((b1.below hG).far (g' := v513.heap.size) (by omega) _ _).cell 0 _ rfl, ((b1.below hG).far (g' := v513.heap.size) (by omega) _ _).cell 1 _ rfl⟩
          clear hK K
          (try simp only [List.getElem_toArray, List.getElem_cons_succ, List.getElem_cons_zero, Act.put, List.setIfInBounds_toArray, List.set_cons_zero, List.set_cons_succ])
          have y8 := x8.far (g' := v513.heap.size) ne78 (.bool t7) (.slice B7 k7 d7)
          have y7 := x7.stored (.bool t7) (.slice B7 k7 d7)
          have r2 := y8.cell 0 _ rfl
          have r3 := y8.cell 1 _ rfl
          have f2 := y8.frozen 0
          have f3 := y8.frozen 1
          refine wpAnyH_ready (rs := [7]) (by kernel_rfl) (by simp) (AllReadyH.cons (o := _) rfl (fun K hK => ?_) AllReadyH.nil)
          go_simp
          refine hK.out _ _ ?_ (fun hHeld => ?_)
          · exact ⟨((((b0.below hG).far (g' := v513.heap.size) (by omega) _ _)).far (g' := v.heap.size) (by omega) _ _).cell 0 _ rfl, ((((b0.below hG).far (g' := v513.heap.size) (by omega) _ _)).far (g' := v.heap.size) (by omega) _ _).cell 1 _ rfl, ((((b1.below hG).far (g' := v513.heap.size) (by omega) _ _)).far (g' := v.heap.size) (by omega) _ _).cell 0 _ rfl, ((((b1.below hG).far (g' := v513.heap.size) (by omega) _ _)).far (g' := v.heap.size) (by omega) _ _).cell 1 _ rfl⟩
          clear hK K
          (try simp only [List.getElem_toArray, List.getElem_cons_succ, List.getElem_cons_zero, Act.put, List.setIfInBounds_toArray, List.set_cons_zero, List.set_cons_succ])
          refine wpAnyH_done (by kernel_rfl) ?_ _
          refine NoPanic.normal ?_
          have z8 := y8.stored (.bool t8) (.slice B8 k8 d8)
          have z7 := y7.far (g' := v.heap.size) ne87 (.bool t8) (.slice B8 k8 d8)
          have j7 := (hI7.stored x7 (notInt_box _ _ _ _) (.bool t7) (.slice B7 k7 d7)).stored y8 (notInt_box _ _ _ _) (.bool t8) (.slice B8 k8 d8)
          have j8 := (hI8.stored x7 (notInt_box _ _ _ _) (.bool t7) (.slice B7 k7 d7)).stored y8 (notInt_box _ _ _ _) (.bool t8) (.slice B8 k8 d8)
          have hF := below_stored (g := v.heap.size) (below_stored (g := v513.heap.size) hG (by omega) (.bool t7) (.slice B7 k7 d7)) (by omega) (.bool t8) (.slice B8 k8 d8)
          go_wp2_with fail
          go_meet
          exact ⟨v513.heap.size, v.heap.size, t7, B7, k7, d7, t8, B8, k8, d8, rfl, rfl, j7, j8, z7, z8, hF⟩
        · go_simp
          obtain ⟨v514, hV, x7, hb9, szv514⟩ := boxes1 v51 #[.bool false, .slice none 0 0] 32
          rw [hV]
          clear hV
          replace szv514 : v51.heap.size < v514.heap.size := by omega
          replace x8 := x8.below hb9
          replace hI7 := hI7.below hb9
          replace hG := hG.trans (hb9.mono sG)
          replace sG := hG.size
          clear hb9
          refine hK.out _ _ ?_ (fun hHeld => ?_)
          · exact ⟨(b0.below hG).cell 0 _ rfl, (b0.below hG).cell 1 _ rfl, (b1.below hG).cell 0 _ rfl, (b1.below hG).cell 1 _ rfl⟩
          clear hK K
          (try simp only [List.getElem_toArray, List.getElem_cons_succ, List.getElem_cons_zero, Act.put, List.setIfInBounds_toArray, List.set_cons_zero, List.set_cons_succ])
          refine wpAnyH_ready (rs := [3]) (by kernel_rfl) (by simp) (AllReadyH.cons (o := _) rfl (fun K hK => ?_) AllReadyH.nil)
          go_simp
          go_at_call 6
          refine (refI_v (f1.below hG)).mono ?_
          rintro e v5143 ⟨t8, B8, k8, d8, rfl, hI8, hb9⟩
          have szv5143 := hb9.size
          replace x7 := x7.below hb9
          replace x8 := x8.below hb9
          replace hI7 := hI7.below hb9
          replace hG := hG.trans (hb9.mono sG)
          replace sG := hG.size
          clear hb9
          go_wp2_with fail
          refine hK.out _ _ ?_ (fun hHeld => ?_)
          · exact ⟨(b0.below hG).cell 0 _ rfl, (b0.below hG).cell 1 _ rfl, (b1.below hG).cell 0 _ rfl, (b1.below hG).cell 1 _ rfl⟩
          clear hK K
          (try simp only [List.getElem_toArray, List.getElem_cons_succ, List.getElem_cons_zero, Act.put, List.setIfInBounds_toArray, List.set_cons_zero, List.set_cons_succ])
          have r0 := x7.cell 0 _ rfl
          have r1 := x7.cell 1 _ rfl
          have f0 := x7.frozen 0
          have f1 := x7.frozen 1
          have r2 := x8.cell 0 _ rfl
          have r3 := x8.cell 1 _ rfl
          have f2 := x8.frozen 0
          have f3 := x8.frozen 1
          have ne78 : v.heap.size ≠ v51.heap.size := by omega
          have ne87 : v51.heap.size ≠ v.heap.size := by omega
          refine wpAnyH_ready (rs := [6]) (by kernel_rfl) (by simp) (AllReadyH.cons (o := _) rfl (fun K hK => ?_) AllReadyH.nil)
          go_simp
          refine hK.out _ _ ?_ (fun hHeld => ?_)
          · exact ⟨((b0.below hG).far (g' := v51.heap.size) (by omega) _ _).cell 0 _ rfl, ((b0.below hG).far (g' := v51.heap.size) (by omega) _ _).cell 1 _ rfl, ((b1.below hG).far (g' := v51.heap.size) (by omega) _ _).cell 0 _ rfl, ((b1.below hG).far (g' := v51.heap.size) (by omega) _ _).cell 1 _ rfl⟩
          clear hK K
          (try simp only [List.getElem_toArray, List.getElem_cons_succ, List.getElem_cons_zero, Act.put, List.setIfInBounds_toArray, List.set_cons_zero, List.set_cons_succ])
          have y8 := x8.far (g' := v51.heap.size) ne78 (.bool t7) (.slice B7 k7 d7)
          have y7 := x7.stored (.bool t7) (.slice B7 k7 d7)
          have r2 := y8.cell 0 _ rfl
          have r3 := y8.cell 1 _ rfl
          have f2 := y8.frozen 0
          have f3 := y8.frozen 1
          refine wpAnyH_ready (rs := [7]) (by kernel_rfl) (by simp) (AllReadyH.cons (o := _) rfl (fun K hK => ?_) AllReadyH.nil)
          go_simp
          refine hK.out _ _ ?_ (fun hHeld => ?_)
          · exact ⟨((((b0.below hG).far (g' := v51.heap.size) (by omega) _ _)).far (g' := v.heap.size) (by omega) _ _).cell 0 _ rfl, ((((b0.below hG).far (g' := v51.heap.size) (by omega) _ _)).far (g' := v.heap.size) (by omega) _ _).cell 1 _ rfl, ((((b1.below hG).far (g' := v51.heap.size) (by omega) _ _)).far (g' := v.heap.size) (by omega) _ _).cell 0 _ rfl, ((((b1.below hG).far (g' := v51.heap.size) (by omega) _ _)).far (g' := v.heap.size) (by omega) _ _).cell 1 _ rfl⟩
          clear hK K
          (try simp only [List.getElem_toArray, List.getElem_cons_succ, List.getElem_cons_zero, Act.put, List.setIfInBounds_toArray, List.set_cons_zero, List.set_cons_succ])
          refine wpAnyH_done (by kernel_rfl) ?_ _
          refine NoPanic.normal ?_
          have z8 := y8.stored (.bool t8) (.slice B8 k8 d8)
          have z7 := y7.far (g' := v.heap.size) ne87 (.bool t8) (.slice B8 k8 d8)
          have j7 := (hI7.stored x7 (notInt_box _ _ _ _) (.bool t7) (.slice B7 k7 d7)).stored y8 (notInt_box _ _ _ _) (.bool t8) (.slice B8 k8 d8)
          have j8 := (hI8.stored x7 (notInt_box _ _ _ _) (.bool t7) (.slice B7 k7 d7)).stored y8 (notInt_box _ _ _ _) (.bool t8) (.slice B8 k8 d8)
          have hF := below_stored (g := v.heap.size) (below_stored (g := v51.heap.size) hG (by omega) (.bool t7) (.slice B7 k7 d7)) (by omega) (.bool t8) (.slice B8 k8 d8)
          go_wp2_with fail
          go_meet
          exact ⟨v51.heap.size, v.heap.size, t7, B7, k7, d7, t8, B8, k8, d8, rfl, rfl, j7, j8, z7, z8, hF⟩
      · go_simp
        obtain ⟨v54, hV, x7, hb9, szv54⟩ := boxes1 v5 #[.bool false, .slice none 0 0] 32
        rw [hV]
        clear hV
        replace szv54 : v5.heap.size < v54.heap.size := by omega
        replace x8 := x8.below hb9
        replace hG := hG.trans (hb9.mono sG)
        replace sG := hG.size
        clear hb9
        refine hK.out _ _ ?_ (fun hHeld => ?_)
        · exact ⟨(b0.below hG).cell 0 _ rfl, (b0.below hG).cell 1 _ rfl, (b1.below hG).cell 0 _ rfl, (b1.below hG).cell 1 _ rfl⟩
        clear hK K
        (try simp only [List.getElem_toArray, List.getElem_cons_succ, List.getElem_cons_zero, Act.put, List.setIfInBounds_toArray, List.set_cons_zero, List.set_cons_succ])
        refine wpAnyH_ready (rs := [1]) (by kernel_rfl) (by simp) (AllReadyH.cons (o := _) rfl (fun K hK => ?_) AllReadyH.nil)
        go_simp
        go_at_call 6
        refine (refI_v (f0.below hG)).mono ?_
        rintro e v541 ⟨t7, B7, k7, d7, rfl, hI7, hb9⟩
        have szv541 := hb9.size
        replace x7 := x7.below hb9
        replace x8 := x8.below hb9
        replace hG := hG.trans (hb9.mono sG)
        replace sG := hG.size
        clear hb9
        go_wp2_with fail
        refine hK.out _ _ ?_ (fun hHeld => ?_)
        · exact ⟨(b0.below hG).cell 0 _ rfl, (b0.below hG).cell 1 _ rfl, (b1.below hG).cell 0 _ rfl, (b1.below hG).cell 1 _ rfl⟩
        clear hK K
        (try simp only [List.getElem_toArray, List.getElem_cons_succ, List.getElem_cons_zero, Act.put, List.setIfInBounds_toArray, List.set_cons_zero, List.set_cons_succ])
        refine wpAnyH_ready (rs := [3]) (by kernel_rfl) (by simp) (AllReadyH.cons (o := _) rfl (fun K hK => ?_) AllReadyH.nil)
        go_simp
        go_at_call 6
        refine (refI_v (f1.below hG)).mono ?_
        rintro e v5413 ⟨t8, B8, k8, d8, rfl, hI8, hb9⟩
        have szv5413 := hb9.size
        replace x7 := x7.below hb9
        replace x8 := x8.below hb9
        replace hI7 := hI7.below hb9
        replace hG := hG.trans (hb9.mono sG)
        replace sG := hG.size
        clear hb9
        go_wp2_with fail
        refine hK.out _ _ ?_ (fun hHeld => ?_)
        · exact ⟨(b0.below hG).cell 0 _ rfl, (b0.below hG).cell 1 _ rfl, (b1.below hG).cell 0 _ rfl, (b1.below hG).cell 1 _ rfl⟩
        clear hK K
        (try simp only [List.getElem_toArray, List.getElem_cons_succ, List.getElem_cons_zero, Act.put, List.setIfInBounds_toArray, List.set_cons_zero, List.set_cons_succ])
        have r0 := x7.cell 0 _ rfl
        have r1 := x7.cell 1 _ rfl
        have f0 := x7.frozen 0
        have f1 := x7.frozen 1
        have r2 := x8.cell 0 _ rfl
        have r3 := x8.cell 1 _ rfl
        have f2 := x8.frozen 0
        have f3 := x8.frozen 1
        have ne78 : v.heap.size ≠ v5.heap.size := by omega
        have ne87 : v5.heap.size ≠ v.heap.size := by omega
        refine wpAnyH_ready (rs := [6]) (by kernel_rfl) (by simp) (AllReadyH.cons (o := _) rfl (fun K hK => ?_) AllReadyH.nil)
        go_simp
        refine hK.out _ _ ?_ (fun hHeld => ?_)
        · exact ⟨((b0.below hG).far (g' := v5.heap.size) (by omega) _ _).cell 0 _ rfl, ((b0.below hG).far (g' := v5.heap.size) (by omega) _ _).cell 1 _ rfl, ((b1.below hG).far (g' := v5.heap.size) (by omega) _ _).cell 0 _ rfl, ((b1.below hG).far (g' := v5.heap.size) (by omega) _ _).cell 1 _ rfl⟩
        clear hK K
        (try simp only [List.getElem_toArray, List.getElem_cons_succ, List.getElem_cons_zero, Act.put, List.setIfInBounds_toArray, List.set_cons_zero, List.set_cons_succ])
        have y8 := x8.far (g' := v5.heap.size) ne78 (.bool t7) (.slice B7 k7 d7)
        have y7 := x7.stored (.bool t7) (.slice B7 k7 d7)
        have r2 := y8.cell 0 _ rfl
        have r3 := y8.cell 1 _ rfl
        have f2 := y8.frozen 0
        have f3 := y8.frozen 1
        refine wpAnyH_ready (rs := [7]) (by kernel_rfl) (by simp) (AllReadyH.cons (o := _) rfl (fun K hK => ?_) AllReadyH.nil)
        go_simp
        refine hK.out _ _ ?_ (fun hHeld => ?_)
        · exact ⟨((((b0.below hG).far (g' := v5.heap.size) (by omega) _ _)).far (g' := v.heap.size) (by omega) _ _).cell 0 _ rfl, ((((b0.below hG).far (g' := v5.heap.size) (by omega) _ _)).far (g' := v.heap.size) (by omega) _ _).cell 1 _ rfl, ((((b1.below hG).far (g' := v5.heap.size) (by omega) _ _)).far (g' := v.heap.size) (by omega) _ _).cell 0 _ rfl, ((((b1.below hG).far (g' := v5.heap.size) (by omega) _ _)).far (g' := v.heap.size) (by omega) _ _).cell 1 _ rfl⟩
        clear hK K
        (try simp only [List.getElem_toArray, List.getElem_cons_succ, List.getElem_cons_zero, Act.put, List.setIfInBounds_toArray, List.set_cons_zero, List.set_cons_succ])
        refine wpAnyH_done (by kernel_rfl) ?_ _
        refine NoPanic.normal ?_
        have z8 := y8.stored (.bool t8) (.slice B8 k8 d8)
        have z7 := y7.far (g' := v.heap.size) ne87 (.bool t8) (.slice B8 k8 d8)
        have j7 := (hI7.stored x7 (notInt_box _ _ _ _) (.bool t7) (.slice B7 k7 d7)).stored y8 (notInt_box _ _ _ _) (.bool t8) (.slice B8 k8 d8)
        have j8 := (hI8.stored x7 (notInt_box _ _ _ _) (.bool t7) (.slice B7 k7 d7)).stored y8 (notInt_box _ _ _ _) (.bool t8) (.slice B8 k8 d8)
        have hF := below_stored (g := v.heap.size) (below_stored (g := v5.heap.size) hG (by omega) (.bool t7) (.slice B7 k7 d7)) (by omega) (.bool t8) (.slice B8 k8 d8)
        go_wp2_with fail
        go_meet
        exact ⟨v5.heap.size, v.heap.size, t7, B7, k7, d7, t8, B8, k8, d8, rfl, rfl, j7, j8, z7, z8, hF⟩
  case rest =>
    obtain ⟨g7, g8, t7, B7, k7, d7, t8, B8, k8, d8, rfl, rfl, fx, fy, bx, b_y, hb⟩ := hcut
    replace b0 := b0.below hb
    replace b1 := b1.below hb
    replace f0 := f0.below hb
    replace f1 := f1.below hb
    replace H0 := H0.trans (hb.mono H0.size)
    clear hb hsz
    have a00 := b0.cell 0 _ rfl
    have a01 := b0.cell 1 _ rfl
    have a10 := b1.cell 0 _ rfl
    have a11 := b1.cell 1 _ rfl
    go_wp2_with fail
    rcases Decidable.em (z1 = 0) with hz | hz
    · subst hz
      refine (idivmod_zero f0 f1).mono ?_
      rintro e w4 ⟨rfl, hb⟩
      replace f0 := f0.below hb
      replace f1 := f1.below hb
      replace fx := fx.below hb
      replace fy := fy.below hb
      replace b0 := b0.below hb
      replace b1 := b1.below hb
      replace bx := bx.below hb
      replace b_y := b_y.below hb
      replace H0 := H0.trans (hb.mono H0.size)
      clear hb a00 a01 a10 a11
      go_wp2_with fail
      obtain ⟨X, hX, b2, b3, hbX, hsX⟩ := boxes2 w4 #[.bool false, .slice none 0 0] #[.bool false, .slice none 0 0] 28 28
      rw [hX]
      clear hX
      replace f0 := f0.below hbX
      replace f1 := f1.below hbX
      replace fx := fx.below hbX
      replace fy := fy.below hbX
      replace b0 := b0.below hbX
      replace b1 := b1.below hbX
      replace bx := bx.below hbX
      replace b_y := b_y.below hbX
      have f2 := NI_zero0 X
      have f3 := NI_zero0 X
      replace H0 := H0.trans (hbX.mono H0.size)
      clear hbX
      have hD := drawn_below X
      replace b0 : Box X.drew _ _ _ := b0
      replace b1 : Box X.drew _ _ _ := b1
      replace b2 : Box X.drew _ _ _ := b2
      replace b3 : Box X.drew _ _ _ := b3
      replace bx : Box X.drew _ _ _ := bx
      replace b_y : Box X.drew _ _ _ := b_y
      replace f0 : RI X.drew _ _ _ _ := f0
      replace f1 : RI X.drew _ _ _ _ := f1
      replace fx : NI X.drew _ _ _ _ := fx
      replace fy : NI X.drew _ _ _ _ := fy
      replace f2 : NI X.drew _ _ _ _ := f2
      replace f3 : NI X.drew _ _ _ _ := f3
      replace H0 : Below w.heap.size w X.drew := H0.trans (hD.mono H0.size)
      clear hD
      go_region_held3 (fun V => V.cell? ⟨w3.heap.size, 0, none⟩ = some (.bool s0) ∧ V.cell? ⟨w3.heap.size, 1, none⟩ = some (.slice B0 k0 d0) ∧ V.cell? ⟨w3.heap.size + 1, 0, none⟩ = some (.bool s1) ∧ V.cell? ⟨w3.heap.size + 1, 1, none⟩ = some (.slice B1 k1 d1) ∧ V.cell? ⟨g7, 0, none⟩ = some (.bool t7) ∧ V.cell? ⟨g7, 1, none⟩ = some (.slice B7 k7 d7) ∧ V.cell? ⟨g8, 0, none⟩ = some (.bool t8) ∧ V.cell? ⟨g8, 1, none⟩ = some (.slice B8 k8 d8)) (first | exact ⟨(b0).cell 0 _ rfl, (b0).cell 1 _ rfl, (b1).cell 0 _ rfl, (b1).cell 1 _ rfl, (bx).cell 0 _ rfl, (bx).cell 1 _ rfl, (b_y).cell 0 _ rfl, (b_y).cell 1 _ rfl⟩ | exact K20 | exact K19 | exact K18 | exact K17 | exact K16 | exact K15 | exact K14 | exact K13 | exact K12 | exact K11 | exact K10 | exact K9 | exact K8 | exact K7 | exact K6 | exact K5 | exact K4 | exact K3 | exact K2 | exact K1 | go_keep)
        (first
          | (go_at_call 9; with_reducible refine (ineg_v (f0) (by omega)).mono ?_; rintro e v1 ⟨s10, B10, k10, d10, rfl, q10, hb⟩; have hB1 := hb; have K1 := And.intro ((b0.below hB1).cell 0 _ rfl) (And.intro ((b0.below hB1).cell 1 _ rfl) (And.intro ((b1.below hB1).cell 0 _ rfl) (And.intro ((b1.below hB1).cell 1 _ rfl) (And.intro ((bx.below hB1).cell 0 _ rfl) (And.intro ((bx.below hB1).cell 1 _ rfl) (And.intro ((b_y.below hB1).cell 0 _ rfl) ((b_y.below hB1).cell 1 _ rfl))))))); clear hb)
          | (go_at_call 10; with_reducible refine (nminus_v (fx.below hB1)).mono ?_; rintro e v2 ⟨s11, rfl, q11, hb⟩; have hB2 := hB1.trans (hb.mono hB1.size); have q10 := q10.below hb; have K2 := And.intro ((b0.below hB2).cell 0 _ rfl) (And.intro ((b0.below hB2).cell 1 _ rfl) (And.intro ((b1.below hB2).cell 0 _ rfl) (And.intro ((b1.below hB2).cell 1 _ rfl) (And.intro ((bx.below hB2).cell 0 _ rfl) (And.intro ((bx.below hB2).cell 1 _ rfl) (And.intro ((b_y.below hB2).cell 0 _ rfl) ((b_y.below hB2).cell 1 _ rfl))))))); clear hb)
          | (go_at_call 8; with_reducible refine (same2_v q10 q11 rfl (by omega)).mono ?_; rintro e v3 ⟨rfl, hb⟩; have hB3 := hB2.trans (hb.mono hB2.size); have q10 := q10.below hb; have q11 := q11.below hb; have K3 := And.intro ((b0.below hB3).cell 0 _ rfl) (And.intro ((b0.below hB3).cell 1 _ rfl) (And.intro ((b1.below hB3).cell 0 _ rfl) (And.intro ((b1.below hB3).cell 1 _ rfl) (And.intro ((bx.below hB3).cell 0 _ rfl) (And.intro ((bx.below hB3).cell 1 _ rfl) (And.intro ((b_y.below hB3).cell 0 _ rfl) ((b_y.below hB3).cell 1 _ rfl))))))); clear hb)
          | (go_at_call 12; with_reducible refine (iabs_v (f0.below hB3) (by omega)).mono ?_; rintro e v4 ⟨B12, k12, d12, rfl, q12, hb⟩; have hB4 := hB3.trans (hb.mono hB3.size); have K4 := And.intro ((b0.below hB4).cell 0 _ rfl) (And.intro ((b0.below hB4).cell 1 _ rfl) (And.intro ((b1.below hB4).cell 0 _ rfl) (And.intro ((b1.below hB4).cell 1 _ rfl) (And.intro ((bx.below hB4).cell 0 _ rfl) (And.intro ((bx.below hB4).cell 1 _ rfl) (And.intro ((b_y.below hB4).cell 0 _ rfl) ((b_y.below hB4).cell 1 _ rfl))))))); clear hb)
          | (go_at_call 13; with_reducible refine (ton_i (fx.below hB4) (by omega)).mono ?_; rintro e v5 ⟨B13, k13, d13, rfl, q13, hb⟩; have hB5 := hB4.trans (hb.mono hB4.size); have q12 := q12.below hb; have K5 := And.intro ((b0.below hB5).cell 0 _ rfl) (And.intro ((b0.below hB5).cell 1 _ rfl) (And.intro ((b1.below hB5).cell 0 _ rfl) (And.intro ((b1.below hB5).cell 1 _ rfl) (And.intro ((bx.below hB5).cell 0 _ rfl) (And.intro ((bx.below hB5).cell 1 _ rfl) (And.intro ((b_y.below hB5).cell 0 _ rfl) ((b_y.below hB5).cell 1 _ rfl))))))); clear hb)
          | (go_at_call 11; with_reducible refine (samen_v q12 q13 rfl).mono ?_; rintro e v6 ⟨rfl, hb⟩; have hB6 := hB5.trans (hb.mono hB5.size); have q12 := q12.below hb; have q13 := q13.below hb; have K6 := And.intro ((b0.below hB6).cell 0 _ rfl) (And.intro ((b0.below hB6).cell 1 _ rfl) (And.intro ((b1.below hB6).cell 0 _ rfl) (And.intro ((b1.below hB6).cell 1 _ rfl) (And.intro ((bx.below hB6).cell 0 _ rfl) (And.intro ((bx.below hB6).cell 1 _ rfl) (And.intro ((b_y.below hB6).cell 0 _ rfl) ((b_y.below hB6).cell 1 _ rfl))))))); clear hb)
          | (go_at_call 14; with_reducible refine (iadd_v (f0.below hB6) (f1.below hB6) (by omega) (by omega)).mono ?_; rintro e v7 ⟨s14, B14, k14, d14, rfl, q14, hb⟩; have hB7 := hB6.trans (hb.mono hB6.size); have K7 := And.intro ((b0.below hB7).cell 0 _ rfl) (And.intro ((b0.below hB7).cell 1 _ rfl) (And.intro ((b1.below hB7).cell 0 _ rfl) (And.intro ((b1.below hB7).cell 1 _ rfl) (And.intro ((bx.below hB7).cell 0 _ rfl) (And.intro ((bx.below hB7).cell 1 _ rfl) (And.intro ((b_y.below hB7).cell 0 _ rfl) ((b_y.below hB7).cell 1 _ rfl))))))); clear hb)
          | (go_at_call 15; with_reducible refine (nadd_v (fx.below hB7) (fy.below hB7) (by omega) (by omega)).mono ?_; rintro e v8 ⟨s15, B15, k15, d15, rfl, q15, hb⟩; have hB8 := hB7.trans (hb.mono hB7.size); have q14 := q14.below hb; have K8 := And.intro ((b0.below hB8).cell 0 _ rfl) (And.intro ((b0.below hB8).cell 1 _ rfl) (And.intro ((b1.below hB8).cell 0 _ rfl) (And.intro ((b1.below hB8).cell 1 _ rfl) (And.intro ((bx.below hB8).cell 0 _ rfl) (And.intro ((bx.below hB8).cell 1 _ rfl) (And.intro ((b_y.below hB8).cell 0 _ rfl) ((b_y.below hB8).cell 1 _ rfl))))))); clear hb)
          | (go_at_call 8; with_reducible refine (same2_v q14 q15 rfl (by omega)).mono ?_; rintro e v9 ⟨rfl, hb⟩; have hB9 := hB8.trans (hb.mono hB8.size); have q14 := q14.below hb; have q15 := q15.below hb; have K9 := And.intro ((b0.below hB9).cell 0 _ rfl) (And.intro ((b0.below hB9).cell 1 _ rfl) (And.intro ((b1.below hB9).cell 0 _ rfl) (And.intro ((b1.below hB9).cell 1 _ rfl) (And.intro ((bx.below hB9).cell 0 _ rfl) (And.intro ((bx.below hB9).cell 1 _ rfl) (And.intro ((b_y.below hB9).cell 0 _ rfl) ((b_y.below hB9).cell 1 _ rfl))))))); clear hb)
          | (go_at_call 16; with_reducible refine (isub_v (f0.below hB9) (f1.below hB9) (by omega) (by omega)).mono ?_; rintro e v10 ⟨s16, B16, k16, d16, rfl, q16, hb⟩; have hB10 := hB9.trans (hb.mono hB9.size); have K10 := And.intro ((b0.below hB10).cell 0 _ rfl) (And.intro ((b0.below hB10).cell 1 _ rfl) (And.intro ((b1.below hB10).cell 0 _ rfl) (And.intro ((b1.below hB10).cell 1 _ rfl) (And.intro ((bx.below hB10).cell 0 _ rfl) (And.intro ((bx.below hB10).cell 1 _ rfl) (And.intro ((b_y.below hB10).cell 0 _ rfl) ((b_y.below hB10).cell 1 _ rfl))))))); clear hb)
          | (go_at_call 10; with_reducible refine (nminus_v (fy.below hB10)).mono ?_; rintro e v11 ⟨s17, rfl, q17, hb⟩; have hB11 := hB10.trans (hb.mono hB10.size); have q16 := q16.below hb; have K11 := And.intro ((b0.below hB11).cell 0 _ rfl) (And.intro ((b0.below hB11).cell 1 _ rfl) (And.intro ((b1.below hB11).cell 0 _ rfl) (And.intro ((b1.below hB11).cell 1 _ rfl) (And.intro ((bx.below hB11).cell 0 _ rfl) (And.intro ((bx.below hB11).cell 1 _ rfl) (And.intro ((b_y.below hB11).cell 0 _ rfl) ((b_y.below hB11).cell 1 _ rfl))))))); clear hb)
          | (go_at_call 15; with_reducible refine (nadd_v (fx.below hB11) q17 (by omega) (by omega)).mono ?_; rintro e v12 ⟨s18, B18, k18, d18, rfl, q18, hb⟩; have hB12 := hB11.trans (hb.mono hB11.size); have q16 := q16.below hb; have q17 := q17.below hb; have K12 := And.intro ((b0.below hB12).cell 0 _ rfl) (And.intro ((b0.below hB12).cell 1 _ rfl) (And.intro ((b1.below hB12).cell 0 _ rfl) (And.intro ((b1.below hB12).cell 1 _ rfl) (And.intro ((bx.below hB12).cell 0 _ rfl) (And.intro ((bx.below hB12).cell 1 _ rfl) (And.intro ((b_y.below hB12).cell 0 _ rfl) ((b_y.below hB12).cell 1 _ rfl))))))); clear hb)
          | (go_at_call 8; with_reducible refine (same2_v q16 q18 Int.sub_eq_add_neg (by omega)).mono ?_; rintro e v13 ⟨rfl, hb⟩; have hB13 := hB12.trans (hb.mono hB12.size); have q16 := q16.below hb; have q18 := q18.below hb; have K13 := And.intro ((b0.below hB13).cell 0 _ rfl) (And.intro ((b0.below hB13).cell 1 _ rfl) (And.intro ((b1.below hB13).cell 0 _ rfl) (And.intro ((b1.below hB13).cell 1 _ rfl) (And.intro ((bx.below hB13).cell 0 _ rfl) (And.intro ((bx.below hB13).cell 1 _ rfl) (And.intro ((b_y.below hB13).cell 0 _ rfl) ((b_y.below hB13).cell 1 _ rfl))))))); clear hb)
          | (go_at_call 17; with_reducible refine (imul_v (f0.below hB13) (f1.below hB13) (by omega) (by omega)).mono ?_; rintro e v14 ⟨s19, B19, k19, d19, rfl, q19, hb⟩; have hB14 := hB13.trans (hb.mono hB13.size); have K14 := And.intro ((b0.below hB14).cell 0 _ rfl) (And.intro ((b0.below hB14).cell 1 _ rfl) (And.intro ((b1.below hB14).cell 0 _ rfl) (And.intro ((b1.below hB14).cell 1 _ rfl) (And.intro ((bx.below hB14).cell 0 _ rfl) (And.intro ((bx.below hB14).cell 1 _ rfl) (And.intro ((b_y.below hB14).cell 0 _ rfl) ((b_y.below hB14).cell 1 _ rfl))))))); clear hb)
          | (go_at_call 18; with_reducible refine (nmul_v (fx.below hB14) (fy.below hB14) (by omega) (by omega)).mono ?_; rintro e v15 ⟨s20, B20, k20, d20, rfl, q20, hb⟩; have hB15 := hB14.trans (hb.mono hB14.size); have q19 := q19.below hb; have K15 := And.intro ((b0.below hB15).cell 0 _ rfl) (And.intro ((b0.below hB15).cell 1 _ rfl) (And.intro ((b1.below hB15).cell 0 _ rfl) (And.intro ((b1.below hB15).cell 1 _ rfl) (And.intro ((bx.below hB15).cell 0 _ rfl) (And.intro ((bx.below hB15).cell 1 _ rfl) (And.intro ((b_y.below hB15).cell 0 _ rfl) ((b_y.below hB15).cell 1 _ rfl))))))); clear hb)
          | (go_at_call 8; with_reducible refine (same2_v q19 q20 rfl (by omega)).mono ?_; rintro e v16 ⟨rfl, hb⟩; have hB16 := hB15.trans (hb.mono hB15.size); have q19 := q19.below hb; have q20 := q20.below hb; have K16 := And.intro ((b0.below hB16).cell 0 _ rfl) (And.intro ((b0.below hB16).cell 1 _ rfl) (And.intro ((b1.below hB16).cell 0 _ rfl) (And.intro ((b1.below hB16).cell 1 _ rfl) (And.intro ((bx.below hB16).cell 0 _ rfl) (And.intro ((bx.below hB16).cell 1 _ rfl) (And.intro ((b_y.below hB16).cell 0 _ rfl) ((b_y.below hB16).cell 1 _ rfl))))))); clear hb)
          | (go_at_call 19; with_reducible refine (igcd_v (f0.below hB16) (f1.below hB16) (by omega) (by omega)).mono ?_; rintro e v17 ⟨B21, k21, d21, rfl, q21, hb⟩; have hB17 := hB16.trans (hb.mono hB16.size); have K17 := And.intro ((b0.below hB17).cell 0 _ rfl) (And.intro ((b0.below hB17).cell 1 _ rfl) (And.intro ((b1.below hB17).cell 0 _ rfl) (And.intro ((b1.below hB17).cell 1 _ rfl) (And.intro ((bx.below hB17).cell 0 _ rfl) (And.intro ((bx.below hB17).cell 1 _ rfl) (And.intro ((b_y.below hB17).cell 0 _ rfl) ((b_y.below hB17).cell 1 _ rfl))))))); clear hb)
          | (go_at_call 20; with_reducible refine (ncommon_i (fx.below hB17) (fy.below hB17) (by omega) (by omega)).mono ?_; rintro e v18 ⟨B22, k22, d22, rfl, q22, hb⟩; have hB18 := hB17.trans (hb.mono hB17.size); have q21 := q21.below hb; have K18 := And.intro ((b0.below hB18).cell 0 _ rfl) (And.intro ((b0.below hB18).cell 1 _ rfl) (And.intro ((b1.below hB18).cell 0 _ rfl) (And.intro ((b1.below hB18).cell 1 _ rfl) (And.intro ((bx.below hB18).cell 0 _ rfl) (And.intro ((bx.below hB18).cell 1 _ rfl) (And.intro ((b_y.below hB18).cell 0 _ rfl) ((b_y.below hB18).cell 1 _ rfl))))))); clear hb)
          | (go_at_call 13; with_reducible refine (ton_n q22 (by omega)).mono ?_; rintro e v19 ⟨B23, k23, d23, rfl, q23, hb⟩; have hB19 := hB18.trans (hb.mono hB18.size); have q21 := q21.below hb; have q22 := q22.below hb; have K19 := And.intro ((b0.below hB19).cell 0 _ rfl) (And.intro ((b0.below hB19).cell 1 _ rfl) (And.intro ((b1.below hB19).cell 0 _ rfl) (And.intro ((b1.below hB19).cell 1 _ rfl) (And.intro ((bx.below hB19).cell 0 _ rfl) (And.intro ((bx.below hB19).cell 1 _ rfl) (And.intro ((b_y.below hB19).cell 0 _ rfl) ((b_y.below hB19).cell 1 _ rfl))))))); clear hb)
          | (go_at_call 11; with_reducible refine (samen_v q21 q23 rfl).mono ?_; rintro e v20 ⟨rfl, hb⟩; have hB20 := hB19.trans (hb.mono hB19.size); have q21 := q21.below hb; have q23 := q23.below hb; have K20 := And.intro ((b0.below hB20).cell 0 _ rfl) (And.intro ((b0.below hB20).cell 1 _ rfl) (And.intro ((b1.below hB20).cell 0 _ rfl) (And.intro ((b1.below hB20).cell 1 _ rfl) (And.intro ((bx.below hB20).cell 0 _ rfl) (And.intro ((bx.below hB20).cell 1 _ rfl) (And.intro ((b_y.below hB20).cell 0 _ rfl) ((b_y.below hB20).cell 1 _ rfl))))))); clear hb)
        )
      have hbe := hB20
      replace H0 := H0.trans (hbe.mono H0.size)
      replace f0 := f0.below hbe
      replace f1 := f1.below hbe
      replace fx := fx.below hbe
      replace fy := fy.below hbe
      replace b0 := b0.below hbe
      replace b1 := b1.below hbe
      replace bx := bx.below hbe
      replace b_y := b_y.below hbe
      replace f2 := f2.below hbe
      replace f3 := f3.below hbe
      replace b2 := b2.below hbe
      replace b3 := b3.below hbe
      clear hbe hB1 K1 hB2 K2 hB3 K3 hB4 K4 hB5 K5 hB6 K6 hB7 K7 hB8 K8 hB9 K9 hB10 K10 hB11 K11 hB12 K12 hB13 K13 hB14 K14 hB15 K15 hB16 K16 hB17 K17 hB18 K18 hB19 K19 hB20 K20
      have c80 := b_y.cell 0 _ rfl
      have c81 := b_y.cell 1 _ rfl
      have hk8 : k8 = 0 := by rw [(Raw.cap fy.1.1).1]; exact congrArg List.length digs_zero
      subst hk8
      go_wp2_with fail
      clear c80 c81
      refine (known2_any _).mono ?_
      rintro e x1 ⟨rfl, hb⟩
      replace f2 := f2.below hb
      replace f3 := f3.below hb
      replace b2 := b2.below hb
      replace b3 := b3.below hb
      replace H0 := H0.trans (hb.mono H0.size)
      clear hb
      have c20 := b2.cell 0 _ rfl
      have c21 := b2.cell 1 _ rfl
      go_wp2_with fail
      refine (same2_v f2 (NI_zero0 _) rfl (by omega)).mono ?_
      rintro e x2 ⟨rfl, hb⟩
      replace f3 := f3.below hb
      replace b3 := b3.below hb
      replace H0 := H0.trans (hb.mono H0.size)
      clear hb
      clear c20 c21
      have c30 := b3.cell 0 _ rfl
      have c31 := b3.cell 1 _ rfl
      go_wp2_with fail
      refine (same2_v f3 (NI_zero0 _) rfl (by omega)).mono ?_
      rintro e x3 ⟨rfl, hb⟩
      replace H0 := H0.trans (hb.mono H0.size)
      clear hb
      clear c30 c31
      go_wp2_with fail
      go_returns
      exact ⟨rfl, H0⟩
    · refine (idivmod_v f0 f1 hz (by omega)).mono ?_
      rintro e w4 ⟨zq, zr, s2, B2, k2, d2, s3, B3, k3, d3, rfl, f2, f3, hqr, hb⟩
      replace f0 := f0.below hb
      replace f1 := f1.below hb
      replace fx := fx.below hb
      replace fy := fy.below hb
      replace b0 := b0.below hb
      replace b1 := b1.below hb
      replace bx := bx.below hb
      replace b_y := b_y.below hb
      replace H0 := H0.trans (hb.mono H0.size)
      clear hb a00 a01 a10 a11
      have HQR := Lib.hid hqr
      have HZ := Lib.hid hz
      clear hqr hz
      go_wp2_with fail
      obtain ⟨X, hX, b2, b3, hbX, hsX⟩ := boxes2 w4 #[.bool s2, .slice B2 k2 d2] #[.bool s3, .slice B3 k3 d3] 28 28
      rw [hX]
      clear hX
      replace f0 := f0.below hbX
      replace f1 := f1.below hbX
      replace fx := fx.below hbX
      replace fy := fy.below hbX
      replace b0 := b0.below hbX
      replace b1 := b1.below hbX
      replace bx := bx.below hbX
      replace b_y := b_y.below hbX
      replace f2 := f2.below hbX
      replace f3 := f3.below hbX
      replace H0 := H0.trans (hbX.mono H0.size)
      clear hbX
      have hD := drawn_below X
      replace b0 : Box X.drew _ _ _ := b0
      replace b1 : Box X.drew _ _ _ := b1
      replace b2 : Box X.drew _ _ _ := b2
      replace b3 : Box X.drew _ _ _ := b3
      replace bx : Box X.drew _ _ _ := bx
      replace b_y : Box X.drew _ _ _ := b_y
      replace f0 : RI X.drew _ _ _ _ := f0
      replace f1 : RI X.drew _ _ _ _ := f1
      replace fx : NI X.drew _ _ _ _ := fx
      replace fy : NI X.drew _ _ _ _ := fy
      replace f2 : NI X.drew _ _ _ _ := f2
      replace f3 : NI X.drew _ _ _ _ := f3
      replace H0 : Below w.heap.size w X.drew := H0.trans (hD.mono H0.size)
      clear hD
      go_region_held3 (fun V => V.cell? ⟨w3.heap.size, 0, none⟩ = some (.bool s0) ∧ V.cell? ⟨w3.heap.size, 1, none⟩ = some (.slice B0 k0 d0) ∧ V.cell? ⟨w3.heap.size + 1, 0, none⟩ = some (.bool s1) ∧ V.cell? ⟨w3.heap.size + 1, 1, none⟩ = some (.slice B1 k1 d1) ∧ V.cell? ⟨g7, 0, none⟩ = some (.bool t7) ∧ V.cell? ⟨g7, 1, none⟩ = some (.slice B7 k7 d7) ∧ V.cell? ⟨g8, 0, none⟩ = some (.bool t8) ∧ V.cell? ⟨g8, 1, none⟩ = some (.slice B8 k8 d8)) (first | exact ⟨(b0).cell 0 _ rfl, (b0).cell 1 _ rfl, (b1).cell 0 _ rfl, (b1).cell 1 _ rfl, (bx).cell 0 _ rfl, (bx).cell 1 _ rfl, (b_y).cell 0 _ rfl, (b_y).cell 1 _ rfl⟩ | exact K20 | exact K19 | exact K18 | exact K17 | exact K16 | exact K15 | exact K14 | exact K13 | exact K12 | exact K11 | exact K10 | exact K9 | exact K8 | exact K7 | exact K6 | exact K5 | exact K4 | exact K3 | exact K2 | exact K1 | go_keep)
        (first
          | (go_at_call 9; with_reducible refine (ineg_v (f0) (by omega)).mono ?_; rintro e v1 ⟨s10, B10, k10, d10, rfl, q10, hb⟩; have hB1 := hb; have K1 := And.intro ((b0.below hB1).cell 0 _ rfl) (And.intro ((b0.below hB1).cell 1 _ rfl) (And.intro ((b1.below hB1).cell 0 _ rfl) (And.intro ((b1.below hB1).cell 1 _ rfl) (And.intro ((bx.below hB1).cell 0 _ rfl) (And.intro ((bx.below hB1).cell 1 _ rfl) (And.intro ((b_y.below hB1).cell 0 _ rfl) ((b_y.below hB1).cell 1 _ rfl))))))); clear hb)
          | (go_at_call 10; with_reducible refine (nminus_v (fx.below hB1)).mono ?_; rintro e v2 ⟨s11, rfl, q11, hb⟩; have hB2 := hB1.trans (hb.mono hB1.size); have q10 := q10.below hb; have K2 := And.intro ((b0.below hB2).cell 0 _ rfl) (And.intro ((b0.below hB2).cell 1 _ rfl) (And.intro ((b1.below hB2).cell 0 _ rfl) (And.intro ((b1.below hB2).cell 1 _ rfl) (And.intro ((bx.below hB2).cell 0 _ rfl) (And.intro ((bx.below hB2).cell 1 _ rfl) (And.intro ((b_y.below hB2).cell 0 _ rfl) ((b_y.below hB2).cell 1 _ rfl))))))); clear hb)
          | (go_at_call 8; with_reducible refine (same2_v q10 q11 rfl (by omega)).mono ?_; rintro e v3 ⟨rfl, hb⟩; have hB3 := hB2.trans (hb.mono hB2.size); have q10 := q10.below hb; have q11 := q11.below hb; have K3 := And.intro ((b0.below hB3).cell 0 _ rfl) (And.intro ((b0.below hB3).cell 1 _ rfl) (And.intro ((b1.below hB3).cell 0 _ rfl) (And.intro ((b1.below hB3).cell 1 _ rfl) (And.intro ((bx.below hB3).cell 0 _ rfl) (And.intro ((bx.below hB3).cell 1 _ rfl) (And.intro ((b_y.below hB3).cell 0 _ rfl) ((b_y.below hB3).cell 1 _ rfl))))))); clear hb)
          | (go_at_call 12; with_reducible refine (iabs_v (f0.below hB3) (by omega)).mono ?_; rintro e v4 ⟨B12, k12, d12, rfl, q12, hb⟩; have hB4 := hB3.trans (hb.mono hB3.size); have K4 := And.intro ((b0.below hB4).cell 0 _ rfl) (And.intro ((b0.below hB4).cell 1 _ rfl) (And.intro ((b1.below hB4).cell 0 _ rfl) (And.intro ((b1.below hB4).cell 1 _ rfl) (And.intro ((bx.below hB4).cell 0 _ rfl) (And.intro ((bx.below hB4).cell 1 _ rfl) (And.intro ((b_y.below hB4).cell 0 _ rfl) ((b_y.below hB4).cell 1 _ rfl))))))); clear hb)
          | (go_at_call 13; with_reducible refine (ton_i (fx.below hB4) (by omega)).mono ?_; rintro e v5 ⟨B13, k13, d13, rfl, q13, hb⟩; have hB5 := hB4.trans (hb.mono hB4.size); have q12 := q12.below hb; have K5 := And.intro ((b0.below hB5).cell 0 _ rfl) (And.intro ((b0.below hB5).cell 1 _ rfl) (And.intro ((b1.below hB5).cell 0 _ rfl) (And.intro ((b1.below hB5).cell 1 _ rfl) (And.intro ((bx.below hB5).cell 0 _ rfl) (And.intro ((bx.below hB5).cell 1 _ rfl) (And.intro ((b_y.below hB5).cell 0 _ rfl) ((b_y.below hB5).cell 1 _ rfl))))))); clear hb)
          | (go_at_call 11; with_reducible refine (samen_v q12 q13 rfl).mono ?_; rintro e v6 ⟨rfl, hb⟩; have hB6 := hB5.trans (hb.mono hB5.size); have q12 := q12.below hb; have q13 := q13.below hb; have K6 := And.intro ((b0.below hB6).cell 0 _ rfl) (And.intro ((b0.below hB6).cell 1 _ rfl) (And.intro ((b1.below hB6).cell 0 _ rfl) (And.intro ((b1.below hB6).cell 1 _ rfl) (And.intro ((bx.below hB6).cell 0 _ rfl) (And.intro ((bx.below hB6).cell 1 _ rfl) (And.intro ((b_y.below hB6).cell 0 _ rfl) ((b_y.below hB6).cell 1 _ rfl))))))); clear hb)
          | (go_at_call 14; with_reducible refine (iadd_v (f0.below hB6) (f1.below hB6) (by omega) (by omega)).mono ?_; rintro e v7 ⟨s14, B14, k14, d14, rfl, q14, hb⟩; have hB7 := hB6.trans (hb.mono hB6.size); have K7 := And.intro ((b0.below hB7).cell 0 _ rfl) (And.intro ((b0.below hB7).cell 1 _ rfl) (And.intro ((b1.below hB7).cell 0 _ rfl) (And.intro ((b1.below hB7).cell 1 _ rfl) (And.intro ((bx.below hB7).cell 0 _ rfl) (And.intro ((bx.below hB7).cell 1 _ rfl) (And.intro ((b_y.below hB7).cell 0 _ rfl) ((b_y.below hB7).cell 1 _ rfl))))))); clear hb)
          | (go_at_call 15; with_reducible refine (nadd_v (fx.below hB7) (fy.below hB7) (by omega) (by omega)).mono ?_; rintro e v8 ⟨s15, B15, k15, d15, rfl, q15, hb⟩; have hB8 := hB7.trans (hb.mono hB7.size); have q14 := q14.below hb; have K8 := And.intro ((b0.below hB8).cell 0 _ rfl) (And.intro ((b0.below hB8).cell 1 _ rfl) (And.intro ((b1.below hB8).cell 0 _ rfl) (And.intro ((b1.below hB8).cell 1 _ rfl) (And.intro ((bx.below hB8).cell 0 _ rfl) (And.intro ((bx.below hB8).cell 1 _ rfl) (And.intro ((b_y.below hB8).cell 0 _ rfl) ((b_y.below hB8).cell 1 _ rfl))))))); clear hb)
          | (go_at_call 8; with_reducible refine (same2_v q14 q15 rfl (by omega)).mono ?_; rintro e v9 ⟨rfl, hb⟩; have hB9 := hB8.trans (hb.mono hB8.size); have q14 := q14.below hb; have q15 := q15.below hb; have K9 := And.intro ((b0.below hB9).cell 0 _ rfl) (And.intro ((b0.below hB9).cell 1 _ rfl) (And.intro ((b1.below hB9).cell 0 _ rfl) (And.intro ((b1.below hB9).cell 1 _ rfl) (And.intro ((bx.below hB9).cell 0 _ rfl) (And.intro ((bx.below hB9).cell 1 _ rfl) (And.intro ((b_y.below hB9).cell 0 _ rfl) ((b_y.below hB9).cell 1 _ rfl))))))); clear hb)
          | (go_at_call 16; with_reducible refine (isub_v (f0.below hB9) (f1.below hB9) (by omega) (by omega)).mono ?_; rintro e v10 ⟨s16, B16, k16, d16, rfl, q16, hb⟩; have hB10 := hB9.trans (hb.mono hB9.size); have K10 := And.intro ((b0.below hB10).cell 0 _ rfl) (And.intro ((b0.below hB10).cell 1 _ rfl) (And.intro ((b1.below hB10).cell 0 _ rfl) (And.intro ((b1.below hB10).cell 1 _ rfl) (And.intro ((bx.below hB10).cell 0 _ rfl) (And.intro ((bx.below hB10).cell 1 _ rfl) (And.intro ((b_y.below hB10).cell 0 _ rfl) ((b_y.below hB10).cell 1 _ rfl))))))); clear hb)
          | (go_at_call 10; with_reducible refine (nminus_v (fy.below hB10)).mono ?_; rintro e v11 ⟨s17, rfl, q17, hb⟩; have hB11 := hB10.trans (hb.mono hB10.size); have q16 := q16.below hb; have K11 := And.intro ((b0.below hB11).cell 0 _ rfl) (And.intro ((b0.below hB11).cell 1 _ rfl) (And.intro ((b1.below hB11).cell 0 _ rfl) (And.intro ((b1.below hB11).cell 1 _ rfl) (And.intro ((bx.below hB11).cell 0 _ rfl) (And.intro ((bx.below hB11).cell 1 _ rfl) (And.intro ((b_y.below hB11).cell 0 _ rfl) ((b_y.below hB11).cell 1 _ rfl))))))); clear hb)
          | (go_at_call 15; with_reducible refine (nadd_v (fx.below hB11) q17 (by omega) (by omega)).mono ?_; rintro e v12 ⟨s18, B18, k18, d18, rfl, q18, hb⟩; have hB12 := hB11.trans (hb.mono hB11.size); have q16 := q16.below hb; have q17 := q17.below hb; have K12 := And.intro ((b0.below hB12).cell 0 _ rfl) (And.intro ((b0.below hB12).cell 1 _ rfl) (And.intro ((b1.below hB12).cell 0 _ rfl) (And.intro ((b1.below hB12).cell 1 _ rfl) (And.intro ((bx.below hB12).cell 0 _ rfl) (And.intro ((bx.below hB12).cell 1 _ rfl) (And.intro ((b_y.below hB12).cell 0 _ rfl) ((b_y.below hB12).cell 1 _ rfl))))))); clear hb)
          | (go_at_call 8; with_reducible refine (same2_v q16 q18 Int.sub_eq_add_neg (by omega)).mono ?_; rintro e v13 ⟨rfl, hb⟩; have hB13 := hB12.trans (hb.mono hB12.size); have q16 := q16.below hb; have q18 := q18.below hb; have K13 := And.intro ((b0.below hB13).cell 0 _ rfl) (And.intro ((b0.below hB13).cell 1 _ rfl) (And.intro ((b1.below hB13).cell 0 _ rfl) (And.intro ((b1.below hB13).cell 1 _ rfl) (And.intro ((bx.below hB13).cell 0 _ rfl) (And.intro ((bx.below hB13).cell 1 _ rfl) (And.intro ((b_y.below hB13).cell 0 _ rfl) ((b_y.below hB13).cell 1 _ rfl))))))); clear hb)
          | (go_at_call 17; with_reducible refine (imul_v (f0.below hB13) (f1.below hB13) (by omega) (by omega)).mono ?_; rintro e v14 ⟨s19, B19, k19, d19, rfl, q19, hb⟩; have hB14 := hB13.trans (hb.mono hB13.size); have K14 := And.intro ((b0.below hB14).cell 0 _ rfl) (And.intro ((b0.below hB14).cell 1 _ rfl) (And.intro ((b1.below hB14).cell 0 _ rfl) (And.intro ((b1.below hB14).cell 1 _ rfl) (And.intro ((bx.below hB14).cell 0 _ rfl) (And.intro ((bx.below hB14).cell 1 _ rfl) (And.intro ((b_y.below hB14).cell 0 _ rfl) ((b_y.below hB14).cell 1 _ rfl))))))); clear hb)
          | (go_at_call 18; with_reducible refine (nmul_v (fx.below hB14) (fy.below hB14) (by omega) (by omega)).mono ?_; rintro e v15 ⟨s20, B20, k20, d20, rfl, q20, hb⟩; have hB15 := hB14.trans (hb.mono hB14.size); have q19 := q19.below hb; have K15 := And.intro ((b0.below hB15).cell 0 _ rfl) (And.intro ((b0.below hB15).cell 1 _ rfl) (And.intro ((b1.below hB15).cell 0 _ rfl) (And.intro ((b1.below hB15).cell 1 _ rfl) (And.intro ((bx.below hB15).cell 0 _ rfl) (And.intro ((bx.below hB15).cell 1 _ rfl) (And.intro ((b_y.below hB15).cell 0 _ rfl) ((b_y.below hB15).cell 1 _ rfl))))))); clear hb)
          | (go_at_call 8; with_reducible refine (same2_v q19 q20 rfl (by omega)).mono ?_; rintro e v16 ⟨rfl, hb⟩; have hB16 := hB15.trans (hb.mono hB15.size); have q19 := q19.below hb; have q20 := q20.below hb; have K16 := And.intro ((b0.below hB16).cell 0 _ rfl) (And.intro ((b0.below hB16).cell 1 _ rfl) (And.intro ((b1.below hB16).cell 0 _ rfl) (And.intro ((b1.below hB16).cell 1 _ rfl) (And.intro ((bx.below hB16).cell 0 _ rfl) (And.intro ((bx.below hB16).cell 1 _ rfl) (And.intro ((b_y.below hB16).cell 0 _ rfl) ((b_y.below hB16).cell 1 _ rfl))))))); clear hb)
          | (go_at_call 19; with_reducible refine (igcd_v (f0.below hB16) (f1.below hB16) (by omega) (by omega)).mono ?_; rintro e v17 ⟨B21, k21, d21, rfl, q21, hb⟩; have hB17 := hB16.trans (hb.mono hB16.size); have K17 := And.intro ((b0.below hB17).cell 0 _ rfl) (And.intro ((b0.below hB17).cell 1 _ rfl) (And.intro ((b1.below hB17).cell 0 _ rfl) (And.intro ((b1.below hB17).cell 1 _ rfl) (And.intro ((bx.below hB17).cell 0 _ rfl) (And.intro ((bx.below hB17).cell 1 _ rfl) (And.intro ((b_y.below hB17).cell 0 _ rfl) ((b_y.below hB17).cell 1 _ rfl))))))); clear hb)
          | (go_at_call 20; with_reducible refine (ncommon_i (fx.below hB17) (fy.below hB17) (by omega) (by omega)).mono ?_; rintro e v18 ⟨B22, k22, d22, rfl, q22, hb⟩; have hB18 := hB17.trans (hb.mono hB17.size); have q21 := q21.below hb; have K18 := And.intro ((b0.below hB18).cell 0 _ rfl) (And.intro ((b0.below hB18).cell 1 _ rfl) (And.intro ((b1.below hB18).cell 0 _ rfl) (And.intro ((b1.below hB18).cell 1 _ rfl) (And.intro ((bx.below hB18).cell 0 _ rfl) (And.intro ((bx.below hB18).cell 1 _ rfl) (And.intro ((b_y.below hB18).cell 0 _ rfl) ((b_y.below hB18).cell 1 _ rfl))))))); clear hb)
          | (go_at_call 13; with_reducible refine (ton_n q22 (by omega)).mono ?_; rintro e v19 ⟨B23, k23, d23, rfl, q23, hb⟩; have hB19 := hB18.trans (hb.mono hB18.size); have q21 := q21.below hb; have q22 := q22.below hb; have K19 := And.intro ((b0.below hB19).cell 0 _ rfl) (And.intro ((b0.below hB19).cell 1 _ rfl) (And.intro ((b1.below hB19).cell 0 _ rfl) (And.intro ((b1.below hB19).cell 1 _ rfl) (And.intro ((bx.below hB19).cell 0 _ rfl) (And.intro ((bx.below hB19).cell 1 _ rfl) (And.intro ((b_y.below hB19).cell 0 _ rfl) ((b_y.below hB19).cell 1 _ rfl))))))); clear hb)
          | (go_at_call 11; with_reducible refine (samen_v q21 q23 rfl).mono ?_; rintro e v20 ⟨rfl, hb⟩; have hB20 := hB19.trans (hb.mono hB19.size); have q21 := q21.below hb; have q23 := q23.below hb; have K20 := And.intro ((b0.below hB20).cell 0 _ rfl) (And.intro ((b0.below hB20).cell 1 _ rfl) (And.intro ((b1.below hB20).cell 0 _ rfl) (And.intro ((b1.below hB20).cell 1 _ rfl) (And.intro ((bx.below hB20).cell 0 _ rfl) (And.intro ((bx.below hB20).cell 1 _ rfl) (And.intro ((b_y.below hB20).cell 0 _ rfl) ((b_y.below hB20).cell 1 _ rfl))))))); clear hb)
        )
      have hbe := hB20
      replace H0 := H0.trans (hbe.mono H0.size)
      replace f0 := f0.below hbe
      replace f1 := f1.below hbe
      replace fx := fx.below hbe
      replace fy := fy.below hbe
      replace b0 := b0.below hbe
      replace b1 := b1.below hbe
      replace bx := bx.below hbe
      replace b_y := b_y.below hbe
      replace f2 := f2.below hbe
      replace f3 := f3.below hbe
      replace b2 := b2.below hbe
      replace b3 := b3.below hbe
      clear hbe hB1 K1 hB2 K2 hB3 K3 hB4 K4 hB5 K5 hB6 K6 hB7 K7 hB8 K8 hB9 K9 hB10 K10 hB11 K11 hB12 K12 hB13 K13 hB14 K14 hB15 K15 hB16 K16 hB17 K17 hB18 K18 hB19 K19 hB20 K20
      have c80 := b_y.cell 0 _ rfl
      have c81 := b_y.cell 1 _ rfl
      have hy0 : 0 < z1.natAbs := by have := HZ.out; omega
      have hk8 : 0 < k8 := by rw [(Raw.cap fy.1.1).1]; exact digs_length_pos hy0
      have hk8' : ¬ (k8 : Int) = 0 := by omega
      have hk8n : ¬ k8 = 0 := by omega
      go_wp2_with fail
      have hn45 := b3.lt
      refine (nfloor_v fx fy.1 hy0 (by omega) (by omega)).mono ?_
      rintro e w6 ⟨s30, B30, k30, d30, B31, k31, d31, rfl, fu, fv, hb⟩
      replace f0 := f0.below hb
      replace f1 := f1.below hb
      replace fx := fx.below hb
      replace fy := fy.below hb
      replace b0 := b0.below hb
      replace b1 := b1.below hb
      replace bx := bx.below hb
      replace b_y := b_y.below hb
      replace f2 := f2.below hb
      replace f3 := f3.below hb
      replace b2 := b2.below hb
      replace b3 := b3.below hb
      replace H0 := H0.trans (hb.mono H0.size)
      have hn46 := b3.lt
      have hn06 := H0.size
      clear hb c80 c81 hn45
      obtain ⟨Y, hY, b30, hbY, hsY⟩ := boxes1 w6 #[.bool s30, .slice B30 k30 d30] 32
      replace f0 := f0.below hbY
      replace f1 := f1.below hbY
      replace fx := fx.below hbY
      replace fy := fy.below hbY
      replace b0 := b0.below hbY
      replace b1 := b1.below hbY
      replace bx := bx.below hbY
      replace b_y := b_y.below hbY
      replace f2 := f2.below hbY
      replace f3 := f3.below hbY
      replace fu := fu.below hbY
      replace fv := fv.below hbY
      replace b2 := b2.below hbY
      replace b3 := b3.below hbY
      replace H0 := H0.trans (hbY.mono H0.size)
      clear hbY
      have c80 := b_y.cell 0 _ rfl
      have c300 := b30.cell 0 _ rfl
      have c301 := b30.cell 1 _ rfl
      obtain ⟨hqa, hqb, hr0⟩ := qr_floor HQR.out
      have HR := Lib.hid hr0
      have HT := Lib.hid fy.2
      clear hr0
      have n26 : w4.heap.size ≠ w6.heap.size := by have h1 := b2.lt; have h2 := b3.lt; have h3 := b30.lt; have h4 := hn46; omega
      have n36 : w4.heap.size + 1 ≠ w6.heap.size := by have h4 := hn46; omega
      have nr6 : w.heap.size ≤ w6.heap.size := hn06
      clear hn46 hn06
      cases t8
      · have HA := Lib.hid (hqa (by have h := HT.out; exact of_decide_eq_false h.symm))
        clear hqa hqb
        go_wp2_with fail
        have hD := drawn_below Y
        replace b2 : Box Y.drew _ _ _ := b2
        replace b3 : Box Y.drew _ _ _ := b3
        replace b30 : Box Y.drew _ _ _ := b30
        replace f2 : NI Y.drew _ _ _ _ := f2
        replace f3 : NI Y.drew _ _ _ _ := f3
        replace fu : NI Y.drew _ _ _ _ := fu
        replace fv : NV Y.drew _ _ _ := fv
        replace H0 : Below w.heap.size w Y.drew := H0.trans (hD.mono H0.size)
        clear hD
        go_region_held3 (fun V => V.cell? ⟨w4.heap.size, 0, none⟩ = some (.bool s2) ∧ V.cell? ⟨w4.heap.size, 1, none⟩ = some (.slice B2 k2 d2) ∧ V.cell? ⟨w4.heap.size + 1, 0, none⟩ = some (.bool s3) ∧ V.cell? ⟨w4.heap.size + 1, 1, none⟩ = some (.slice B3 k3 d3) ∧ V.cell? ⟨w6.heap.size, 0, none⟩ = some (.bool s30) ∧ V.cell? ⟨w6.heap.size, 1, none⟩ = some (.slice B30 k30 d30)) (first | exact ⟨(b2).cell 0 _ rfl, (b2).cell 1 _ rfl, (b3).cell 0 _ rfl, (b3).cell 1 _ rfl, (b30).cell 0 _ rfl, (b30).cell 1 _ rfl⟩ | exact K4 | exact K3 | exact K2 | exact K1 | go_keep)
          (first
            | (go_at_call 21; with_reducible refine (known2_any _).mono ?_; rintro e x1 ⟨rfl, hb⟩; have hC1 := hb; have K1 := And.intro ((b2.below hC1).cell 0 _ rfl) (And.intro ((b2.below hC1).cell 1 _ rfl) (And.intro ((b3.below hC1).cell 0 _ rfl) (And.intro ((b3.below hC1).cell 1 _ rfl) (And.intro ((b30.below hC1).cell 0 _ rfl) ((b30.below hC1).cell 1 _ rfl))))); clear hb)
            | (go_at_call 8; with_reducible refine (same2_v (f2.below hC1) (fu.below hC1) HA.out (by omega)).mono ?_; rintro e x2 ⟨rfl, hb⟩; have hC2 := hC1.trans (hb.mono hC1.size); have K2 := And.intro ((b2.below hC2).cell 0 _ rfl) (And.intro ((b2.below hC2).cell 1 _ rfl) (And.intro ((b3.below hC2).cell 0 _ rfl) (And.intro ((b3.below hC2).cell 1 _ rfl) (And.intro ((b30.below hC2).cell 0 _ rfl) ((b30.below hC2).cell 1 _ rfl))))); clear hb)
            | (go_at_call 23; with_reducible refine (nmake_v false (fv.below hC2) rfl).mono ?_; rintro e x3 ⟨s41, rfl, q41, hb⟩; have hC3 := hC2.trans (hb.mono hC2.size); have K3 := And.intro ((b2.below hC3).cell 0 _ rfl) (And.intro ((b2.below hC3).cell 1 _ rfl) (And.intro ((b3.below hC3).cell 0 _ rfl) (And.intro ((b3.below hC3).cell 1 _ rfl) (And.intro ((b30.below hC3).cell 0 _ rfl) ((b30.below hC3).cell 1 _ rfl))))); clear hb)
            | (go_at_call 8; with_reducible refine (same2_v (f3.below hC3) q41 HR.out (by omega)).mono ?_; rintro e x4 ⟨rfl, hb⟩; have hC4 := hC3.trans (hb.mono hC3.size); have q41 := q41.below hb; have K4 := And.intro ((b2.below hC4).cell 0 _ rfl) (And.intro ((b2.below hC4).cell 1 _ rfl) (And.intro ((b3.below hC4).cell 0 _ rfl) (And.intro ((b3.below hC4).cell 1 _ rfl) (And.intro ((b30.below hC4).cell 0 _ rfl) ((b30.below hC4).cell 1 _ rfl))))); clear hb)
          )
        have H9 := H0.trans (hC4.mono H0.size)
        go_wp2_with fail
        go_returns
        exact ⟨rfl, H9⟩
      · have HA2 := Lib.hid (hqb (by have h := HT.out; exact of_decide_eq_true h.symm))
        clear hqa hqb
        go_wp2_with fail
        refine (nminus_v fu).mono ?_
        rintro e w7 ⟨s31, rfl, fu2, hb⟩
        replace f2 := f2.below hb
        replace f3 := f3.below hb
        replace fv := fv.below hb
        replace b2 := b2.below hb
        replace b3 := b3.below hb
        replace b30 := b30.below hb
        replace H0 := H0.trans (hb.mono H0.size)
        clear hb c80 c300 c301 fu
        have r0 := b30.cell 0 _ rfl
        have r1 := b30.cell 1 _ rfl
        have y0 := b30.frozen 0
        have y1 := b30.frozen 1
        replace f2 := f2.stored b30 (notInt_box _ _ _ _) (.bool s31) (.slice B30 k30 d30)
        replace f3 := f3.stored b30 (notInt_box _ _ _ _) (.bool s31) (.slice B30 k30 d30)
        replace fv := fv.stored b30 (notInt_box _ _ _ _) (.bool s31) (.slice B30 k30 d30)
        have fu := fu2.stored b30 (notInt_box _ _ _ _) (.bool s31) (.slice B30 k30 d30)
        replace b2 := b2.far n26 (.bool s31) (.slice B30 k30 d30)
        replace b3 := b3.far n36 (.bool s31) (.slice B30 k30 d30)
        replace b30 := b30.stored (.bool s31) (.slice B30 k30 d30)
        replace H0 := below_stored H0 nr6 (.bool s31) (.slice B30 k30 d30)
        clear fu2
        go_wp2_with fail
        generalize hZ : (w7.setCell ⟨w6.heap.size, 0, none⟩ (.bool s31)).setCell ⟨w6.heap.size, 1, none⟩ (.slice B30 k30 d30) = Z at f2 f3 fv fu b2 b3 b30 H0 ⊢
        clear hZ r0 r1 y0 y1
        have hD := drawn_below Z
        replace b2 : Box Z.drew _ _ _ := b2
        replace b3 : Box Z.drew _ _ _ := b3
        replace b30 : Box Z.drew _ _ _ := b30
        replace f2 : NI Z.drew _ _ _ _ := f2
        replace f3 : NI Z.drew _ _ _ _ := f3
        replace fu : NI Z.drew _ _ _ _ := fu
        replace fv : NV Z.drew _ _ _ := fv
        replace H0 : Below w.heap.size w Z.drew := H0.trans (hD.mono H0.size)
        clear hD
        go_region_held3 (fun V => V.cell? ⟨w4.heap.size, 0, none⟩ = some (.bool s2) ∧ V.cell? ⟨w4.heap.size, 1, none⟩ = some (.slice B2 k2 d2) ∧ V.cell? ⟨w4.heap.size + 1, 0, none⟩ = some (.bool s3) ∧ V.cell? ⟨w4.heap.size + 1, 1, none⟩ = some (.slice B3 k3 d3) ∧ V.cell? ⟨w6.heap.size, 0, none⟩ = some (.bool s31) ∧ V.cell? ⟨w6.heap.size, 1, none⟩ = some (.slice B30 k30 d30)) (first | exact ⟨(b2).cell 0 _ rfl, (b2).cell 1 _ rfl, (b3).cell 0 _ rfl, (b3).cell 1 _ rfl, (b30).cell 0 _ rfl, (b30).cell 1 _ rfl⟩ | exact K4 | exact K3 | exact K2 | exact K1 | go_keep)
          (first
            | (go_at_call 21; with_reducible refine (known2_any _).mono ?_; rintro e x1 ⟨rfl, hb⟩; have hC1 := hb; have K1 := And.intro ((b2.below hC1).cell 0 _ rfl) (And.intro ((b2.below hC1).cell 1 _ rfl) (And.intro ((b3.below hC1).cell 0 _ rfl) (And.intro ((b3.below hC1).cell 1 _ rfl) (And.intro ((b30.below hC1).cell 0 _ rfl) ((b30.below hC1).cell 1 _ rfl))))); clear hb)
            | (go_at_call 8; with_reducible refine (same2_v (f2.below hC1) (fu.below hC1) HA2.out (by omega)).mono ?_; rintro e x2 ⟨rfl, hb⟩; have hC2 := hC1.trans (hb.mono hC1.size); have K2 := And.intro ((b2.below hC2).cell 0 _ rfl) (And.intro ((b2.below hC2).cell 1 _ rfl) (And.intro ((b3.below hC2).cell 0 _ rfl) (And.intro ((b3.below hC2).cell 1 _ rfl) (And.intro ((b30.below hC2).cell 0 _ rfl) ((b30.below hC2).cell 1 _ rfl))))); clear hb)
            | (go_at_call 23; with_reducible refine (nmake_v false (fv.below hC2) rfl).mono ?_; rintro e x3 ⟨s41, rfl, q41, hb⟩; have hC3 := hC2.trans (hb.mono hC2.size); have K3 := And.intro ((b2.below hC3).cell 0 _ rfl) (And.intro ((b2.below hC3).cell 1 _ rfl) (And.intro ((b3.below hC3).cell 0 _ rfl) (And.intro ((b3.below hC3).cell 1 _ rfl) (And.intro ((b30.below hC3).cell 0 _ rfl) ((b30.below hC3).cell 1 _ rfl))))); clear hb)
            | (go_at_call 8; with_reducible refine (same2_v (f3.below hC3) q41 HR.out (by omega)).mono ?_; rintro e x4 ⟨rfl, hb⟩; have hC4 := hC3.trans (hb.mono hC3.size); have q41 := q41.below hb; have K4 := And.intro ((b2.below hC4).cell 0 _ rfl) (And.intro ((b2.below hC4).cell 1 _ rfl) (And.intro ((b3.below hC4).cell 0 _ rfl) (And.intro ((b3.below hC4).cell 1 _ rfl) (And.intro ((b30.below hC4).cell 0 _ rfl) ((b30.below hC4).cell 1 _ rfl))))); clear hb)
          )
        have H9 := H0.trans (hC4.mono H0.size)
        go_wp2_with fail
        go_returns
        exact ⟨rfl, H9⟩
end Go.Proofs.YtkhfadfjkmhpgaaDoor
