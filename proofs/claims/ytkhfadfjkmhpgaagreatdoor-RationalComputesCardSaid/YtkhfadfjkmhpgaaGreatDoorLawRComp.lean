/-
  The walk of the law RationalComputes, out of the contracts of what it calls.
-/
import Derived.Test.YtkhfadfjkmhpgaaGreatDoorRatP
import Derived.Deep.Cut
import Derived.Test.YtkhfadfjkmhpgaaGreatDoorRatT
import Derived.Test.YtkhfadfjkmhpgaaGreatDoorRatS
import Derived.Test.YtkhfadfjkmhpgaaGreatDoorRatO
import Derived.Test.YtkhfadfjkmhpgaaGreatDoorFloor
namespace Go.Proofs.YtkhfadfjkmhpgaaGreatDoor
open Go.RowKit

section
variable {A0 A1 A2 A3 D0 D1 D2 D3 : Option Addr} {n0 n1 n2 n3 c0 c1 c2 c3 m0 m1 m2 m3 e0 e1 e2 e3 : Nat} {s0 s1 s2 s3 : Bool} {z z' z0 z1 z2 : Int} {q q' q0 q1 q2 : Rat} {L L0 L1 L2 x x0 x1 y : Nat} {k : Int} {w : World}
theorem rat_div_zero (q : Rat) : q / 0 = 0 := by rw [Rat.div_def, Rat.inv_zero, Rat.mul_zero]
theorem rdiv_b {b : Bool} (h : RQ w s0 (.slice A0 n0 c0) (.slice D0 m0 e0) q L) (h' : RQ w s1 (.slice A1 n1 c1) (.slice D1 m1 e1) q' L0) (hL : L ≤ 100000) (hL' : L0 ≤ 100000) (hb : decide (q' ≠ 0) = b) :
    Calls Tryz.prog 27 #[.agg #[.bool s0, .slice A0 n0 c0, .slice D0 m0 e0], .agg #[.bool s1, .slice A1 n1 c1, .slice D1 m1 e1]] w fun e w' => ∃ s3 A3 n3 c3 D3 m3 e3, e = .returned (.tuple #[.agg #[.bool s3, .slice A3 n3 c3, .slice D3 m3 e3], .bool b]) ∧ NQ w' s3 (.slice A3 n3 c3) (.slice D3 m3 e3) (q / q') (max L 2 + max L0 2) ∧ Below w.heap.size w w' := by
  subst hb
  by_cases h0 : q' = 0
  · subst h0
    refine (rdiv_zero h h').mono ?_
    rintro e w' ⟨s3, A3, n3, c3, D3, m3, e3, rfl, h1, h2⟩
    exact ⟨s3, A3, n3, c3, D3, m3, e3, by simp, by rw [rat_div_zero]; exact h1.more (by omega), h2⟩
  · refine (rdiv_v h h' hL hL' h0).mono ?_
    rintro e w' ⟨s3, A3, n3, c3, D3, m3, e3, rfl, h1, h2⟩
    exact ⟨s3, A3, n3, c3, D3, m3, e3, by simp [h0], h1, h2⟩
theorem nfloor_o {A' : Option Addr} {n' c' L' : Nat} (h : PQ w s0 (.slice A0 n0 c0) (.slice D0 m0 e0) q L) (hy : NV w (.slice A' n' c') y L') (hy0 : 0 < y) (hL : L ≤ 900) (hL' : L' ≤ 900) :
    Calls Tryz.prog 28 #[.agg #[.bool s0, .slice A0 n0 c0], .slice A' n' c'] w fun e w' => ∃ t B k d B' k' d', e = .returned (.tuple #[.agg #[.bool t, .slice B k d], .slice B' k' d']) ∧ NI w' t (.slice B k d) (q.num / (y : Int)) (max L 1 + 1) ∧ NV w' (.slice B' k' d') (q.num % (y : Int)).toNat L' ∧ Below w.heap.size w w' := nfloor_v h.1 hy hy0 hL hL'
theorem sameq_t (h : NQ w s0 (.slice A0 n0 c0) (.slice D0 m0 e0) q L) (h' : NQ w s1 (.slice A1 n1 c1) (.slice D1 m1 e1) q' L0) (he : q = q') :
    Calls Tryz.prog 46 #[.agg #[.bool s0, .slice A0 n0 c0, .slice D0 m0 e0], .agg #[.bool s1, .slice A1 n1 c1, .slice D1 m1 e1]] w fun e w' => e = .returned (.bool true) ∧ Below w.heap.size w w' := sameq_d h h' (decide_eq_true he)
theorem same3_t (h : NQ w s0 (.slice A0 n0 c0) (.slice D0 m0 e0) q L) (h' : PQ w s1 (.slice A1 n1 c1) (.slice D1 m1 e1) q' L0) (hL : L0 ≤ 100000) (he : q = q') :
    Calls Tryz.prog 14 #[.agg #[.bool s0, .slice A0 n0 c0, .slice D0 m0 e0], .agg #[.bool s1, .slice A1 n1 c1, .slice D1 m1 e1]] w fun e w' => e = .returned (.bool true) ∧ Below w.heap.size w w' := same3_d h h' hL (decide_eq_true he)
theorem floor_int (q : Rat) : q.floor = q.num / (q.den : Int) := by rw [Rat.floor_def]
theorem ceil_int (q : Rat) : -(-q).floor = -((-q).num / (q.den : Int)) := by rw [Rat.floor_def, Rat.neg_den]
theorem rsg_half (q : Rat) : rsg (q / 2) = rsg q := by
  rw [← mid_mk (q := q) (z := q.num) (d := q.den) (Rat.mkRat_self q).symm, rsg_mk (by have := q.den_nz; omega)]; rfl
theorem rsg_self (q : Rat) : rsg (q - q) = 0 := by rw [Rat.sub_self]; rfl
theorem rsg_of {q q' : Rat} (h : q = q') : rsg (q - q') = 0 := by rw [h]; exact rsg_self q'
set_option maxRecDepth 100000 in
set_option maxHeartbeats 60000000 in
theorem rationalcomputes_any {v : Value} {a a' : Addr} (HI : Ints w v) (hS : w.cell? ⟨0, 0, none⟩ = some (.iface 199 (.pointer (some a)))) (hR : w.cell? ⟨1, 0, none⟩ = some (.iface 199 (.pointer (some a')))) (htab : Lib.TabIs Tryz.prog w "internal/strconv.uint64pow10" .u64 Lib.pow10Tab) :
    Calls Tryz.prog 4 #[v] w fun e w' => e = .returned (.bool true) ∧ Below w.heap.size w w' := by
  have blkS := World.block_lt_of_cell? _ _ hS
  have blkR := World.block_lt_of_cell? _ _ hR
  have HK := Lib.hid (fun (W : World) (h : Below w.heap.size w W) => known3_any ((h.cell (p := ⟨0, 0, none⟩) blkS).trans hS) ((h.cell (p := ⟨1, 0, none⟩) blkR).trans hR) (Go.Joins.tab_stays (show Tryz.prog.globalNamed "internal/strconv.uint64pow10" = some 5 by kernel_rfl) htab h (Nat.le_refl _)))
  clear hS hR htab blkS blkR
  go_enter Tryz.func4, Tryz.ntmps4
  go_wp2_with fail
  refine (new_any HI).mono ?_
  rintro e w1 ⟨rfl, hT, H0, hsz⟩
  have hlt : w.heap.size < w1.heap.size := by omega
  clear hsz HI
  go_wp2_with fail
  refine (rmade_v hT hlt).mono ?_
  rintro e w2 ⟨q0, s0, A0, n0, c0, D0, m0, e0, rfl, f0, hT', hg⟩
  clear hT
  have hT := hT'
  clear hT'
  replace hlt := Nat.lt_of_lt_of_le hlt hg.size
  replace H0 := H0.grown hg H0.size (by rintro k hk; injection hk with hk; omega)
  clear hg
  go_wp2_with fail
  refine (rmade_v hT hlt).mono ?_
  rintro e w3 ⟨q1, s1, A1, n1, c1, D1, m1, e1, rfl, f1, hT', hg⟩
  replace f0 := f0.tape hT hg
  clear hT
  have hT := hT'
  clear hT'
  replace hlt := Nat.lt_of_lt_of_le hlt hg.size
  replace H0 := H0.grown hg H0.size (by rintro k hk; injection hk with hk; omega)
  clear hg
  clear hT hlt
  obtain ⟨W4, hW, b0, b1, hbW, hszW4⟩ := boxes2 w3 #[.bool s0, .slice A0 n0 c0, .slice D0 m0 e0] #[.bool s1, .slice A1 n1 c1, .slice D1 m1 e1] 27 27
  skip
  skip
  replace f0 := f0.below hbW
  replace f1 := f1.below hbW
  replace H0 := H0.trans (hbW.mono H0.size)
  clear hbW
  have cb00 := b0.cell 0 _ rfl
  have cb01 := b0.cell 1 _ rfl
  have cb02 := b0.cell 2 _ rfl
  have cb10 := b1.cell 0 _ rfl
  have cb11 := b1.cell 1 _ rfl
  have cb12 := b1.cell 2 _ rfl
  go_wp2_with fail
  clear hW
  clear cb00 cb01 cb02 cb10 cb11 cb12
  have lcb0_5 := b0.lt
  have lcb1_5 := b1.lt
  go_cut [6, 7] from 14 (fun u5_0 u5_1 wx => ∃ g5_0 g5_1 s2 A2 n2 c2 D2 m2 e2 s3 A3 n3 c3 D3 m3 e3, u5_0 = .pointer (some ⟨g5_0, 0, none⟩) ∧ u5_1 = .pointer (some ⟨g5_1, 0, none⟩) ∧ PQ wx s2 (.slice A2 n2 c2) (.slice D2 m2 e2) q0 6 ∧ PQ wx s3 (.slice A3 n3 c3) (.slice D3 m3 e3) q1 6 ∧ Box wx g5_0 #[.bool s2, .slice A2 n2 c2, .slice D2 m2 e2] 34 ∧ Box wx g5_1 #[.bool s3, .slice A3 n3 c3, .slice D3 m3 e3] 34 ∧ W4.heap.size ≤ g5_0 ∧ W4.heap.size ≤ g5_1 ∧ g5_0 ≠ g5_1 ∧ Below W4.heap.size W4 wx)
  case first => as_aux_lemma =>
    have hG := drawn_below W4
    refine wp_region_noPanic ?_
    refine wp_region_held_drew (S := (fun V => V.cell? ⟨w3.heap.size, 0, none⟩ = some (.bool s0) ∧ V.cell? ⟨w3.heap.size, 1, none⟩ = some (.slice A0 n0 c0) ∧ V.cell? ⟨w3.heap.size, 2, none⟩ = some (.slice D0 m0 e0) ∧ V.cell? ⟨w3.heap.size + 1, 0, none⟩ = some (.bool s1) ∧ V.cell? ⟨w3.heap.size + 1, 1, none⟩ = some (.slice A1 n1 c1) ∧ V.cell? ⟨w3.heap.size + 1, 2, none⟩ = some (.slice D1 m1 e1))) (by kernel_rfl) ⟨(b0.below hG).cell 0 _ rfl, (b0.below hG).cell 1 _ rfl, (b0.below hG).cell 2 _ rfl, (b1.below hG).cell 0 _ rfl, (b1.below hG).cell 1 _ rfl, (b1.below hG).cell 2 _ rfl⟩ (fun hHeld => ?_)
    generalize W4.drew = v5 at hG hHeld ⊢
    have sG := hG.size
    refine wpAnyH_take (i := 0) (v := ?_) rfl (by kernel_rfl) (by kernel_rfl) (by kernel_rfl) (fun _ _ _ h => h) (Or.inl ⟨by rfl, ?_⟩) (by assumption) ?_
    rotate_left
    · (intro w hSw; (try dsimp only at hSw); go_simp; (try with_reducible rfl))
    (try simp only [List.getElem_toArray, List.getElem_cons_zero, Act.put, List.setIfInBounds_toArray, List.set_cons_zero, List.set_cons_succ])
    refine wpAnyH_take (i := 2) (v := ?_) rfl (by kernel_rfl) (by kernel_rfl) (by kernel_rfl) (fun _ _ _ h => h) (Or.inl ⟨by rfl, ?_⟩) (by assumption) ?_
    rotate_left
    · (intro w hSw; (try dsimp only at hSw); go_simp; (try with_reducible rfl))
    (try simp only [List.getElem_toArray, List.getElem_cons_succ, List.getElem_cons_zero, Act.put, List.setIfInBounds_toArray, List.set_cons_zero, List.set_cons_succ])
    refine wpAnyH_ready (rs := [1, 4, 5]) (by kernel_rfl) (by simp) (AllReadyH.cons (o := _) rfl (fun K hK => ?_) (AllReadyH.cons (o := _) rfl (fun K hK => ?_) (AllReadyH.cons (o := _) rfl (fun K hK => ?_) AllReadyH.nil)))
    · go_simp
      go_at_call 11
      refine (refq_v (f0.below hG) (by omega)).mono ?_
      rintro e y5_1 ⟨s2, A2, n2, c2, D2, m2, e2, rfl, g2, hb9⟩
      have szy5_1 := hb9.size
      replace hG := hG.trans (hb9.mono sG)
      replace sG := hG.size
      clear hb9
      go_wp2_with fail
      refine hK.out _ _ ⟨(b0.below hG).cell 0 _ rfl, (b0.below hG).cell 1 _ rfl, (b0.below hG).cell 2 _ rfl, (b1.below hG).cell 0 _ rfl, (b1.below hG).cell 1 _ rfl, (b1.below hG).cell 2 _ rfl⟩ (fun hHeld => ?_)
      clear hK K
      (try simp only [List.getElem_toArray, List.getElem_cons_succ, List.getElem_cons_zero, Act.put, List.setIfInBounds_toArray, List.set_cons_zero, List.set_cons_succ])
      refine wpAnyH_ready (rs := [3, 4, 5]) (by kernel_rfl) (by simp) (AllReadyH.cons (o := _) rfl (fun K hK => ?_) (AllReadyH.cons (o := _) rfl (fun K hK => ?_) (AllReadyH.cons (o := _) rfl (fun K hK => ?_) AllReadyH.nil)))
      · go_simp
        go_at_call 11
        refine (refq_v (f1.below hG) (by omega)).mono ?_
        rintro e y5_2 ⟨s3, A3, n3, c3, D3, m3, e3, rfl, g3, hb9⟩
        have szy5_2 := hb9.size
        replace g2 := g2.below hb9
        replace hG := hG.trans (hb9.mono sG)
        replace sG := hG.size
        clear hb9
        go_wp2_with fail
        refine hK.out _ _ ⟨(b0.below hG).cell 0 _ rfl, (b0.below hG).cell 1 _ rfl, (b0.below hG).cell 2 _ rfl, (b1.below hG).cell 0 _ rfl, (b1.below hG).cell 1 _ rfl, (b1.below hG).cell 2 _ rfl⟩ (fun hHeld => ?_)
        clear hK K
        (try simp only [List.getElem_toArray, List.getElem_cons_succ, List.getElem_cons_zero, Act.put, List.setIfInBounds_toArray, List.set_cons_zero, List.set_cons_succ])
        refine wpAnyH_ready (rs := [4, 5]) (by kernel_rfl) (by simp) (AllReadyH.cons (o := _) rfl (fun K hK => ?_) (AllReadyH.cons (o := _) rfl (fun K hK => ?_) AllReadyH.nil))
        · go_simp
          obtain ⟨y5_3, hV, b2, hb9, szy5_3⟩ := boxes1 y5_2 #[.bool false, .slice none 0 0, .slice none 0 0] 34
          rw [hV]
          clear hV
          have gly5_3 : W4.heap.size ≤ y5_2.heap.size := sG
          replace szy5_3 : y5_2.heap.size < y5_3.heap.size := by omega
          replace g2 := g2.below hb9
          replace g3 := g3.below hb9
          replace hG := hG.trans (hb9.mono sG)
          replace sG := hG.size
          clear hb9
          refine hK.out _ _ ⟨(b0.below hG).cell 0 _ rfl, (b0.below hG).cell 1 _ rfl, (b0.below hG).cell 2 _ rfl, (b1.below hG).cell 0 _ rfl, (b1.below hG).cell 1 _ rfl, (b1.below hG).cell 2 _ rfl⟩ (fun hHeld => ?_)
          clear hK K
          (try simp only [List.getElem_toArray, List.getElem_cons_succ, List.getElem_cons_zero, Act.put, List.setIfInBounds_toArray, List.set_cons_zero, List.set_cons_succ])
          refine wpAnyH_ready (rs := [5]) (by kernel_rfl) (by simp) (AllReadyH.cons (o := _) rfl (fun K hK => ?_) AllReadyH.nil)
          go_simp
          obtain ⟨y5_4, hV, b3, hb9, szy5_4⟩ := boxes1 y5_3 #[.bool false, .slice none 0 0, .slice none 0 0] 34
          rw [hV]
          clear hV
          have gly5_4 : W4.heap.size ≤ y5_3.heap.size := sG
          replace szy5_4 : y5_3.heap.size < y5_4.heap.size := by omega
          replace g2 := g2.below hb9
          replace g3 := g3.below hb9
          replace b2 := b2.below hb9
          replace hG := hG.trans (hb9.mono sG)
          replace sG := hG.size
          clear hb9
          refine hK.out _ _ ⟨(b0.below hG).cell 0 _ rfl, (b0.below hG).cell 1 _ rfl, (b0.below hG).cell 2 _ rfl, (b1.below hG).cell 0 _ rfl, (b1.below hG).cell 1 _ rfl, (b1.below hG).cell 2 _ rfl⟩ (fun hHeld => ?_)
          clear hK K
          (try simp only [List.getElem_toArray, List.getElem_cons_succ, List.getElem_cons_zero, Act.put, List.setIfInBounds_toArray, List.set_cons_zero, List.set_cons_succ])
          have rb20 := b2.cell 0 _ rfl
          have qb20 := b2.frozen 0
          have rb21 := b2.cell 1 _ rfl
          have qb21 := b2.frozen 1
          have rb22 := b2.cell 2 _ rfl
          have qb22 := b2.frozen 2
          have rb30 := b3.cell 0 _ rfl
          have qb30 := b3.frozen 0
          have rb31 := b3.cell 1 _ rfl
          have qb31 := b3.frozen 1
          have rb32 := b3.cell 2 _ rfl
          have qb32 := b3.frozen 2
          refine wpAnyH_ready (rs := [6]) (by kernel_rfl) (by simp) (AllReadyH.cons (o := _) rfl (fun K hK => ?_) AllReadyH.nil)
          go_simp
          clear rb20 qb20
          clear rb21 qb21
          clear rb22 qb22
          clear rb30 qb30
          clear rb31 qb31
          clear rb32 qb32
          have hg := only_store3 y5_4 (y5_2.heap.size) (.bool s2) (.slice A2 n2 c2) (.slice D2 m2 e2)
          have hB := b2.stored3 (.bool s2) (.slice A2 n2 c2) (.slice D2 m2 e2)
          generalize hX : (((y5_4.setCell ⟨y5_2.heap.size, 0, none⟩ (.bool s2)).setCell ⟨y5_2.heap.size, 1, none⟩ (.slice A2 n2 c2)).setCell ⟨y5_2.heap.size, 2, none⟩ (.slice D2 m2 e2)) = Y5_5 at hg hB ⊢
          clear hX
          replace g2 := g2.kept b2 (by simp [notInt]) hg
          replace g3 := g3.kept b2 (by simp [notInt]) hg
          replace b3 := b3.other hg (by omega)
          replace b2 := hB
          replace hG := below_only hG hg (by omega) sG
          replace sG := hG.size
          clear hg hB
          refine hK.out _ _ ⟨(b0.below hG).cell 0 _ rfl, (b0.below hG).cell 1 _ rfl, (b0.below hG).cell 2 _ rfl, (b1.below hG).cell 0 _ rfl, (b1.below hG).cell 1 _ rfl, (b1.below hG).cell 2 _ rfl⟩ (fun hHeld => ?_)
          clear hK K
          (try simp only [List.getElem_toArray, List.getElem_cons_succ, List.getElem_cons_zero, Act.put, List.setIfInBounds_toArray, List.set_cons_zero, List.set_cons_succ])
          have rb20 := b2.cell 0 _ rfl
          have qb20 := b2.frozen 0
          have rb21 := b2.cell 1 _ rfl
          have qb21 := b2.frozen 1
          have rb22 := b2.cell 2 _ rfl
          have qb22 := b2.frozen 2
          have rb30 := b3.cell 0 _ rfl
          have qb30 := b3.frozen 0
          have rb31 := b3.cell 1 _ rfl
          have qb31 := b3.frozen 1
          have rb32 := b3.cell 2 _ rfl
          have qb32 := b3.frozen 2
          refine wpAnyH_ready (rs := [7]) (by kernel_rfl) (by simp) (AllReadyH.cons (o := _) rfl (fun K hK => ?_) AllReadyH.nil)
          go_simp
          clear rb20 qb20
          clear rb21 qb21
          clear rb22 qb22
          clear rb30 qb30
          clear rb31 qb31
          clear rb32 qb32
          have hg := only_store3 Y5_5 (y5_3.heap.size) (.bool s3) (.slice A3 n3 c3) (.slice D3 m3 e3)
          have hB := b3.stored3 (.bool s3) (.slice A3 n3 c3) (.slice D3 m3 e3)
          generalize hX : (((Y5_5.setCell ⟨y5_3.heap.size, 0, none⟩ (.bool s3)).setCell ⟨y5_3.heap.size, 1, none⟩ (.slice A3 n3 c3)).setCell ⟨y5_3.heap.size, 2, none⟩ (.slice D3 m3 e3)) = Y5_6 at hg hB ⊢
          clear hX
          replace g2 := g2.kept b3 (by simp [notInt]) hg
          replace g3 := g3.kept b3 (by simp [notInt]) hg
          replace b2 := b2.other hg (by omega)
          replace b3 := hB
          replace hG := below_only hG hg (by omega) sG
          replace sG := hG.size
          clear hg hB
          refine hK.out _ _ ⟨(b0.below hG).cell 0 _ rfl, (b0.below hG).cell 1 _ rfl, (b0.below hG).cell 2 _ rfl, (b1.below hG).cell 0 _ rfl, (b1.below hG).cell 1 _ rfl, (b1.below hG).cell 2 _ rfl⟩ (fun hHeld => ?_)
          clear hK K
          (try simp only [List.getElem_toArray, List.getElem_cons_succ, List.getElem_cons_zero, Act.put, List.setIfInBounds_toArray, List.set_cons_zero, List.set_cons_succ])
          refine wpAnyH_done (by kernel_rfl) ?_ _
          refine NoPanic.normal ?_
          go_wp2_with fail
          go_meet
          exact ⟨y5_2.heap.size, y5_3.heap.size, s2, A2, n2, c2, D2, m2, e2, s3, A3, n3, c3, D3, m3, e3, rfl, rfl, g2, g3, b2, b3, (by omega), (by omega), (by omega), hG⟩
        · go_simp
          obtain ⟨y5_7, hV, b3, hb9, szy5_7⟩ := boxes1 y5_2 #[.bool false, .slice none 0 0, .slice none 0 0] 34
          rw [hV]
          clear hV
          have gly5_7 : W4.heap.size ≤ y5_2.heap.size := sG
          replace szy5_7 : y5_2.heap.size < y5_7.heap.size := by omega
          replace g2 := g2.below hb9
          replace g3 := g3.below hb9
          replace hG := hG.trans (hb9.mono sG)
          replace sG := hG.size
          clear hb9
          refine hK.out _ _ ⟨(b0.below hG).cell 0 _ rfl, (b0.below hG).cell 1 _ rfl, (b0.below hG).cell 2 _ rfl, (b1.below hG).cell 0 _ rfl, (b1.below hG).cell 1 _ rfl, (b1.below hG).cell 2 _ rfl⟩ (fun hHeld => ?_)
          clear hK K
          (try simp only [List.getElem_toArray, List.getElem_cons_succ, List.getElem_cons_zero, Act.put, List.setIfInBounds_toArray, List.set_cons_zero, List.set_cons_succ])
          refine wpAnyH_ready (rs := [4]) (by kernel_rfl) (by simp) (AllReadyH.cons (o := _) rfl (fun K hK => ?_) AllReadyH.nil)
          go_simp
          obtain ⟨y5_8, hV, b2, hb9, szy5_8⟩ := boxes1 y5_7 #[.bool false, .slice none 0 0, .slice none 0 0] 34
          rw [hV]
          clear hV
          have gly5_8 : W4.heap.size ≤ y5_7.heap.size := sG
          replace szy5_8 : y5_7.heap.size < y5_8.heap.size := by omega
          replace g2 := g2.below hb9
          replace g3 := g3.below hb9
          replace b3 := b3.below hb9
          replace hG := hG.trans (hb9.mono sG)
          replace sG := hG.size
          clear hb9
          refine hK.out _ _ ⟨(b0.below hG).cell 0 _ rfl, (b0.below hG).cell 1 _ rfl, (b0.below hG).cell 2 _ rfl, (b1.below hG).cell 0 _ rfl, (b1.below hG).cell 1 _ rfl, (b1.below hG).cell 2 _ rfl⟩ (fun hHeld => ?_)
          clear hK K
          (try simp only [List.getElem_toArray, List.getElem_cons_succ, List.getElem_cons_zero, Act.put, List.setIfInBounds_toArray, List.set_cons_zero, List.set_cons_succ])
          have rb30 := b3.cell 0 _ rfl
          have qb30 := b3.frozen 0
          have rb31 := b3.cell 1 _ rfl
          have qb31 := b3.frozen 1
          have rb32 := b3.cell 2 _ rfl
          have qb32 := b3.frozen 2
          have rb20 := b2.cell 0 _ rfl
          have qb20 := b2.frozen 0
          have rb21 := b2.cell 1 _ rfl
          have qb21 := b2.frozen 1
          have rb22 := b2.cell 2 _ rfl
          have qb22 := b2.frozen 2
          refine wpAnyH_ready (rs := [6]) (by kernel_rfl) (by simp) (AllReadyH.cons (o := _) rfl (fun K hK => ?_) AllReadyH.nil)
          go_simp
          clear rb30 qb30
          clear rb31 qb31
          clear rb32 qb32
          clear rb20 qb20
          clear rb21 qb21
          clear rb22 qb22
          have hg := only_store3 y5_8 (y5_7.heap.size) (.bool s2) (.slice A2 n2 c2) (.slice D2 m2 e2)
          have hB := b2.stored3 (.bool s2) (.slice A2 n2 c2) (.slice D2 m2 e2)
          generalize hX : (((y5_8.setCell ⟨y5_7.heap.size, 0, none⟩ (.bool s2)).setCell ⟨y5_7.heap.size, 1, none⟩ (.slice A2 n2 c2)).setCell ⟨y5_7.heap.size, 2, none⟩ (.slice D2 m2 e2)) = Y5_9 at hg hB ⊢
          clear hX
          replace g2 := g2.kept b2 (by simp [notInt]) hg
          replace g3 := g3.kept b2 (by simp [notInt]) hg
          replace b3 := b3.other hg (by omega)
          replace b2 := hB
          replace hG := below_only hG hg (by omega) sG
          replace sG := hG.size
          clear hg hB
          refine hK.out _ _ ⟨(b0.below hG).cell 0 _ rfl, (b0.below hG).cell 1 _ rfl, (b0.below hG).cell 2 _ rfl, (b1.below hG).cell 0 _ rfl, (b1.below hG).cell 1 _ rfl, (b1.below hG).cell 2 _ rfl⟩ (fun hHeld => ?_)
          clear hK K
          (try simp only [List.getElem_toArray, List.getElem_cons_succ, List.getElem_cons_zero, Act.put, List.setIfInBounds_toArray, List.set_cons_zero, List.set_cons_succ])
          have rb30 := b3.cell 0 _ rfl
          have qb30 := b3.frozen 0
          have rb31 := b3.cell 1 _ rfl
          have qb31 := b3.frozen 1
          have rb32 := b3.cell 2 _ rfl
          have qb32 := b3.frozen 2
          have rb20 := b2.cell 0 _ rfl
          have qb20 := b2.frozen 0
          have rb21 := b2.cell 1 _ rfl
          have qb21 := b2.frozen 1
          have rb22 := b2.cell 2 _ rfl
          have qb22 := b2.frozen 2
          refine wpAnyH_ready (rs := [7]) (by kernel_rfl) (by simp) (AllReadyH.cons (o := _) rfl (fun K hK => ?_) AllReadyH.nil)
          go_simp
          clear rb30 qb30
          clear rb31 qb31
          clear rb32 qb32
          clear rb20 qb20
          clear rb21 qb21
          clear rb22 qb22
          have hg := only_store3 Y5_9 (y5_2.heap.size) (.bool s3) (.slice A3 n3 c3) (.slice D3 m3 e3)
          have hB := b3.stored3 (.bool s3) (.slice A3 n3 c3) (.slice D3 m3 e3)
          generalize hX : (((Y5_9.setCell ⟨y5_2.heap.size, 0, none⟩ (.bool s3)).setCell ⟨y5_2.heap.size, 1, none⟩ (.slice A3 n3 c3)).setCell ⟨y5_2.heap.size, 2, none⟩ (.slice D3 m3 e3)) = Y5_10 at hg hB ⊢
          clear hX
          replace g2 := g2.kept b3 (by simp [notInt]) hg
          replace g3 := g3.kept b3 (by simp [notInt]) hg
          replace b2 := b2.other hg (by omega)
          replace b3 := hB
          replace hG := below_only hG hg (by omega) sG
          replace sG := hG.size
          clear hg hB
          refine hK.out _ _ ⟨(b0.below hG).cell 0 _ rfl, (b0.below hG).cell 1 _ rfl, (b0.below hG).cell 2 _ rfl, (b1.below hG).cell 0 _ rfl, (b1.below hG).cell 1 _ rfl, (b1.below hG).cell 2 _ rfl⟩ (fun hHeld => ?_)
          clear hK K
          (try simp only [List.getElem_toArray, List.getElem_cons_succ, List.getElem_cons_zero, Act.put, List.setIfInBounds_toArray, List.set_cons_zero, List.set_cons_succ])
          refine wpAnyH_done (by kernel_rfl) ?_ _
          refine NoPanic.normal ?_
          go_wp2_with fail
          go_meet
          exact ⟨y5_7.heap.size, y5_2.heap.size, s2, A2, n2, c2, D2, m2, e2, s3, A3, n3, c3, D3, m3, e3, rfl, rfl, g2, g3, b2, b3, (by omega), (by omega), (by omega), hG⟩
      · go_simp
        obtain ⟨y5_11, hV, b2, hb9, szy5_11⟩ := boxes1 y5_1 #[.bool false, .slice none 0 0, .slice none 0 0] 34
        rw [hV]
        clear hV
        have gly5_11 : W4.heap.size ≤ y5_1.heap.size := sG
        replace szy5_11 : y5_1.heap.size < y5_11.heap.size := by omega
        replace g2 := g2.below hb9
        replace hG := hG.trans (hb9.mono sG)
        replace sG := hG.size
        clear hb9
        refine hK.out _ _ ⟨(b0.below hG).cell 0 _ rfl, (b0.below hG).cell 1 _ rfl, (b0.below hG).cell 2 _ rfl, (b1.below hG).cell 0 _ rfl, (b1.below hG).cell 1 _ rfl, (b1.below hG).cell 2 _ rfl⟩ (fun hHeld => ?_)
        clear hK K
        (try simp only [List.getElem_toArray, List.getElem_cons_succ, List.getElem_cons_zero, Act.put, List.setIfInBounds_toArray, List.set_cons_zero, List.set_cons_succ])
        refine wpAnyH_ready (rs := [3, 5]) (by kernel_rfl) (by simp) (AllReadyH.cons (o := _) rfl (fun K hK => ?_) (AllReadyH.cons (o := _) rfl (fun K hK => ?_) AllReadyH.nil))
        · go_simp
          go_at_call 11
          refine (refq_v (f1.below hG) (by omega)).mono ?_
          rintro e y5_12 ⟨s3, A3, n3, c3, D3, m3, e3, rfl, g3, hb9⟩
          have szy5_12 := hb9.size
          replace g2 := g2.below hb9
          replace b2 := b2.below hb9
          replace hG := hG.trans (hb9.mono sG)
          replace sG := hG.size
          clear hb9
          go_wp2_with fail
          refine hK.out _ _ ⟨(b0.below hG).cell 0 _ rfl, (b0.below hG).cell 1 _ rfl, (b0.below hG).cell 2 _ rfl, (b1.below hG).cell 0 _ rfl, (b1.below hG).cell 1 _ rfl, (b1.below hG).cell 2 _ rfl⟩ (fun hHeld => ?_)
          clear hK K
          (try simp only [List.getElem_toArray, List.getElem_cons_succ, List.getElem_cons_zero, Act.put, List.setIfInBounds_toArray, List.set_cons_zero, List.set_cons_succ])
          refine wpAnyH_ready (rs := [5]) (by kernel_rfl) (by simp) (AllReadyH.cons (o := _) rfl (fun K hK => ?_) AllReadyH.nil)
          go_simp
          obtain ⟨y5_13, hV, b3, hb9, szy5_13⟩ := boxes1 y5_12 #[.bool false, .slice none 0 0, .slice none 0 0] 34
          rw [hV]
          clear hV
          have gly5_13 : W4.heap.size ≤ y5_12.heap.size := sG
          replace szy5_13 : y5_12.heap.size < y5_13.heap.size := by omega
          replace g2 := g2.below hb9
          replace g3 := g3.below hb9
          replace b2 := b2.below hb9
          replace hG := hG.trans (hb9.mono sG)
          replace sG := hG.size
          clear hb9
          refine hK.out _ _ ⟨(b0.below hG).cell 0 _ rfl, (b0.below hG).cell 1 _ rfl, (b0.below hG).cell 2 _ rfl, (b1.below hG).cell 0 _ rfl, (b1.below hG).cell 1 _ rfl, (b1.below hG).cell 2 _ rfl⟩ (fun hHeld => ?_)
          clear hK K
          (try simp only [List.getElem_toArray, List.getElem_cons_succ, List.getElem_cons_zero, Act.put, List.setIfInBounds_toArray, List.set_cons_zero, List.set_cons_succ])
          have rb20 := b2.cell 0 _ rfl
          have qb20 := b2.frozen 0
          have rb21 := b2.cell 1 _ rfl
          have qb21 := b2.frozen 1
          have rb22 := b2.cell 2 _ rfl
          have qb22 := b2.frozen 2
          have rb30 := b3.cell 0 _ rfl
          have qb30 := b3.frozen 0
          have rb31 := b3.cell 1 _ rfl
          have qb31 := b3.frozen 1
          have rb32 := b3.cell 2 _ rfl
          have qb32 := b3.frozen 2
          refine wpAnyH_ready (rs := [6]) (by kernel_rfl) (by simp) (AllReadyH.cons (o := _) rfl (fun K hK => ?_) AllReadyH.nil)
          go_simp
          clear rb20 qb20
          clear rb21 qb21
          clear rb22 qb22
          clear rb30 qb30
          clear rb31 qb31
          clear rb32 qb32
          have hg := only_store3 y5_13 (y5_1.heap.size) (.bool s2) (.slice A2 n2 c2) (.slice D2 m2 e2)
          have hB := b2.stored3 (.bool s2) (.slice A2 n2 c2) (.slice D2 m2 e2)
          generalize hX : (((y5_13.setCell ⟨y5_1.heap.size, 0, none⟩ (.bool s2)).setCell ⟨y5_1.heap.size, 1, none⟩ (.slice A2 n2 c2)).setCell ⟨y5_1.heap.size, 2, none⟩ (.slice D2 m2 e2)) = Y5_14 at hg hB ⊢
          clear hX
          replace g2 := g2.kept b2 (by simp [notInt]) hg
          replace g3 := g3.kept b2 (by simp [notInt]) hg
          replace b3 := b3.other hg (by omega)
          replace b2 := hB
          replace hG := below_only hG hg (by omega) sG
          replace sG := hG.size
          clear hg hB
          refine hK.out _ _ ⟨(b0.below hG).cell 0 _ rfl, (b0.below hG).cell 1 _ rfl, (b0.below hG).cell 2 _ rfl, (b1.below hG).cell 0 _ rfl, (b1.below hG).cell 1 _ rfl, (b1.below hG).cell 2 _ rfl⟩ (fun hHeld => ?_)
          clear hK K
          (try simp only [List.getElem_toArray, List.getElem_cons_succ, List.getElem_cons_zero, Act.put, List.setIfInBounds_toArray, List.set_cons_zero, List.set_cons_succ])
          have rb20 := b2.cell 0 _ rfl
          have qb20 := b2.frozen 0
          have rb21 := b2.cell 1 _ rfl
          have qb21 := b2.frozen 1
          have rb22 := b2.cell 2 _ rfl
          have qb22 := b2.frozen 2
          have rb30 := b3.cell 0 _ rfl
          have qb30 := b3.frozen 0
          have rb31 := b3.cell 1 _ rfl
          have qb31 := b3.frozen 1
          have rb32 := b3.cell 2 _ rfl
          have qb32 := b3.frozen 2
          refine wpAnyH_ready (rs := [7]) (by kernel_rfl) (by simp) (AllReadyH.cons (o := _) rfl (fun K hK => ?_) AllReadyH.nil)
          go_simp
          clear rb20 qb20
          clear rb21 qb21
          clear rb22 qb22
          clear rb30 qb30
          clear rb31 qb31
          clear rb32 qb32
          have hg := only_store3 Y5_14 (y5_12.heap.size) (.bool s3) (.slice A3 n3 c3) (.slice D3 m3 e3)
          have hB := b3.stored3 (.bool s3) (.slice A3 n3 c3) (.slice D3 m3 e3)
          generalize hX : (((Y5_14.setCell ⟨y5_12.heap.size, 0, none⟩ (.bool s3)).setCell ⟨y5_12.heap.size, 1, none⟩ (.slice A3 n3 c3)).setCell ⟨y5_12.heap.size, 2, none⟩ (.slice D3 m3 e3)) = Y5_15 at hg hB ⊢
          clear hX
          replace g2 := g2.kept b3 (by simp [notInt]) hg
          replace g3 := g3.kept b3 (by simp [notInt]) hg
          replace b2 := b2.other hg (by omega)
          replace b3 := hB
          replace hG := below_only hG hg (by omega) sG
          replace sG := hG.size
          clear hg hB
          refine hK.out _ _ ⟨(b0.below hG).cell 0 _ rfl, (b0.below hG).cell 1 _ rfl, (b0.below hG).cell 2 _ rfl, (b1.below hG).cell 0 _ rfl, (b1.below hG).cell 1 _ rfl, (b1.below hG).cell 2 _ rfl⟩ (fun hHeld => ?_)
          clear hK K
          (try simp only [List.getElem_toArray, List.getElem_cons_succ, List.getElem_cons_zero, Act.put, List.setIfInBounds_toArray, List.set_cons_zero, List.set_cons_succ])
          refine wpAnyH_done (by kernel_rfl) ?_ _
          refine NoPanic.normal ?_
          go_wp2_with fail
          go_meet
          exact ⟨y5_1.heap.size, y5_12.heap.size, s2, A2, n2, c2, D2, m2, e2, s3, A3, n3, c3, D3, m3, e3, rfl, rfl, g2, g3, b2, b3, (by omega), (by omega), (by omega), hG⟩
        · go_simp
          obtain ⟨y5_16, hV, b3, hb9, szy5_16⟩ := boxes1 y5_11 #[.bool false, .slice none 0 0, .slice none 0 0] 34
          rw [hV]
          clear hV
          have gly5_16 : W4.heap.size ≤ y5_11.heap.size := sG
          replace szy5_16 : y5_11.heap.size < y5_16.heap.size := by omega
          replace g2 := g2.below hb9
          replace b2 := b2.below hb9
          replace hG := hG.trans (hb9.mono sG)
          replace sG := hG.size
          clear hb9
          refine hK.out _ _ ⟨(b0.below hG).cell 0 _ rfl, (b0.below hG).cell 1 _ rfl, (b0.below hG).cell 2 _ rfl, (b1.below hG).cell 0 _ rfl, (b1.below hG).cell 1 _ rfl, (b1.below hG).cell 2 _ rfl⟩ (fun hHeld => ?_)
          clear hK K
          (try simp only [List.getElem_toArray, List.getElem_cons_succ, List.getElem_cons_zero, Act.put, List.setIfInBounds_toArray, List.set_cons_zero, List.set_cons_succ])
          refine wpAnyH_ready (rs := [3]) (by kernel_rfl) (by simp) (AllReadyH.cons (o := _) rfl (fun K hK => ?_) AllReadyH.nil)
          go_simp
          go_at_call 11
          refine (refq_v (f1.below hG) (by omega)).mono ?_
          rintro e y5_17 ⟨s3, A3, n3, c3, D3, m3, e3, rfl, g3, hb9⟩
          have szy5_17 := hb9.size
          replace g2 := g2.below hb9
          replace b2 := b2.below hb9
          replace b3 := b3.below hb9
          replace hG := hG.trans (hb9.mono sG)
          replace sG := hG.size
          clear hb9
          go_wp2_with fail
          refine hK.out _ _ ⟨(b0.below hG).cell 0 _ rfl, (b0.below hG).cell 1 _ rfl, (b0.below hG).cell 2 _ rfl, (b1.below hG).cell 0 _ rfl, (b1.below hG).cell 1 _ rfl, (b1.below hG).cell 2 _ rfl⟩ (fun hHeld => ?_)
          clear hK K
          (try simp only [List.getElem_toArray, List.getElem_cons_succ, List.getElem_cons_zero, Act.put, List.setIfInBounds_toArray, List.set_cons_zero, List.set_cons_succ])
          have rb20 := b2.cell 0 _ rfl
          have qb20 := b2.frozen 0
          have rb21 := b2.cell 1 _ rfl
          have qb21 := b2.frozen 1
          have rb22 := b2.cell 2 _ rfl
          have qb22 := b2.frozen 2
          have rb30 := b3.cell 0 _ rfl
          have qb30 := b3.frozen 0
          have rb31 := b3.cell 1 _ rfl
          have qb31 := b3.frozen 1
          have rb32 := b3.cell 2 _ rfl
          have qb32 := b3.frozen 2
          refine wpAnyH_ready (rs := [6]) (by kernel_rfl) (by simp) (AllReadyH.cons (o := _) rfl (fun K hK => ?_) AllReadyH.nil)
          go_simp
          clear rb20 qb20
          clear rb21 qb21
          clear rb22 qb22
          clear rb30 qb30
          clear rb31 qb31
          clear rb32 qb32
          have hg := only_store3 y5_17 (y5_1.heap.size) (.bool s2) (.slice A2 n2 c2) (.slice D2 m2 e2)
          have hB := b2.stored3 (.bool s2) (.slice A2 n2 c2) (.slice D2 m2 e2)
          generalize hX : (((y5_17.setCell ⟨y5_1.heap.size, 0, none⟩ (.bool s2)).setCell ⟨y5_1.heap.size, 1, none⟩ (.slice A2 n2 c2)).setCell ⟨y5_1.heap.size, 2, none⟩ (.slice D2 m2 e2)) = Y5_18 at hg hB ⊢
          clear hX
          replace g2 := g2.kept b2 (by simp [notInt]) hg
          replace g3 := g3.kept b2 (by simp [notInt]) hg
          replace b3 := b3.other hg (by omega)
          replace b2 := hB
          replace hG := below_only hG hg (by omega) sG
          replace sG := hG.size
          clear hg hB
          refine hK.out _ _ ⟨(b0.below hG).cell 0 _ rfl, (b0.below hG).cell 1 _ rfl, (b0.below hG).cell 2 _ rfl, (b1.below hG).cell 0 _ rfl, (b1.below hG).cell 1 _ rfl, (b1.below hG).cell 2 _ rfl⟩ (fun hHeld => ?_)
          clear hK K
          (try simp only [List.getElem_toArray, List.getElem_cons_succ, List.getElem_cons_zero, Act.put, List.setIfInBounds_toArray, List.set_cons_zero, List.set_cons_succ])
          have rb20 := b2.cell 0 _ rfl
          have qb20 := b2.frozen 0
          have rb21 := b2.cell 1 _ rfl
          have qb21 := b2.frozen 1
          have rb22 := b2.cell 2 _ rfl
          have qb22 := b2.frozen 2
          have rb30 := b3.cell 0 _ rfl
          have qb30 := b3.frozen 0
          have rb31 := b3.cell 1 _ rfl
          have qb31 := b3.frozen 1
          have rb32 := b3.cell 2 _ rfl
          have qb32 := b3.frozen 2
          refine wpAnyH_ready (rs := [7]) (by kernel_rfl) (by simp) (AllReadyH.cons (o := _) rfl (fun K hK => ?_) AllReadyH.nil)
          go_simp
          clear rb20 qb20
          clear rb21 qb21
          clear rb22 qb22
          clear rb30 qb30
          clear rb31 qb31
          clear rb32 qb32
          have hg := only_store3 Y5_18 (y5_11.heap.size) (.bool s3) (.slice A3 n3 c3) (.slice D3 m3 e3)
          have hB := b3.stored3 (.bool s3) (.slice A3 n3 c3) (.slice D3 m3 e3)
          generalize hX : (((Y5_18.setCell ⟨y5_11.heap.size, 0, none⟩ (.bool s3)).setCell ⟨y5_11.heap.size, 1, none⟩ (.slice A3 n3 c3)).setCell ⟨y5_11.heap.size, 2, none⟩ (.slice D3 m3 e3)) = Y5_19 at hg hB ⊢
          clear hX
          replace g2 := g2.kept b3 (by simp [notInt]) hg
          replace g3 := g3.kept b3 (by simp [notInt]) hg
          replace b2 := b2.other hg (by omega)
          replace b3 := hB
          replace hG := below_only hG hg (by omega) sG
          replace sG := hG.size
          clear hg hB
          refine hK.out _ _ ⟨(b0.below hG).cell 0 _ rfl, (b0.below hG).cell 1 _ rfl, (b0.below hG).cell 2 _ rfl, (b1.below hG).cell 0 _ rfl, (b1.below hG).cell 1 _ rfl, (b1.below hG).cell 2 _ rfl⟩ (fun hHeld => ?_)
          clear hK K
          (try simp only [List.getElem_toArray, List.getElem_cons_succ, List.getElem_cons_zero, Act.put, List.setIfInBounds_toArray, List.set_cons_zero, List.set_cons_succ])
          refine wpAnyH_done (by kernel_rfl) ?_ _
          refine NoPanic.normal ?_
          go_wp2_with fail
          go_meet
          exact ⟨y5_1.heap.size, y5_11.heap.size, s2, A2, n2, c2, D2, m2, e2, s3, A3, n3, c3, D3, m3, e3, rfl, rfl, g2, g3, b2, b3, (by omega), (by omega), (by omega), hG⟩
      · go_simp
        obtain ⟨y5_20, hV, b3, hb9, szy5_20⟩ := boxes1 y5_1 #[.bool false, .slice none 0 0, .slice none 0 0] 34
        rw [hV]
        clear hV
        have gly5_20 : W4.heap.size ≤ y5_1.heap.size := sG
        replace szy5_20 : y5_1.heap.size < y5_20.heap.size := by omega
        replace g2 := g2.below hb9
        replace hG := hG.trans (hb9.mono sG)
        replace sG := hG.size
        clear hb9
        refine hK.out _ _ ⟨(b0.below hG).cell 0 _ rfl, (b0.below hG).cell 1 _ rfl, (b0.below hG).cell 2 _ rfl, (b1.below hG).cell 0 _ rfl, (b1.below hG).cell 1 _ rfl, (b1.below hG).cell 2 _ rfl⟩ (fun hHeld => ?_)
        clear hK K
        (try simp only [List.getElem_toArray, List.getElem_cons_succ, List.getElem_cons_zero, Act.put, List.setIfInBounds_toArray, List.set_cons_zero, List.set_cons_succ])
        refine wpAnyH_ready (rs := [3, 4]) (by kernel_rfl) (by simp) (AllReadyH.cons (o := _) rfl (fun K hK => ?_) (AllReadyH.cons (o := _) rfl (fun K hK => ?_) AllReadyH.nil))
        · go_simp
          go_at_call 11
          refine (refq_v (f1.below hG) (by omega)).mono ?_
          rintro e y5_21 ⟨s3, A3, n3, c3, D3, m3, e3, rfl, g3, hb9⟩
          have szy5_21 := hb9.size
          replace g2 := g2.below hb9
          replace b3 := b3.below hb9
          replace hG := hG.trans (hb9.mono sG)
          replace sG := hG.size
          clear hb9
          go_wp2_with fail
          refine hK.out _ _ ⟨(b0.below hG).cell 0 _ rfl, (b0.below hG).cell 1 _ rfl, (b0.below hG).cell 2 _ rfl, (b1.below hG).cell 0 _ rfl, (b1.below hG).cell 1 _ rfl, (b1.below hG).cell 2 _ rfl⟩ (fun hHeld => ?_)
          clear hK K
          (try simp only [List.getElem_toArray, List.getElem_cons_succ, List.getElem_cons_zero, Act.put, List.setIfInBounds_toArray, List.set_cons_zero, List.set_cons_succ])
          refine wpAnyH_ready (rs := [4]) (by kernel_rfl) (by simp) (AllReadyH.cons (o := _) rfl (fun K hK => ?_) AllReadyH.nil)
          go_simp
          obtain ⟨y5_22, hV, b2, hb9, szy5_22⟩ := boxes1 y5_21 #[.bool false, .slice none 0 0, .slice none 0 0] 34
          rw [hV]
          clear hV
          have gly5_22 : W4.heap.size ≤ y5_21.heap.size := sG
          replace szy5_22 : y5_21.heap.size < y5_22.heap.size := by omega
          replace g2 := g2.below hb9
          replace g3 := g3.below hb9
          replace b3 := b3.below hb9
          replace hG := hG.trans (hb9.mono sG)
          replace sG := hG.size
          clear hb9
          refine hK.out _ _ ⟨(b0.below hG).cell 0 _ rfl, (b0.below hG).cell 1 _ rfl, (b0.below hG).cell 2 _ rfl, (b1.below hG).cell 0 _ rfl, (b1.below hG).cell 1 _ rfl, (b1.below hG).cell 2 _ rfl⟩ (fun hHeld => ?_)
          clear hK K
          (try simp only [List.getElem_toArray, List.getElem_cons_succ, List.getElem_cons_zero, Act.put, List.setIfInBounds_toArray, List.set_cons_zero, List.set_cons_succ])
          have rb30 := b3.cell 0 _ rfl
          have qb30 := b3.frozen 0
          have rb31 := b3.cell 1 _ rfl
          have qb31 := b3.frozen 1
          have rb32 := b3.cell 2 _ rfl
          have qb32 := b3.frozen 2
          have rb20 := b2.cell 0 _ rfl
          have qb20 := b2.frozen 0
          have rb21 := b2.cell 1 _ rfl
          have qb21 := b2.frozen 1
          have rb22 := b2.cell 2 _ rfl
          have qb22 := b2.frozen 2
          refine wpAnyH_ready (rs := [6]) (by kernel_rfl) (by simp) (AllReadyH.cons (o := _) rfl (fun K hK => ?_) AllReadyH.nil)
          go_simp
          clear rb30 qb30
          clear rb31 qb31
          clear rb32 qb32
          clear rb20 qb20
          clear rb21 qb21
          clear rb22 qb22
          have hg := only_store3 y5_22 (y5_21.heap.size) (.bool s2) (.slice A2 n2 c2) (.slice D2 m2 e2)
          have hB := b2.stored3 (.bool s2) (.slice A2 n2 c2) (.slice D2 m2 e2)
          generalize hX : (((y5_22.setCell ⟨y5_21.heap.size, 0, none⟩ (.bool s2)).setCell ⟨y5_21.heap.size, 1, none⟩ (.slice A2 n2 c2)).setCell ⟨y5_21.heap.size, 2, none⟩ (.slice D2 m2 e2)) = Y5_23 at hg hB ⊢
          clear hX
          replace g2 := g2.kept b2 (by simp [notInt]) hg
          replace g3 := g3.kept b2 (by simp [notInt]) hg
          replace b3 := b3.other hg (by omega)
          replace b2 := hB
          replace hG := below_only hG hg (by omega) sG
          replace sG := hG.size
          clear hg hB
          refine hK.out _ _ ⟨(b0.below hG).cell 0 _ rfl, (b0.below hG).cell 1 _ rfl, (b0.below hG).cell 2 _ rfl, (b1.below hG).cell 0 _ rfl, (b1.below hG).cell 1 _ rfl, (b1.below hG).cell 2 _ rfl⟩ (fun hHeld => ?_)
          clear hK K
          (try simp only [List.getElem_toArray, List.getElem_cons_succ, List.getElem_cons_zero, Act.put, List.setIfInBounds_toArray, List.set_cons_zero, List.set_cons_succ])
          have rb30 := b3.cell 0 _ rfl
          have qb30 := b3.frozen 0
          have rb31 := b3.cell 1 _ rfl
          have qb31 := b3.frozen 1
          have rb32 := b3.cell 2 _ rfl
          have qb32 := b3.frozen 2
          have rb20 := b2.cell 0 _ rfl
          have qb20 := b2.frozen 0
          have rb21 := b2.cell 1 _ rfl
          have qb21 := b2.frozen 1
          have rb22 := b2.cell 2 _ rfl
          have qb22 := b2.frozen 2
          refine wpAnyH_ready (rs := [7]) (by kernel_rfl) (by simp) (AllReadyH.cons (o := _) rfl (fun K hK => ?_) AllReadyH.nil)
          go_simp
          clear rb30 qb30
          clear rb31 qb31
          clear rb32 qb32
          clear rb20 qb20
          clear rb21 qb21
          clear rb22 qb22
          have hg := only_store3 Y5_23 (y5_1.heap.size) (.bool s3) (.slice A3 n3 c3) (.slice D3 m3 e3)
          have hB := b3.stored3 (.bool s3) (.slice A3 n3 c3) (.slice D3 m3 e3)
          generalize hX : (((Y5_23.setCell ⟨y5_1.heap.size, 0, none⟩ (.bool s3)).setCell ⟨y5_1.heap.size, 1, none⟩ (.slice A3 n3 c3)).setCell ⟨y5_1.heap.size, 2, none⟩ (.slice D3 m3 e3)) = Y5_24 at hg hB ⊢
          clear hX
          replace g2 := g2.kept b3 (by simp [notInt]) hg
          replace g3 := g3.kept b3 (by simp [notInt]) hg
          replace b2 := b2.other hg (by omega)
          replace b3 := hB
          replace hG := below_only hG hg (by omega) sG
          replace sG := hG.size
          clear hg hB
          refine hK.out _ _ ⟨(b0.below hG).cell 0 _ rfl, (b0.below hG).cell 1 _ rfl, (b0.below hG).cell 2 _ rfl, (b1.below hG).cell 0 _ rfl, (b1.below hG).cell 1 _ rfl, (b1.below hG).cell 2 _ rfl⟩ (fun hHeld => ?_)
          clear hK K
          (try simp only [List.getElem_toArray, List.getElem_cons_succ, List.getElem_cons_zero, Act.put, List.setIfInBounds_toArray, List.set_cons_zero, List.set_cons_succ])
          refine wpAnyH_done (by kernel_rfl) ?_ _
          refine NoPanic.normal ?_
          go_wp2_with fail
          go_meet
          exact ⟨y5_21.heap.size, y5_1.heap.size, s2, A2, n2, c2, D2, m2, e2, s3, A3, n3, c3, D3, m3, e3, rfl, rfl, g2, g3, b2, b3, (by omega), (by omega), (by omega), hG⟩
        · go_simp
          obtain ⟨y5_25, hV, b2, hb9, szy5_25⟩ := boxes1 y5_20 #[.bool false, .slice none 0 0, .slice none 0 0] 34
          rw [hV]
          clear hV
          have gly5_25 : W4.heap.size ≤ y5_20.heap.size := sG
          replace szy5_25 : y5_20.heap.size < y5_25.heap.size := by omega
          replace g2 := g2.below hb9
          replace b3 := b3.below hb9
          replace hG := hG.trans (hb9.mono sG)
          replace sG := hG.size
          clear hb9
          refine hK.out _ _ ⟨(b0.below hG).cell 0 _ rfl, (b0.below hG).cell 1 _ rfl, (b0.below hG).cell 2 _ rfl, (b1.below hG).cell 0 _ rfl, (b1.below hG).cell 1 _ rfl, (b1.below hG).cell 2 _ rfl⟩ (fun hHeld => ?_)
          clear hK K
          (try simp only [List.getElem_toArray, List.getElem_cons_succ, List.getElem_cons_zero, Act.put, List.setIfInBounds_toArray, List.set_cons_zero, List.set_cons_succ])
          refine wpAnyH_ready (rs := [3]) (by kernel_rfl) (by simp) (AllReadyH.cons (o := _) rfl (fun K hK => ?_) AllReadyH.nil)
          go_simp
          go_at_call 11
          refine (refq_v (f1.below hG) (by omega)).mono ?_
          rintro e y5_26 ⟨s3, A3, n3, c3, D3, m3, e3, rfl, g3, hb9⟩
          have szy5_26 := hb9.size
          replace g2 := g2.below hb9
          replace b3 := b3.below hb9
          replace b2 := b2.below hb9
          replace hG := hG.trans (hb9.mono sG)
          replace sG := hG.size
          clear hb9
          go_wp2_with fail
          refine hK.out _ _ ⟨(b0.below hG).cell 0 _ rfl, (b0.below hG).cell 1 _ rfl, (b0.below hG).cell 2 _ rfl, (b1.below hG).cell 0 _ rfl, (b1.below hG).cell 1 _ rfl, (b1.below hG).cell 2 _ rfl⟩ (fun hHeld => ?_)
          clear hK K
          (try simp only [List.getElem_toArray, List.getElem_cons_succ, List.getElem_cons_zero, Act.put, List.setIfInBounds_toArray, List.set_cons_zero, List.set_cons_succ])
          have rb30 := b3.cell 0 _ rfl
          have qb30 := b3.frozen 0
          have rb31 := b3.cell 1 _ rfl
          have qb31 := b3.frozen 1
          have rb32 := b3.cell 2 _ rfl
          have qb32 := b3.frozen 2
          have rb20 := b2.cell 0 _ rfl
          have qb20 := b2.frozen 0
          have rb21 := b2.cell 1 _ rfl
          have qb21 := b2.frozen 1
          have rb22 := b2.cell 2 _ rfl
          have qb22 := b2.frozen 2
          refine wpAnyH_ready (rs := [6]) (by kernel_rfl) (by simp) (AllReadyH.cons (o := _) rfl (fun K hK => ?_) AllReadyH.nil)
          go_simp
          clear rb30 qb30
          clear rb31 qb31
          clear rb32 qb32
          clear rb20 qb20
          clear rb21 qb21
          clear rb22 qb22
          have hg := only_store3 y5_26 (y5_20.heap.size) (.bool s2) (.slice A2 n2 c2) (.slice D2 m2 e2)
          have hB := b2.stored3 (.bool s2) (.slice A2 n2 c2) (.slice D2 m2 e2)
          generalize hX : (((y5_26.setCell ⟨y5_20.heap.size, 0, none⟩ (.bool s2)).setCell ⟨y5_20.heap.size, 1, none⟩ (.slice A2 n2 c2)).setCell ⟨y5_20.heap.size, 2, none⟩ (.slice D2 m2 e2)) = Y5_27 at hg hB ⊢
          clear hX
          replace g2 := g2.kept b2 (by simp [notInt]) hg
          replace g3 := g3.kept b2 (by simp [notInt]) hg
          replace b3 := b3.other hg (by omega)
          replace b2 := hB
          replace hG := below_only hG hg (by omega) sG
          replace sG := hG.size
          clear hg hB
          refine hK.out _ _ ⟨(b0.below hG).cell 0 _ rfl, (b0.below hG).cell 1 _ rfl, (b0.below hG).cell 2 _ rfl, (b1.below hG).cell 0 _ rfl, (b1.below hG).cell 1 _ rfl, (b1.below hG).cell 2 _ rfl⟩ (fun hHeld => ?_)
          clear hK K
          (try simp only [List.getElem_toArray, List.getElem_cons_succ, List.getElem_cons_zero, Act.put, List.setIfInBounds_toArray, List.set_cons_zero, List.set_cons_succ])
          have rb30 := b3.cell 0 _ rfl
          have qb30 := b3.frozen 0
          have rb31 := b3.cell 1 _ rfl
          have qb31 := b3.frozen 1
          have rb32 := b3.cell 2 _ rfl
          have qb32 := b3.frozen 2
          have rb20 := b2.cell 0 _ rfl
          have qb20 := b2.frozen 0
          have rb21 := b2.cell 1 _ rfl
          have qb21 := b2.frozen 1
          have rb22 := b2.cell 2 _ rfl
          have qb22 := b2.frozen 2
          refine wpAnyH_ready (rs := [7]) (by kernel_rfl) (by simp) (AllReadyH.cons (o := _) rfl (fun K hK => ?_) AllReadyH.nil)
          go_simp
          clear rb30 qb30
          clear rb31 qb31
          clear rb32 qb32
          clear rb20 qb20
          clear rb21 qb21
          clear rb22 qb22
          have hg := only_store3 Y5_27 (y5_1.heap.size) (.bool s3) (.slice A3 n3 c3) (.slice D3 m3 e3)
          have hB := b3.stored3 (.bool s3) (.slice A3 n3 c3) (.slice D3 m3 e3)
          generalize hX : (((Y5_27.setCell ⟨y5_1.heap.size, 0, none⟩ (.bool s3)).setCell ⟨y5_1.heap.size, 1, none⟩ (.slice A3 n3 c3)).setCell ⟨y5_1.heap.size, 2, none⟩ (.slice D3 m3 e3)) = Y5_28 at hg hB ⊢
          clear hX
          replace g2 := g2.kept b3 (by simp [notInt]) hg
          replace g3 := g3.kept b3 (by simp [notInt]) hg
          replace b2 := b2.other hg (by omega)
          replace b3 := hB
          replace hG := below_only hG hg (by omega) sG
          replace sG := hG.size
          clear hg hB
          refine hK.out _ _ ⟨(b0.below hG).cell 0 _ rfl, (b0.below hG).cell 1 _ rfl, (b0.below hG).cell 2 _ rfl, (b1.below hG).cell 0 _ rfl, (b1.below hG).cell 1 _ rfl, (b1.below hG).cell 2 _ rfl⟩ (fun hHeld => ?_)
          clear hK K
          (try simp only [List.getElem_toArray, List.getElem_cons_succ, List.getElem_cons_zero, Act.put, List.setIfInBounds_toArray, List.set_cons_zero, List.set_cons_succ])
          refine wpAnyH_done (by kernel_rfl) ?_ _
          refine NoPanic.normal ?_
          go_wp2_with fail
          go_meet
          exact ⟨y5_20.heap.size, y5_1.heap.size, s2, A2, n2, c2, D2, m2, e2, s3, A3, n3, c3, D3, m3, e3, rfl, rfl, g2, g3, b2, b3, (by omega), (by omega), (by omega), hG⟩
    · go_simp
      obtain ⟨y5_29, hV, b2, hb9, szy5_29⟩ := boxes1 v5 #[.bool false, .slice none 0 0, .slice none 0 0] 34
      rw [hV]
      clear hV
      have gly5_29 : W4.heap.size ≤ v5.heap.size := sG
      replace szy5_29 : v5.heap.size < y5_29.heap.size := by omega
      replace hG := hG.trans (hb9.mono sG)
      replace sG := hG.size
      clear hb9
      refine hK.out _ _ ⟨(b0.below hG).cell 0 _ rfl, (b0.below hG).cell 1 _ rfl, (b0.below hG).cell 2 _ rfl, (b1.below hG).cell 0 _ rfl, (b1.below hG).cell 1 _ rfl, (b1.below hG).cell 2 _ rfl⟩ (fun hHeld => ?_)
      clear hK K
      (try simp only [List.getElem_toArray, List.getElem_cons_succ, List.getElem_cons_zero, Act.put, List.setIfInBounds_toArray, List.set_cons_zero, List.set_cons_succ])
      refine wpAnyH_ready (rs := [1, 5]) (by kernel_rfl) (by simp) (AllReadyH.cons (o := _) rfl (fun K hK => ?_) (AllReadyH.cons (o := _) rfl (fun K hK => ?_) AllReadyH.nil))
      · go_simp
        go_at_call 11
        refine (refq_v (f0.below hG) (by omega)).mono ?_
        rintro e y5_30 ⟨s2, A2, n2, c2, D2, m2, e2, rfl, g2, hb9⟩
        have szy5_30 := hb9.size
        replace b2 := b2.below hb9
        replace hG := hG.trans (hb9.mono sG)
        replace sG := hG.size
        clear hb9
        go_wp2_with fail
        refine hK.out _ _ ⟨(b0.below hG).cell 0 _ rfl, (b0.below hG).cell 1 _ rfl, (b0.below hG).cell 2 _ rfl, (b1.below hG).cell 0 _ rfl, (b1.below hG).cell 1 _ rfl, (b1.below hG).cell 2 _ rfl⟩ (fun hHeld => ?_)
        clear hK K
        (try simp only [List.getElem_toArray, List.getElem_cons_succ, List.getElem_cons_zero, Act.put, List.setIfInBounds_toArray, List.set_cons_zero, List.set_cons_succ])
        refine wpAnyH_ready (rs := [3, 5]) (by kernel_rfl) (by simp) (AllReadyH.cons (o := _) rfl (fun K hK => ?_) (AllReadyH.cons (o := _) rfl (fun K hK => ?_) AllReadyH.nil))
        · go_simp
          go_at_call 11
          refine (refq_v (f1.below hG) (by omega)).mono ?_
          rintro e y5_31 ⟨s3, A3, n3, c3, D3, m3, e3, rfl, g3, hb9⟩
          have szy5_31 := hb9.size
          replace g2 := g2.below hb9
          replace b2 := b2.below hb9
          replace hG := hG.trans (hb9.mono sG)
          replace sG := hG.size
          clear hb9
          go_wp2_with fail
          refine hK.out _ _ ⟨(b0.below hG).cell 0 _ rfl, (b0.below hG).cell 1 _ rfl, (b0.below hG).cell 2 _ rfl, (b1.below hG).cell 0 _ rfl, (b1.below hG).cell 1 _ rfl, (b1.below hG).cell 2 _ rfl⟩ (fun hHeld => ?_)
          clear hK K
          (try simp only [List.getElem_toArray, List.getElem_cons_succ, List.getElem_cons_zero, Act.put, List.setIfInBounds_toArray, List.set_cons_zero, List.set_cons_succ])
          refine wpAnyH_ready (rs := [5]) (by kernel_rfl) (by simp) (AllReadyH.cons (o := _) rfl (fun K hK => ?_) AllReadyH.nil)
          go_simp
          obtain ⟨y5_32, hV, b3, hb9, szy5_32⟩ := boxes1 y5_31 #[.bool false, .slice none 0 0, .slice none 0 0] 34
          rw [hV]
          clear hV
          have gly5_32 : W4.heap.size ≤ y5_31.heap.size := sG
          replace szy5_32 : y5_31.heap.size < y5_32.heap.size := by omega
          replace g2 := g2.below hb9
          replace g3 := g3.below hb9
          replace b2 := b2.below hb9
          replace hG := hG.trans (hb9.mono sG)
          replace sG := hG.size
          clear hb9
          refine hK.out _ _ ⟨(b0.below hG).cell 0 _ rfl, (b0.below hG).cell 1 _ rfl, (b0.below hG).cell 2 _ rfl, (b1.below hG).cell 0 _ rfl, (b1.below hG).cell 1 _ rfl, (b1.below hG).cell 2 _ rfl⟩ (fun hHeld => ?_)
          clear hK K
          (try simp only [List.getElem_toArray, List.getElem_cons_succ, List.getElem_cons_zero, Act.put, List.setIfInBounds_toArray, List.set_cons_zero, List.set_cons_succ])
          have rb20 := b2.cell 0 _ rfl
          have qb20 := b2.frozen 0
          have rb21 := b2.cell 1 _ rfl
          have qb21 := b2.frozen 1
          have rb22 := b2.cell 2 _ rfl
          have qb22 := b2.frozen 2
          have rb30 := b3.cell 0 _ rfl
          have qb30 := b3.frozen 0
          have rb31 := b3.cell 1 _ rfl
          have qb31 := b3.frozen 1
          have rb32 := b3.cell 2 _ rfl
          have qb32 := b3.frozen 2
          refine wpAnyH_ready (rs := [6]) (by kernel_rfl) (by simp) (AllReadyH.cons (o := _) rfl (fun K hK => ?_) AllReadyH.nil)
          go_simp
          clear rb20 qb20
          clear rb21 qb21
          clear rb22 qb22
          clear rb30 qb30
          clear rb31 qb31
          clear rb32 qb32
          have hg := only_store3 y5_32 (v5.heap.size) (.bool s2) (.slice A2 n2 c2) (.slice D2 m2 e2)
          have hB := b2.stored3 (.bool s2) (.slice A2 n2 c2) (.slice D2 m2 e2)
          generalize hX : (((y5_32.setCell ⟨v5.heap.size, 0, none⟩ (.bool s2)).setCell ⟨v5.heap.size, 1, none⟩ (.slice A2 n2 c2)).setCell ⟨v5.heap.size, 2, none⟩ (.slice D2 m2 e2)) = Y5_33 at hg hB ⊢
          clear hX
          replace g2 := g2.kept b2 (by simp [notInt]) hg
          replace g3 := g3.kept b2 (by simp [notInt]) hg
          replace b3 := b3.other hg (by omega)
          replace b2 := hB
          replace hG := below_only hG hg (by omega) sG
          replace sG := hG.size
          clear hg hB
          refine hK.out _ _ ⟨(b0.below hG).cell 0 _ rfl, (b0.below hG).cell 1 _ rfl, (b0.below hG).cell 2 _ rfl, (b1.below hG).cell 0 _ rfl, (b1.below hG).cell 1 _ rfl, (b1.below hG).cell 2 _ rfl⟩ (fun hHeld => ?_)
          clear hK K
          (try simp only [List.getElem_toArray, List.getElem_cons_succ, List.getElem_cons_zero, Act.put, List.setIfInBounds_toArray, List.set_cons_zero, List.set_cons_succ])
          have rb20 := b2.cell 0 _ rfl
          have qb20 := b2.frozen 0
          have rb21 := b2.cell 1 _ rfl
          have qb21 := b2.frozen 1
          have rb22 := b2.cell 2 _ rfl
          have qb22 := b2.frozen 2
          have rb30 := b3.cell 0 _ rfl
          have qb30 := b3.frozen 0
          have rb31 := b3.cell 1 _ rfl
          have qb31 := b3.frozen 1
          have rb32 := b3.cell 2 _ rfl
          have qb32 := b3.frozen 2
          refine wpAnyH_ready (rs := [7]) (by kernel_rfl) (by simp) (AllReadyH.cons (o := _) rfl (fun K hK => ?_) AllReadyH.nil)
          go_simp
          clear rb20 qb20
          clear rb21 qb21
          clear rb22 qb22
          clear rb30 qb30
          clear rb31 qb31
          clear rb32 qb32
          have hg := only_store3 Y5_33 (y5_31.heap.size) (.bool s3) (.slice A3 n3 c3) (.slice D3 m3 e3)
          have hB := b3.stored3 (.bool s3) (.slice A3 n3 c3) (.slice D3 m3 e3)
          generalize hX : (((Y5_33.setCell ⟨y5_31.heap.size, 0, none⟩ (.bool s3)).setCell ⟨y5_31.heap.size, 1, none⟩ (.slice A3 n3 c3)).setCell ⟨y5_31.heap.size, 2, none⟩ (.slice D3 m3 e3)) = Y5_34 at hg hB ⊢
          clear hX
          replace g2 := g2.kept b3 (by simp [notInt]) hg
          replace g3 := g3.kept b3 (by simp [notInt]) hg
          replace b2 := b2.other hg (by omega)
          replace b3 := hB
          replace hG := below_only hG hg (by omega) sG
          replace sG := hG.size
          clear hg hB
          refine hK.out _ _ ⟨(b0.below hG).cell 0 _ rfl, (b0.below hG).cell 1 _ rfl, (b0.below hG).cell 2 _ rfl, (b1.below hG).cell 0 _ rfl, (b1.below hG).cell 1 _ rfl, (b1.below hG).cell 2 _ rfl⟩ (fun hHeld => ?_)
          clear hK K
          (try simp only [List.getElem_toArray, List.getElem_cons_succ, List.getElem_cons_zero, Act.put, List.setIfInBounds_toArray, List.set_cons_zero, List.set_cons_succ])
          refine wpAnyH_done (by kernel_rfl) ?_ _
          refine NoPanic.normal ?_
          go_wp2_with fail
          go_meet
          exact ⟨v5.heap.size, y5_31.heap.size, s2, A2, n2, c2, D2, m2, e2, s3, A3, n3, c3, D3, m3, e3, rfl, rfl, g2, g3, b2, b3, (by omega), (by omega), (by omega), hG⟩
        · go_simp
          obtain ⟨y5_35, hV, b3, hb9, szy5_35⟩ := boxes1 y5_30 #[.bool false, .slice none 0 0, .slice none 0 0] 34
          rw [hV]
          clear hV
          have gly5_35 : W4.heap.size ≤ y5_30.heap.size := sG
          replace szy5_35 : y5_30.heap.size < y5_35.heap.size := by omega
          replace g2 := g2.below hb9
          replace b2 := b2.below hb9
          replace hG := hG.trans (hb9.mono sG)
          replace sG := hG.size
          clear hb9
          refine hK.out _ _ ⟨(b0.below hG).cell 0 _ rfl, (b0.below hG).cell 1 _ rfl, (b0.below hG).cell 2 _ rfl, (b1.below hG).cell 0 _ rfl, (b1.below hG).cell 1 _ rfl, (b1.below hG).cell 2 _ rfl⟩ (fun hHeld => ?_)
          clear hK K
          (try simp only [List.getElem_toArray, List.getElem_cons_succ, List.getElem_cons_zero, Act.put, List.setIfInBounds_toArray, List.set_cons_zero, List.set_cons_succ])
          refine wpAnyH_ready (rs := [3]) (by kernel_rfl) (by simp) (AllReadyH.cons (o := _) rfl (fun K hK => ?_) AllReadyH.nil)
          go_simp
          go_at_call 11
          refine (refq_v (f1.below hG) (by omega)).mono ?_
          rintro e y5_36 ⟨s3, A3, n3, c3, D3, m3, e3, rfl, g3, hb9⟩
          have szy5_36 := hb9.size
          replace g2 := g2.below hb9
          replace b2 := b2.below hb9
          replace b3 := b3.below hb9
          replace hG := hG.trans (hb9.mono sG)
          replace sG := hG.size
          clear hb9
          go_wp2_with fail
          refine hK.out _ _ ⟨(b0.below hG).cell 0 _ rfl, (b0.below hG).cell 1 _ rfl, (b0.below hG).cell 2 _ rfl, (b1.below hG).cell 0 _ rfl, (b1.below hG).cell 1 _ rfl, (b1.below hG).cell 2 _ rfl⟩ (fun hHeld => ?_)
          clear hK K
          (try simp only [List.getElem_toArray, List.getElem_cons_succ, List.getElem_cons_zero, Act.put, List.setIfInBounds_toArray, List.set_cons_zero, List.set_cons_succ])
          have rb20 := b2.cell 0 _ rfl
          have qb20 := b2.frozen 0
          have rb21 := b2.cell 1 _ rfl
          have qb21 := b2.frozen 1
          have rb22 := b2.cell 2 _ rfl
          have qb22 := b2.frozen 2
          have rb30 := b3.cell 0 _ rfl
          have qb30 := b3.frozen 0
          have rb31 := b3.cell 1 _ rfl
          have qb31 := b3.frozen 1
          have rb32 := b3.cell 2 _ rfl
          have qb32 := b3.frozen 2
          refine wpAnyH_ready (rs := [6]) (by kernel_rfl) (by simp) (AllReadyH.cons (o := _) rfl (fun K hK => ?_) AllReadyH.nil)
          go_simp
          clear rb20 qb20
          clear rb21 qb21
          clear rb22 qb22
          clear rb30 qb30
          clear rb31 qb31
          clear rb32 qb32
          have hg := only_store3 y5_36 (v5.heap.size) (.bool s2) (.slice A2 n2 c2) (.slice D2 m2 e2)
          have hB := b2.stored3 (.bool s2) (.slice A2 n2 c2) (.slice D2 m2 e2)
          generalize hX : (((y5_36.setCell ⟨v5.heap.size, 0, none⟩ (.bool s2)).setCell ⟨v5.heap.size, 1, none⟩ (.slice A2 n2 c2)).setCell ⟨v5.heap.size, 2, none⟩ (.slice D2 m2 e2)) = Y5_37 at hg hB ⊢
          clear hX
          replace g2 := g2.kept b2 (by simp [notInt]) hg
          replace g3 := g3.kept b2 (by simp [notInt]) hg
          replace b3 := b3.other hg (by omega)
          replace b2 := hB
          replace hG := below_only hG hg (by omega) sG
          replace sG := hG.size
          clear hg hB
          refine hK.out _ _ ⟨(b0.below hG).cell 0 _ rfl, (b0.below hG).cell 1 _ rfl, (b0.below hG).cell 2 _ rfl, (b1.below hG).cell 0 _ rfl, (b1.below hG).cell 1 _ rfl, (b1.below hG).cell 2 _ rfl⟩ (fun hHeld => ?_)
          clear hK K
          (try simp only [List.getElem_toArray, List.getElem_cons_succ, List.getElem_cons_zero, Act.put, List.setIfInBounds_toArray, List.set_cons_zero, List.set_cons_succ])
          have rb20 := b2.cell 0 _ rfl
          have qb20 := b2.frozen 0
          have rb21 := b2.cell 1 _ rfl
          have qb21 := b2.frozen 1
          have rb22 := b2.cell 2 _ rfl
          have qb22 := b2.frozen 2
          have rb30 := b3.cell 0 _ rfl
          have qb30 := b3.frozen 0
          have rb31 := b3.cell 1 _ rfl
          have qb31 := b3.frozen 1
          have rb32 := b3.cell 2 _ rfl
          have qb32 := b3.frozen 2
          refine wpAnyH_ready (rs := [7]) (by kernel_rfl) (by simp) (AllReadyH.cons (o := _) rfl (fun K hK => ?_) AllReadyH.nil)
          go_simp
          clear rb20 qb20
          clear rb21 qb21
          clear rb22 qb22
          clear rb30 qb30
          clear rb31 qb31
          clear rb32 qb32
          have hg := only_store3 Y5_37 (y5_30.heap.size) (.bool s3) (.slice A3 n3 c3) (.slice D3 m3 e3)
          have hB := b3.stored3 (.bool s3) (.slice A3 n3 c3) (.slice D3 m3 e3)
          generalize hX : (((Y5_37.setCell ⟨y5_30.heap.size, 0, none⟩ (.bool s3)).setCell ⟨y5_30.heap.size, 1, none⟩ (.slice A3 n3 c3)).setCell ⟨y5_30.heap.size, 2, none⟩ (.slice D3 m3 e3)) = Y5_38 at hg hB ⊢
          clear hX
          replace g2 := g2.kept b3 (by simp [notInt]) hg
          replace g3 := g3.kept b3 (by simp [notInt]) hg
          replace b2 := b2.other hg (by omega)
          replace b3 := hB
          replace hG := below_only hG hg (by omega) sG
          replace sG := hG.size
          clear hg hB
          refine hK.out _ _ ⟨(b0.below hG).cell 0 _ rfl, (b0.below hG).cell 1 _ rfl, (b0.below hG).cell 2 _ rfl, (b1.below hG).cell 0 _ rfl, (b1.below hG).cell 1 _ rfl, (b1.below hG).cell 2 _ rfl⟩ (fun hHeld => ?_)
          clear hK K
          (try simp only [List.getElem_toArray, List.getElem_cons_succ, List.getElem_cons_zero, Act.put, List.setIfInBounds_toArray, List.set_cons_zero, List.set_cons_succ])
          refine wpAnyH_done (by kernel_rfl) ?_ _
          refine NoPanic.normal ?_
          go_wp2_with fail
          go_meet
          exact ⟨v5.heap.size, y5_30.heap.size, s2, A2, n2, c2, D2, m2, e2, s3, A3, n3, c3, D3, m3, e3, rfl, rfl, g2, g3, b2, b3, (by omega), (by omega), (by omega), hG⟩
      · go_simp
        obtain ⟨y5_39, hV, b3, hb9, szy5_39⟩ := boxes1 y5_29 #[.bool false, .slice none 0 0, .slice none 0 0] 34
        rw [hV]
        clear hV
        have gly5_39 : W4.heap.size ≤ y5_29.heap.size := sG
        replace szy5_39 : y5_29.heap.size < y5_39.heap.size := by omega
        replace b2 := b2.below hb9
        replace hG := hG.trans (hb9.mono sG)
        replace sG := hG.size
        clear hb9
        refine hK.out _ _ ⟨(b0.below hG).cell 0 _ rfl, (b0.below hG).cell 1 _ rfl, (b0.below hG).cell 2 _ rfl, (b1.below hG).cell 0 _ rfl, (b1.below hG).cell 1 _ rfl, (b1.below hG).cell 2 _ rfl⟩ (fun hHeld => ?_)
        clear hK K
        (try simp only [List.getElem_toArray, List.getElem_cons_succ, List.getElem_cons_zero, Act.put, List.setIfInBounds_toArray, List.set_cons_zero, List.set_cons_succ])
        refine wpAnyH_ready (rs := [1]) (by kernel_rfl) (by simp) (AllReadyH.cons (o := _) rfl (fun K hK => ?_) AllReadyH.nil)
        go_simp
        go_at_call 11
        refine (refq_v (f0.below hG) (by omega)).mono ?_
        rintro e y5_40 ⟨s2, A2, n2, c2, D2, m2, e2, rfl, g2, hb9⟩
        have szy5_40 := hb9.size
        replace b2 := b2.below hb9
        replace b3 := b3.below hb9
        replace hG := hG.trans (hb9.mono sG)
        replace sG := hG.size
        clear hb9
        go_wp2_with fail
        refine hK.out _ _ ⟨(b0.below hG).cell 0 _ rfl, (b0.below hG).cell 1 _ rfl, (b0.below hG).cell 2 _ rfl, (b1.below hG).cell 0 _ rfl, (b1.below hG).cell 1 _ rfl, (b1.below hG).cell 2 _ rfl⟩ (fun hHeld => ?_)
        clear hK K
        (try simp only [List.getElem_toArray, List.getElem_cons_succ, List.getElem_cons_zero, Act.put, List.setIfInBounds_toArray, List.set_cons_zero, List.set_cons_succ])
        refine wpAnyH_ready (rs := [3]) (by kernel_rfl) (by simp) (AllReadyH.cons (o := _) rfl (fun K hK => ?_) AllReadyH.nil)
        go_simp
        go_at_call 11
        refine (refq_v (f1.below hG) (by omega)).mono ?_
        rintro e y5_41 ⟨s3, A3, n3, c3, D3, m3, e3, rfl, g3, hb9⟩
        have szy5_41 := hb9.size
        replace g2 := g2.below hb9
        replace b2 := b2.below hb9
        replace b3 := b3.below hb9
        replace hG := hG.trans (hb9.mono sG)
        replace sG := hG.size
        clear hb9
        go_wp2_with fail
        refine hK.out _ _ ⟨(b0.below hG).cell 0 _ rfl, (b0.below hG).cell 1 _ rfl, (b0.below hG).cell 2 _ rfl, (b1.below hG).cell 0 _ rfl, (b1.below hG).cell 1 _ rfl, (b1.below hG).cell 2 _ rfl⟩ (fun hHeld => ?_)
        clear hK K
        (try simp only [List.getElem_toArray, List.getElem_cons_succ, List.getElem_cons_zero, Act.put, List.setIfInBounds_toArray, List.set_cons_zero, List.set_cons_succ])
        have rb20 := b2.cell 0 _ rfl
        have qb20 := b2.frozen 0
        have rb21 := b2.cell 1 _ rfl
        have qb21 := b2.frozen 1
        have rb22 := b2.cell 2 _ rfl
        have qb22 := b2.frozen 2
        have rb30 := b3.cell 0 _ rfl
        have qb30 := b3.frozen 0
        have rb31 := b3.cell 1 _ rfl
        have qb31 := b3.frozen 1
        have rb32 := b3.cell 2 _ rfl
        have qb32 := b3.frozen 2
        refine wpAnyH_ready (rs := [6]) (by kernel_rfl) (by simp) (AllReadyH.cons (o := _) rfl (fun K hK => ?_) AllReadyH.nil)
        go_simp
        clear rb20 qb20
        clear rb21 qb21
        clear rb22 qb22
        clear rb30 qb30
        clear rb31 qb31
        clear rb32 qb32
        have hg := only_store3 y5_41 (v5.heap.size) (.bool s2) (.slice A2 n2 c2) (.slice D2 m2 e2)
        have hB := b2.stored3 (.bool s2) (.slice A2 n2 c2) (.slice D2 m2 e2)
        generalize hX : (((y5_41.setCell ⟨v5.heap.size, 0, none⟩ (.bool s2)).setCell ⟨v5.heap.size, 1, none⟩ (.slice A2 n2 c2)).setCell ⟨v5.heap.size, 2, none⟩ (.slice D2 m2 e2)) = Y5_42 at hg hB ⊢
        clear hX
        replace g2 := g2.kept b2 (by simp [notInt]) hg
        replace g3 := g3.kept b2 (by simp [notInt]) hg
        replace b3 := b3.other hg (by omega)
        replace b2 := hB
        replace hG := below_only hG hg (by omega) sG
        replace sG := hG.size
        clear hg hB
        refine hK.out _ _ ⟨(b0.below hG).cell 0 _ rfl, (b0.below hG).cell 1 _ rfl, (b0.below hG).cell 2 _ rfl, (b1.below hG).cell 0 _ rfl, (b1.below hG).cell 1 _ rfl, (b1.below hG).cell 2 _ rfl⟩ (fun hHeld => ?_)
        clear hK K
        (try simp only [List.getElem_toArray, List.getElem_cons_succ, List.getElem_cons_zero, Act.put, List.setIfInBounds_toArray, List.set_cons_zero, List.set_cons_succ])
        have rb20 := b2.cell 0 _ rfl
        have qb20 := b2.frozen 0
        have rb21 := b2.cell 1 _ rfl
        have qb21 := b2.frozen 1
        have rb22 := b2.cell 2 _ rfl
        have qb22 := b2.frozen 2
        have rb30 := b3.cell 0 _ rfl
        have qb30 := b3.frozen 0
        have rb31 := b3.cell 1 _ rfl
        have qb31 := b3.frozen 1
        have rb32 := b3.cell 2 _ rfl
        have qb32 := b3.frozen 2
        refine wpAnyH_ready (rs := [7]) (by kernel_rfl) (by simp) (AllReadyH.cons (o := _) rfl (fun K hK => ?_) AllReadyH.nil)
        go_simp
        clear rb20 qb20
        clear rb21 qb21
        clear rb22 qb22
        clear rb30 qb30
        clear rb31 qb31
        clear rb32 qb32
        have hg := only_store3 Y5_42 (y5_29.heap.size) (.bool s3) (.slice A3 n3 c3) (.slice D3 m3 e3)
        have hB := b3.stored3 (.bool s3) (.slice A3 n3 c3) (.slice D3 m3 e3)
        generalize hX : (((Y5_42.setCell ⟨y5_29.heap.size, 0, none⟩ (.bool s3)).setCell ⟨y5_29.heap.size, 1, none⟩ (.slice A3 n3 c3)).setCell ⟨y5_29.heap.size, 2, none⟩ (.slice D3 m3 e3)) = Y5_43 at hg hB ⊢
        clear hX
        replace g2 := g2.kept b3 (by simp [notInt]) hg
        replace g3 := g3.kept b3 (by simp [notInt]) hg
        replace b2 := b2.other hg (by omega)
        replace b3 := hB
        replace hG := below_only hG hg (by omega) sG
        replace sG := hG.size
        clear hg hB
        refine hK.out _ _ ⟨(b0.below hG).cell 0 _ rfl, (b0.below hG).cell 1 _ rfl, (b0.below hG).cell 2 _ rfl, (b1.below hG).cell 0 _ rfl, (b1.below hG).cell 1 _ rfl, (b1.below hG).cell 2 _ rfl⟩ (fun hHeld => ?_)
        clear hK K
        (try simp only [List.getElem_toArray, List.getElem_cons_succ, List.getElem_cons_zero, Act.put, List.setIfInBounds_toArray, List.set_cons_zero, List.set_cons_succ])
        refine wpAnyH_done (by kernel_rfl) ?_ _
        refine NoPanic.normal ?_
        go_wp2_with fail
        go_meet
        exact ⟨v5.heap.size, y5_29.heap.size, s2, A2, n2, c2, D2, m2, e2, s3, A3, n3, c3, D3, m3, e3, rfl, rfl, g2, g3, b2, b3, (by omega), (by omega), (by omega), hG⟩
    · go_simp
      obtain ⟨y5_44, hV, b3, hb9, szy5_44⟩ := boxes1 v5 #[.bool false, .slice none 0 0, .slice none 0 0] 34
      rw [hV]
      clear hV
      have gly5_44 : W4.heap.size ≤ v5.heap.size := sG
      replace szy5_44 : v5.heap.size < y5_44.heap.size := by omega
      replace hG := hG.trans (hb9.mono sG)
      replace sG := hG.size
      clear hb9
      refine hK.out _ _ ⟨(b0.below hG).cell 0 _ rfl, (b0.below hG).cell 1 _ rfl, (b0.below hG).cell 2 _ rfl, (b1.below hG).cell 0 _ rfl, (b1.below hG).cell 1 _ rfl, (b1.below hG).cell 2 _ rfl⟩ (fun hHeld => ?_)
      clear hK K
      (try simp only [List.getElem_toArray, List.getElem_cons_succ, List.getElem_cons_zero, Act.put, List.setIfInBounds_toArray, List.set_cons_zero, List.set_cons_succ])
      refine wpAnyH_ready (rs := [1, 4]) (by kernel_rfl) (by simp) (AllReadyH.cons (o := _) rfl (fun K hK => ?_) (AllReadyH.cons (o := _) rfl (fun K hK => ?_) AllReadyH.nil))
      · go_simp
        go_at_call 11
        refine (refq_v (f0.below hG) (by omega)).mono ?_
        rintro e y5_45 ⟨s2, A2, n2, c2, D2, m2, e2, rfl, g2, hb9⟩
        have szy5_45 := hb9.size
        replace b3 := b3.below hb9
        replace hG := hG.trans (hb9.mono sG)
        replace sG := hG.size
        clear hb9
        go_wp2_with fail
        refine hK.out _ _ ⟨(b0.below hG).cell 0 _ rfl, (b0.below hG).cell 1 _ rfl, (b0.below hG).cell 2 _ rfl, (b1.below hG).cell 0 _ rfl, (b1.below hG).cell 1 _ rfl, (b1.below hG).cell 2 _ rfl⟩ (fun hHeld => ?_)
        clear hK K
        (try simp only [List.getElem_toArray, List.getElem_cons_succ, List.getElem_cons_zero, Act.put, List.setIfInBounds_toArray, List.set_cons_zero, List.set_cons_succ])
        refine wpAnyH_ready (rs := [3, 4]) (by kernel_rfl) (by simp) (AllReadyH.cons (o := _) rfl (fun K hK => ?_) (AllReadyH.cons (o := _) rfl (fun K hK => ?_) AllReadyH.nil))
        · go_simp
          go_at_call 11
          refine (refq_v (f1.below hG) (by omega)).mono ?_
          rintro e y5_46 ⟨s3, A3, n3, c3, D3, m3, e3, rfl, g3, hb9⟩
          have szy5_46 := hb9.size
          replace g2 := g2.below hb9
          replace b3 := b3.below hb9
          replace hG := hG.trans (hb9.mono sG)
          replace sG := hG.size
          clear hb9
          go_wp2_with fail
          refine hK.out _ _ ⟨(b0.below hG).cell 0 _ rfl, (b0.below hG).cell 1 _ rfl, (b0.below hG).cell 2 _ rfl, (b1.below hG).cell 0 _ rfl, (b1.below hG).cell 1 _ rfl, (b1.below hG).cell 2 _ rfl⟩ (fun hHeld => ?_)
          clear hK K
          (try simp only [List.getElem_toArray, List.getElem_cons_succ, List.getElem_cons_zero, Act.put, List.setIfInBounds_toArray, List.set_cons_zero, List.set_cons_succ])
          refine wpAnyH_ready (rs := [4]) (by kernel_rfl) (by simp) (AllReadyH.cons (o := _) rfl (fun K hK => ?_) AllReadyH.nil)
          go_simp
          obtain ⟨y5_47, hV, b2, hb9, szy5_47⟩ := boxes1 y5_46 #[.bool false, .slice none 0 0, .slice none 0 0] 34
          rw [hV]
          clear hV
          have gly5_47 : W4.heap.size ≤ y5_46.heap.size := sG
          replace szy5_47 : y5_46.heap.size < y5_47.heap.size := by omega
          replace g2 := g2.below hb9
          replace g3 := g3.below hb9
          replace b3 := b3.below hb9
          replace hG := hG.trans (hb9.mono sG)
          replace sG := hG.size
          clear hb9
          refine hK.out _ _ ⟨(b0.below hG).cell 0 _ rfl, (b0.below hG).cell 1 _ rfl, (b0.below hG).cell 2 _ rfl, (b1.below hG).cell 0 _ rfl, (b1.below hG).cell 1 _ rfl, (b1.below hG).cell 2 _ rfl⟩ (fun hHeld => ?_)
          clear hK K
          (try simp only [List.getElem_toArray, List.getElem_cons_succ, List.getElem_cons_zero, Act.put, List.setIfInBounds_toArray, List.set_cons_zero, List.set_cons_succ])
          have rb30 := b3.cell 0 _ rfl
          have qb30 := b3.frozen 0
          have rb31 := b3.cell 1 _ rfl
          have qb31 := b3.frozen 1
          have rb32 := b3.cell 2 _ rfl
          have qb32 := b3.frozen 2
          have rb20 := b2.cell 0 _ rfl
          have qb20 := b2.frozen 0
          have rb21 := b2.cell 1 _ rfl
          have qb21 := b2.frozen 1
          have rb22 := b2.cell 2 _ rfl
          have qb22 := b2.frozen 2
          refine wpAnyH_ready (rs := [6]) (by kernel_rfl) (by simp) (AllReadyH.cons (o := _) rfl (fun K hK => ?_) AllReadyH.nil)
          go_simp
          clear rb30 qb30
          clear rb31 qb31
          clear rb32 qb32
          clear rb20 qb20
          clear rb21 qb21
          clear rb22 qb22
          have hg := only_store3 y5_47 (y5_46.heap.size) (.bool s2) (.slice A2 n2 c2) (.slice D2 m2 e2)
          have hB := b2.stored3 (.bool s2) (.slice A2 n2 c2) (.slice D2 m2 e2)
          generalize hX : (((y5_47.setCell ⟨y5_46.heap.size, 0, none⟩ (.bool s2)).setCell ⟨y5_46.heap.size, 1, none⟩ (.slice A2 n2 c2)).setCell ⟨y5_46.heap.size, 2, none⟩ (.slice D2 m2 e2)) = Y5_48 at hg hB ⊢
          clear hX
          replace g2 := g2.kept b2 (by simp [notInt]) hg
          replace g3 := g3.kept b2 (by simp [notInt]) hg
          replace b3 := b3.other hg (by omega)
          replace b2 := hB
          replace hG := below_only hG hg (by omega) sG
          replace sG := hG.size
          clear hg hB
          refine hK.out _ _ ⟨(b0.below hG).cell 0 _ rfl, (b0.below hG).cell 1 _ rfl, (b0.below hG).cell 2 _ rfl, (b1.below hG).cell 0 _ rfl, (b1.below hG).cell 1 _ rfl, (b1.below hG).cell 2 _ rfl⟩ (fun hHeld => ?_)
          clear hK K
          (try simp only [List.getElem_toArray, List.getElem_cons_succ, List.getElem_cons_zero, Act.put, List.setIfInBounds_toArray, List.set_cons_zero, List.set_cons_succ])
          have rb30 := b3.cell 0 _ rfl
          have qb30 := b3.frozen 0
          have rb31 := b3.cell 1 _ rfl
          have qb31 := b3.frozen 1
          have rb32 := b3.cell 2 _ rfl
          have qb32 := b3.frozen 2
          have rb20 := b2.cell 0 _ rfl
          have qb20 := b2.frozen 0
          have rb21 := b2.cell 1 _ rfl
          have qb21 := b2.frozen 1
          have rb22 := b2.cell 2 _ rfl
          have qb22 := b2.frozen 2
          refine wpAnyH_ready (rs := [7]) (by kernel_rfl) (by simp) (AllReadyH.cons (o := _) rfl (fun K hK => ?_) AllReadyH.nil)
          go_simp
          clear rb30 qb30
          clear rb31 qb31
          clear rb32 qb32
          clear rb20 qb20
          clear rb21 qb21
          clear rb22 qb22
          have hg := only_store3 Y5_48 (v5.heap.size) (.bool s3) (.slice A3 n3 c3) (.slice D3 m3 e3)
          have hB := b3.stored3 (.bool s3) (.slice A3 n3 c3) (.slice D3 m3 e3)
          generalize hX : (((Y5_48.setCell ⟨v5.heap.size, 0, none⟩ (.bool s3)).setCell ⟨v5.heap.size, 1, none⟩ (.slice A3 n3 c3)).setCell ⟨v5.heap.size, 2, none⟩ (.slice D3 m3 e3)) = Y5_49 at hg hB ⊢
          clear hX
          replace g2 := g2.kept b3 (by simp [notInt]) hg
          replace g3 := g3.kept b3 (by simp [notInt]) hg
          replace b2 := b2.other hg (by omega)
          replace b3 := hB
          replace hG := below_only hG hg (by omega) sG
          replace sG := hG.size
          clear hg hB
          refine hK.out _ _ ⟨(b0.below hG).cell 0 _ rfl, (b0.below hG).cell 1 _ rfl, (b0.below hG).cell 2 _ rfl, (b1.below hG).cell 0 _ rfl, (b1.below hG).cell 1 _ rfl, (b1.below hG).cell 2 _ rfl⟩ (fun hHeld => ?_)
          clear hK K
          (try simp only [List.getElem_toArray, List.getElem_cons_succ, List.getElem_cons_zero, Act.put, List.setIfInBounds_toArray, List.set_cons_zero, List.set_cons_succ])
          refine wpAnyH_done (by kernel_rfl) ?_ _
          refine NoPanic.normal ?_
          go_wp2_with fail
          go_meet
          exact ⟨y5_46.heap.size, v5.heap.size, s2, A2, n2, c2, D2, m2, e2, s3, A3, n3, c3, D3, m3, e3, rfl, rfl, g2, g3, b2, b3, (by omega), (by omega), (by omega), hG⟩
        · go_simp
          obtain ⟨y5_50, hV, b2, hb9, szy5_50⟩ := boxes1 y5_45 #[.bool false, .slice none 0 0, .slice none 0 0] 34
          rw [hV]
          clear hV
          have gly5_50 : W4.heap.size ≤ y5_45.heap.size := sG
          replace szy5_50 : y5_45.heap.size < y5_50.heap.size := by omega
          replace g2 := g2.below hb9
          replace b3 := b3.below hb9
          replace hG := hG.trans (hb9.mono sG)
          replace sG := hG.size
          clear hb9
          refine hK.out _ _ ⟨(b0.below hG).cell 0 _ rfl, (b0.below hG).cell 1 _ rfl, (b0.below hG).cell 2 _ rfl, (b1.below hG).cell 0 _ rfl, (b1.below hG).cell 1 _ rfl, (b1.below hG).cell 2 _ rfl⟩ (fun hHeld => ?_)
          clear hK K
          (try simp only [List.getElem_toArray, List.getElem_cons_succ, List.getElem_cons_zero, Act.put, List.setIfInBounds_toArray, List.set_cons_zero, List.set_cons_succ])
          refine wpAnyH_ready (rs := [3]) (by kernel_rfl) (by simp) (AllReadyH.cons (o := _) rfl (fun K hK => ?_) AllReadyH.nil)
          go_simp
          go_at_call 11
          refine (refq_v (f1.below hG) (by omega)).mono ?_
          rintro e y5_51 ⟨s3, A3, n3, c3, D3, m3, e3, rfl, g3, hb9⟩
          have szy5_51 := hb9.size
          replace g2 := g2.below hb9
          replace b3 := b3.below hb9
          replace b2 := b2.below hb9
          replace hG := hG.trans (hb9.mono sG)
          replace sG := hG.size
          clear hb9
          go_wp2_with fail
          refine hK.out _ _ ⟨(b0.below hG).cell 0 _ rfl, (b0.below hG).cell 1 _ rfl, (b0.below hG).cell 2 _ rfl, (b1.below hG).cell 0 _ rfl, (b1.below hG).cell 1 _ rfl, (b1.below hG).cell 2 _ rfl⟩ (fun hHeld => ?_)
          clear hK K
          (try simp only [List.getElem_toArray, List.getElem_cons_succ, List.getElem_cons_zero, Act.put, List.setIfInBounds_toArray, List.set_cons_zero, List.set_cons_succ])
          have rb30 := b3.cell 0 _ rfl
          have qb30 := b3.frozen 0
          have rb31 := b3.cell 1 _ rfl
          have qb31 := b3.frozen 1
          have rb32 := b3.cell 2 _ rfl
          have qb32 := b3.frozen 2
          have rb20 := b2.cell 0 _ rfl
          have qb20 := b2.frozen 0
          have rb21 := b2.cell 1 _ rfl
          have qb21 := b2.frozen 1
          have rb22 := b2.cell 2 _ rfl
          have qb22 := b2.frozen 2
          refine wpAnyH_ready (rs := [6]) (by kernel_rfl) (by simp) (AllReadyH.cons (o := _) rfl (fun K hK => ?_) AllReadyH.nil)
          go_simp
          clear rb30 qb30
          clear rb31 qb31
          clear rb32 qb32
          clear rb20 qb20
          clear rb21 qb21
          clear rb22 qb22
          have hg := only_store3 y5_51 (y5_45.heap.size) (.bool s2) (.slice A2 n2 c2) (.slice D2 m2 e2)
          have hB := b2.stored3 (.bool s2) (.slice A2 n2 c2) (.slice D2 m2 e2)
          generalize hX : (((y5_51.setCell ⟨y5_45.heap.size, 0, none⟩ (.bool s2)).setCell ⟨y5_45.heap.size, 1, none⟩ (.slice A2 n2 c2)).setCell ⟨y5_45.heap.size, 2, none⟩ (.slice D2 m2 e2)) = Y5_52 at hg hB ⊢
          clear hX
          replace g2 := g2.kept b2 (by simp [notInt]) hg
          replace g3 := g3.kept b2 (by simp [notInt]) hg
          replace b3 := b3.other hg (by omega)
          replace b2 := hB
          replace hG := below_only hG hg (by omega) sG
          replace sG := hG.size
          clear hg hB
          refine hK.out _ _ ⟨(b0.below hG).cell 0 _ rfl, (b0.below hG).cell 1 _ rfl, (b0.below hG).cell 2 _ rfl, (b1.below hG).cell 0 _ rfl, (b1.below hG).cell 1 _ rfl, (b1.below hG).cell 2 _ rfl⟩ (fun hHeld => ?_)
          clear hK K
          (try simp only [List.getElem_toArray, List.getElem_cons_succ, List.getElem_cons_zero, Act.put, List.setIfInBounds_toArray, List.set_cons_zero, List.set_cons_succ])
          have rb30 := b3.cell 0 _ rfl
          have qb30 := b3.frozen 0
          have rb31 := b3.cell 1 _ rfl
          have qb31 := b3.frozen 1
          have rb32 := b3.cell 2 _ rfl
          have qb32 := b3.frozen 2
          have rb20 := b2.cell 0 _ rfl
          have qb20 := b2.frozen 0
          have rb21 := b2.cell 1 _ rfl
          have qb21 := b2.frozen 1
          have rb22 := b2.cell 2 _ rfl
          have qb22 := b2.frozen 2
          refine wpAnyH_ready (rs := [7]) (by kernel_rfl) (by simp) (AllReadyH.cons (o := _) rfl (fun K hK => ?_) AllReadyH.nil)
          go_simp
          clear rb30 qb30
          clear rb31 qb31
          clear rb32 qb32
          clear rb20 qb20
          clear rb21 qb21
          clear rb22 qb22
          have hg := only_store3 Y5_52 (v5.heap.size) (.bool s3) (.slice A3 n3 c3) (.slice D3 m3 e3)
          have hB := b3.stored3 (.bool s3) (.slice A3 n3 c3) (.slice D3 m3 e3)
          generalize hX : (((Y5_52.setCell ⟨v5.heap.size, 0, none⟩ (.bool s3)).setCell ⟨v5.heap.size, 1, none⟩ (.slice A3 n3 c3)).setCell ⟨v5.heap.size, 2, none⟩ (.slice D3 m3 e3)) = Y5_53 at hg hB ⊢
          clear hX
          replace g2 := g2.kept b3 (by simp [notInt]) hg
          replace g3 := g3.kept b3 (by simp [notInt]) hg
          replace b2 := b2.other hg (by omega)
          replace b3 := hB
          replace hG := below_only hG hg (by omega) sG
          replace sG := hG.size
          clear hg hB
          refine hK.out _ _ ⟨(b0.below hG).cell 0 _ rfl, (b0.below hG).cell 1 _ rfl, (b0.below hG).cell 2 _ rfl, (b1.below hG).cell 0 _ rfl, (b1.below hG).cell 1 _ rfl, (b1.below hG).cell 2 _ rfl⟩ (fun hHeld => ?_)
          clear hK K
          (try simp only [List.getElem_toArray, List.getElem_cons_succ, List.getElem_cons_zero, Act.put, List.setIfInBounds_toArray, List.set_cons_zero, List.set_cons_succ])
          refine wpAnyH_done (by kernel_rfl) ?_ _
          refine NoPanic.normal ?_
          go_wp2_with fail
          go_meet
          exact ⟨y5_45.heap.size, v5.heap.size, s2, A2, n2, c2, D2, m2, e2, s3, A3, n3, c3, D3, m3, e3, rfl, rfl, g2, g3, b2, b3, (by omega), (by omega), (by omega), hG⟩
      · go_simp
        obtain ⟨y5_54, hV, b2, hb9, szy5_54⟩ := boxes1 y5_44 #[.bool false, .slice none 0 0, .slice none 0 0] 34
        rw [hV]
        clear hV
        have gly5_54 : W4.heap.size ≤ y5_44.heap.size := sG
        replace szy5_54 : y5_44.heap.size < y5_54.heap.size := by omega
        replace b3 := b3.below hb9
        replace hG := hG.trans (hb9.mono sG)
        replace sG := hG.size
        clear hb9
        refine hK.out _ _ ⟨(b0.below hG).cell 0 _ rfl, (b0.below hG).cell 1 _ rfl, (b0.below hG).cell 2 _ rfl, (b1.below hG).cell 0 _ rfl, (b1.below hG).cell 1 _ rfl, (b1.below hG).cell 2 _ rfl⟩ (fun hHeld => ?_)
        clear hK K
        (try simp only [List.getElem_toArray, List.getElem_cons_succ, List.getElem_cons_zero, Act.put, List.setIfInBounds_toArray, List.set_cons_zero, List.set_cons_succ])
        refine wpAnyH_ready (rs := [1]) (by kernel_rfl) (by simp) (AllReadyH.cons (o := _) rfl (fun K hK => ?_) AllReadyH.nil)
        go_simp
        go_at_call 11
        refine (refq_v (f0.below hG) (by omega)).mono ?_
        rintro e y5_55 ⟨s2, A2, n2, c2, D2, m2, e2, rfl, g2, hb9⟩
        have szy5_55 := hb9.size
        replace b3 := b3.below hb9
        replace b2 := b2.below hb9
        replace hG := hG.trans (hb9.mono sG)
        replace sG := hG.size
        clear hb9
        go_wp2_with fail
        refine hK.out _ _ ⟨(b0.below hG).cell 0 _ rfl, (b0.below hG).cell 1 _ rfl, (b0.below hG).cell 2 _ rfl, (b1.below hG).cell 0 _ rfl, (b1.below hG).cell 1 _ rfl, (b1.below hG).cell 2 _ rfl⟩ (fun hHeld => ?_)
        clear hK K
        (try simp only [List.getElem_toArray, List.getElem_cons_succ, List.getElem_cons_zero, Act.put, List.setIfInBounds_toArray, List.set_cons_zero, List.set_cons_succ])
        refine wpAnyH_ready (rs := [3]) (by kernel_rfl) (by simp) (AllReadyH.cons (o := _) rfl (fun K hK => ?_) AllReadyH.nil)
        go_simp
        go_at_call 11
        refine (refq_v (f1.below hG) (by omega)).mono ?_
        rintro e y5_56 ⟨s3, A3, n3, c3, D3, m3, e3, rfl, g3, hb9⟩
        have szy5_56 := hb9.size
        replace g2 := g2.below hb9
        replace b3 := b3.below hb9
        replace b2 := b2.below hb9
        replace hG := hG.trans (hb9.mono sG)
        replace sG := hG.size
        clear hb9
        go_wp2_with fail
        refine hK.out _ _ ⟨(b0.below hG).cell 0 _ rfl, (b0.below hG).cell 1 _ rfl, (b0.below hG).cell 2 _ rfl, (b1.below hG).cell 0 _ rfl, (b1.below hG).cell 1 _ rfl, (b1.below hG).cell 2 _ rfl⟩ (fun hHeld => ?_)
        clear hK K
        (try simp only [List.getElem_toArray, List.getElem_cons_succ, List.getElem_cons_zero, Act.put, List.setIfInBounds_toArray, List.set_cons_zero, List.set_cons_succ])
        have rb30 := b3.cell 0 _ rfl
        have qb30 := b3.frozen 0
        have rb31 := b3.cell 1 _ rfl
        have qb31 := b3.frozen 1
        have rb32 := b3.cell 2 _ rfl
        have qb32 := b3.frozen 2
        have rb20 := b2.cell 0 _ rfl
        have qb20 := b2.frozen 0
        have rb21 := b2.cell 1 _ rfl
        have qb21 := b2.frozen 1
        have rb22 := b2.cell 2 _ rfl
        have qb22 := b2.frozen 2
        refine wpAnyH_ready (rs := [6]) (by kernel_rfl) (by simp) (AllReadyH.cons (o := _) rfl (fun K hK => ?_) AllReadyH.nil)
        go_simp
        clear rb30 qb30
        clear rb31 qb31
        clear rb32 qb32
        clear rb20 qb20
        clear rb21 qb21
        clear rb22 qb22
        have hg := only_store3 y5_56 (y5_44.heap.size) (.bool s2) (.slice A2 n2 c2) (.slice D2 m2 e2)
        have hB := b2.stored3 (.bool s2) (.slice A2 n2 c2) (.slice D2 m2 e2)
        generalize hX : (((y5_56.setCell ⟨y5_44.heap.size, 0, none⟩ (.bool s2)).setCell ⟨y5_44.heap.size, 1, none⟩ (.slice A2 n2 c2)).setCell ⟨y5_44.heap.size, 2, none⟩ (.slice D2 m2 e2)) = Y5_57 at hg hB ⊢
        clear hX
        replace g2 := g2.kept b2 (by simp [notInt]) hg
        replace g3 := g3.kept b2 (by simp [notInt]) hg
        replace b3 := b3.other hg (by omega)
        replace b2 := hB
        replace hG := below_only hG hg (by omega) sG
        replace sG := hG.size
        clear hg hB
        refine hK.out _ _ ⟨(b0.below hG).cell 0 _ rfl, (b0.below hG).cell 1 _ rfl, (b0.below hG).cell 2 _ rfl, (b1.below hG).cell 0 _ rfl, (b1.below hG).cell 1 _ rfl, (b1.below hG).cell 2 _ rfl⟩ (fun hHeld => ?_)
        clear hK K
        (try simp only [List.getElem_toArray, List.getElem_cons_succ, List.getElem_cons_zero, Act.put, List.setIfInBounds_toArray, List.set_cons_zero, List.set_cons_succ])
        have rb30 := b3.cell 0 _ rfl
        have qb30 := b3.frozen 0
        have rb31 := b3.cell 1 _ rfl
        have qb31 := b3.frozen 1
        have rb32 := b3.cell 2 _ rfl
        have qb32 := b3.frozen 2
        have rb20 := b2.cell 0 _ rfl
        have qb20 := b2.frozen 0
        have rb21 := b2.cell 1 _ rfl
        have qb21 := b2.frozen 1
        have rb22 := b2.cell 2 _ rfl
        have qb22 := b2.frozen 2
        refine wpAnyH_ready (rs := [7]) (by kernel_rfl) (by simp) (AllReadyH.cons (o := _) rfl (fun K hK => ?_) AllReadyH.nil)
        go_simp
        clear rb30 qb30
        clear rb31 qb31
        clear rb32 qb32
        clear rb20 qb20
        clear rb21 qb21
        clear rb22 qb22
        have hg := only_store3 Y5_57 (v5.heap.size) (.bool s3) (.slice A3 n3 c3) (.slice D3 m3 e3)
        have hB := b3.stored3 (.bool s3) (.slice A3 n3 c3) (.slice D3 m3 e3)
        generalize hX : (((Y5_57.setCell ⟨v5.heap.size, 0, none⟩ (.bool s3)).setCell ⟨v5.heap.size, 1, none⟩ (.slice A3 n3 c3)).setCell ⟨v5.heap.size, 2, none⟩ (.slice D3 m3 e3)) = Y5_58 at hg hB ⊢
        clear hX
        replace g2 := g2.kept b3 (by simp [notInt]) hg
        replace g3 := g3.kept b3 (by simp [notInt]) hg
        replace b2 := b2.other hg (by omega)
        replace b3 := hB
        replace hG := below_only hG hg (by omega) sG
        replace sG := hG.size
        clear hg hB
        refine hK.out _ _ ⟨(b0.below hG).cell 0 _ rfl, (b0.below hG).cell 1 _ rfl, (b0.below hG).cell 2 _ rfl, (b1.below hG).cell 0 _ rfl, (b1.below hG).cell 1 _ rfl, (b1.below hG).cell 2 _ rfl⟩ (fun hHeld => ?_)
        clear hK K
        (try simp only [List.getElem_toArray, List.getElem_cons_succ, List.getElem_cons_zero, Act.put, List.setIfInBounds_toArray, List.set_cons_zero, List.set_cons_succ])
        refine wpAnyH_done (by kernel_rfl) ?_ _
        refine NoPanic.normal ?_
        go_wp2_with fail
        go_meet
        exact ⟨y5_44.heap.size, v5.heap.size, s2, A2, n2, c2, D2, m2, e2, s3, A3, n3, c3, D3, m3, e3, rfl, rfl, g2, g3, b2, b3, (by omega), (by omega), (by omega), hG⟩
  obtain ⟨g5_0, g5_1, s2, A2, n2, c2, D2, m2, e2, s3, A3, n3, c3, D3, m3, e3, rfl, rfl, g2, g3, b2, b3, glg5_0, glg5_1, gn5, hG⟩ := hcut
  replace f0 := f0.below hG
  replace f1 := f1.below hG
  replace b0 := b0.below hG
  replace b1 := b1.below hG
  replace H0 := H0.trans (hG.mono H0.size)
  clear hG
  have cb00 := b0.cell 0 _ rfl
  have cb01 := b0.cell 1 _ rfl
  have cb02 := b0.cell 2 _ rfl
  have cb10 := b1.cell 0 _ rfl
  have cb11 := b1.cell 1 _ rfl
  have cb12 := b1.cell 2 _ rfl
  have cb20 := b2.cell 0 _ rfl
  have cb21 := b2.cell 1 _ rfl
  have cb22 := b2.cell 2 _ rfl
  have cb30 := b3.cell 0 _ rfl
  have cb31 := b3.cell 1 _ rfl
  have cb32 := b3.cell 2 _ rfl
  go_wp2_with fail
  obtain ⟨bb, hbb⟩ : ∃ b, decide (q1 ≠ 0) = b := ⟨_, rfl⟩
  have HBB := Lib.hid hbb
  clear hbb
  clear cb00 cb01 cb02 cb10 cb11 cb12 cb20 cb21 cb22 cb30 cb31 cb32
  refine (rdiv_b f0 f1 (by omega) (by omega) HBB.out).mono ?_
  rintro e w7 ⟨s9, A9, n9, c9, D9, m9, e9, rfl, g9, hb⟩
  replace f0 := f0.below hb
  replace f1 := f1.below hb
  replace g2 := g2.below hb
  replace g3 := g3.below hb
  replace b0 := b0.below hb
  replace b1 := b1.below hb
  replace b2 := b2.below hb
  replace b3 := b3.below hb
  replace H0 := H0.trans (hb.mono H0.size)
  clear hb
  have lb0_8 := b0.lt
  have lb1_8 := b1.lt
  have lb2_8 := b2.lt
  have lb3_8 := b3.lt
  obtain ⟨W8, hW, b9, hbW, hszW8⟩ := boxes1 w7 #[.bool s9, .slice A9 n9 c9, .slice D9 m9 e9] 27
  skip
  skip
  replace f0 := f0.below hbW
  replace f1 := f1.below hbW
  replace g2 := g2.below hbW
  replace g3 := g3.below hbW
  replace g9 := g9.below hbW
  replace b0 := b0.below hbW
  replace b1 := b1.below hbW
  replace b2 := b2.below hbW
  replace b3 := b3.below hbW
  replace H0 := H0.trans (hbW.mono H0.size)
  clear hbW
  have cb00 := b0.cell 0 _ rfl
  have cb01 := b0.cell 1 _ rfl
  have cb02 := b0.cell 2 _ rfl
  have cb10 := b1.cell 0 _ rfl
  have cb11 := b1.cell 1 _ rfl
  have cb12 := b1.cell 2 _ rfl
  have cb20 := b2.cell 0 _ rfl
  have cb21 := b2.cell 1 _ rfl
  have cb22 := b2.cell 2 _ rfl
  have cb30 := b3.cell 0 _ rfl
  have cb31 := b3.cell 1 _ rfl
  have cb32 := b3.cell 2 _ rfl
  have cb90 := b9.cell 0 _ rfl
  have cb91 := b9.cell 1 _ rfl
  have cb92 := b9.cell 2 _ rfl
  go_wp2_with fail
  clear hW
  clear cb00 cb01 cb02 cb10 cb11 cb12 cb20 cb21 cb22 cb30 cb31 cb32 cb90 cb91 cb92
  go_cut [8, 55] from 14 (fun s8 s55 wx => s8 = .pointer (some ⟨w7.heap.size, 0, none⟩) ∧ s55 = .bool false ∧ Below W8.heap.size W8 wx)
  case first => as_aux_lemma =>
    have H0 : Below W8.heap.size W8 W8 := Below.refl _ _
    rcases Decidable.em (q1 = 0) with h0 | h0
    · subst h0
      have hb1 : bb = false := HBB.out.symm.trans (by simp)
      subst hb1
      rw [rat_div_zero] at g9
      have hD := drawn_below W8
      replace f0 := f0.below hD
      replace f1 := f1.below hD
      replace g2 := g2.below hD
      replace g3 := g3.below hD
      replace g9 := g9.below hD
      replace b0 := b0.below hD
      replace b1 := b1.below hD
      replace b2 := b2.below hD
      replace b3 := b3.below hD
      replace b9 := b9.below hD
      replace H0 := H0.trans (hD.mono H0.size)
      clear hD
      refine wp_region_noPanic ?_
      refine wp_region_held_drew (S := (fun V => V.cell? ⟨g5_1, 0, none⟩ = some (.bool s3) ∧ V.cell? ⟨g5_1, 1, none⟩ = some (.slice A3 n3 c3) ∧ V.cell? ⟨g5_1, 2, none⟩ = some (.slice D3 m3 e3) ∧ V.cell? ⟨w7.heap.size, 0, none⟩ = some (.bool s9) ∧ V.cell? ⟨w7.heap.size, 1, none⟩ = some (.slice A9 n9 c9) ∧ V.cell? ⟨w7.heap.size, 2, none⟩ = some (.slice D9 m9 e9))) (by kernel_rfl) ⟨b3.cell 0 _ rfl, b3.cell 1 _ rfl, b3.cell 2 _ rfl, b9.cell 0 _ rfl, b9.cell 1 _ rfl, b9.cell 2 _ rfl⟩ (fun hHeld => ?_)
      generalize W8.drew = v9 at H0 hHeld f0 f1 g2 g3 g9 b0 b1 b2 b3 b9 ⊢
      refine wpAnyH_take (i := 0) (v := ?_) rfl (by kernel_rfl) (by kernel_rfl) (by kernel_rfl) (fun _ _ _ h => h) (Or.inl ⟨by rfl, ?_⟩) (by assumption) ?_
      rotate_left
      · (intro w hSw; (try dsimp only at hSw); go_simp; (try with_reducible rfl))
      (try simp only [List.getElem_toArray, List.getElem_cons_zero, Act.put, List.setIfInBounds_toArray, List.set_cons_zero, List.set_cons_succ])
      refine wpAnyH_take (i := 1) (v := ?_) rfl (by kernel_rfl) (by kernel_rfl) (by kernel_rfl) (fun _ _ _ h => h) (Or.inl ⟨by rfl, ?_⟩) (by assumption) ?_
      rotate_left
      · (intro w hSw; (try dsimp only at hSw); go_simp; (try with_reducible rfl))
      (try simp only [List.getElem_toArray, List.getElem_cons_succ, List.getElem_cons_zero, Act.put, List.setIfInBounds_toArray, List.set_cons_zero, List.set_cons_succ])
      refine wpAnyH_ready (rs := [2]) (by kernel_rfl) (by simp) (AllReadyH.cons (o := _) rfl (fun K hK => ?_) AllReadyH.nil)
      go_simp
      go_at_call 22
      refine (nqs_v g3 rsg_zero).mono ?_
      rintro e w10 ⟨rfl, hb⟩
      replace f0 := f0.below hb
      replace f1 := f1.below hb
      replace g2 := g2.below hb
      replace g3 := g3.below hb
      replace g9 := g9.below hb
      replace b0 := b0.below hb
      replace b1 := b1.below hb
      replace b2 := b2.below hb
      replace b3 := b3.below hb
      replace b9 := b9.below hb
      replace H0 := H0.trans (hb.mono H0.size)
      clear hb
      go_wp2_with fail
      refine hK.out _ _ ⟨b3.cell 0 _ rfl, b3.cell 1 _ rfl, b3.cell 2 _ rfl, b9.cell 0 _ rfl, b9.cell 1 _ rfl, b9.cell 2 _ rfl⟩ (fun hHeld => ?_)
      clear hK K
      (try simp only [List.getElem_toArray, List.getElem_cons_succ, List.getElem_cons_zero, Act.put, List.setIfInBounds_toArray, List.set_cons_zero, List.set_cons_succ])
      refine wpAnyH_take (i := 3) (v := ?_) rfl (by kernel_rfl) (by kernel_rfl) (by kernel_rfl) (fun _ _ _ h => h) (Or.inl ⟨by rfl, ?_⟩) (by assumption) ?_
      rotate_left
      · (intro w hSw; (try dsimp only at hSw); go_simp; (try with_reducible rfl))
      (try simp only [List.getElem_toArray, List.getElem_cons_succ, List.getElem_cons_zero, Act.put, List.setIfInBounds_toArray, List.set_cons_zero, List.set_cons_succ])
      refine wpAnyH_take (i := 4) (v := ?_) rfl (by kernel_rfl) (by kernel_rfl) (by kernel_rfl) (fun _ _ _ h => h) (Or.inl ⟨by rfl, ?_⟩) (by assumption) ?_
      rotate_left
      · (intro w hSw; (try dsimp only at hSw); go_simp; (try with_reducible rfl))
      (try simp only [List.getElem_toArray, List.getElem_cons_succ, List.getElem_cons_zero, Act.put, List.setIfInBounds_toArray, List.set_cons_zero, List.set_cons_succ])
      refine wpAnyH_take (i := 5) (v := ?_) rfl (by kernel_rfl) (by kernel_rfl) (by kernel_rfl) (fun _ _ _ h => h) (Or.inl ⟨by rfl, ?_⟩) (by assumption) ?_
      rotate_left
      · (intro w hSw; (try dsimp only at hSw); go_simp; (try with_reducible rfl))
      (try simp only [List.getElem_toArray, List.getElem_cons_succ, List.getElem_cons_zero, Act.put, List.setIfInBounds_toArray, List.set_cons_zero, List.set_cons_succ])
      refine wpAnyH_take (i := 6) (v := ?_) rfl (by kernel_rfl) (by kernel_rfl) (by kernel_rfl) (fun _ _ _ h => h) (Or.inl ⟨by rfl, ?_⟩) (by assumption) ?_
      rotate_left
      · (intro w hSw; (try dsimp only at hSw); go_simp; (try with_reducible rfl))
      (try simp only [List.getElem_toArray, List.getElem_cons_succ, List.getElem_cons_zero, Act.put, List.setIfInBounds_toArray, List.set_cons_zero, List.set_cons_succ])
      refine wpAnyH_take (i := 7) (v := ?_) rfl (by kernel_rfl) (by kernel_rfl) (by kernel_rfl) (fun _ _ _ h => h) (Or.inl ⟨by rfl, ?_⟩) (by assumption) ?_
      rotate_left
      · (intro w hSw; (try dsimp only at hSw); go_simp; (try with_reducible rfl))
      (try simp only [List.getElem_toArray, List.getElem_cons_succ, List.getElem_cons_zero, Act.put, List.setIfInBounds_toArray, List.set_cons_zero, List.set_cons_succ])
      refine wpAnyH_take (i := 8) (v := ?_) rfl (by kernel_rfl) (by kernel_rfl) (by kernel_rfl) (fun _ _ _ h => h) (Or.inl ⟨by rfl, ?_⟩) (by assumption) ?_
      rotate_left
      · (intro w hSw; (try dsimp only at hSw); go_simp; (try with_reducible rfl))
      (try simp only [List.getElem_toArray, List.getElem_cons_succ, List.getElem_cons_zero, Act.put, List.setIfInBounds_toArray, List.set_cons_zero, List.set_cons_succ])
      refine wpAnyH_take (i := 9) (v := ?_) rfl (by kernel_rfl) (by kernel_rfl) (by kernel_rfl) (fun _ _ _ h => h) (Or.inl ⟨by rfl, ?_⟩) (by assumption) ?_
      rotate_left
      · (intro w hSw; (try dsimp only at hSw); go_simp; (try with_reducible rfl))
      (try simp only [List.getElem_toArray, List.getElem_cons_succ, List.getElem_cons_zero, Act.put, List.setIfInBounds_toArray, List.set_cons_zero, List.set_cons_succ])
      refine wpAnyH_take (i := 10) (v := ?_) rfl (by kernel_rfl) (by kernel_rfl) (by kernel_rfl) (fun _ _ _ h => h) (Or.inl ⟨by rfl, ?_⟩) (by assumption) ?_
      rotate_left
      · (intro w hSw; (try dsimp only at hSw); go_simp; (try with_reducible rfl))
      (try simp only [List.getElem_toArray, List.getElem_cons_succ, List.getElem_cons_zero, Act.put, List.setIfInBounds_toArray, List.set_cons_zero, List.set_cons_succ])
      refine wpAnyH_ready (rs := [11]) (by kernel_rfl) (by simp) (AllReadyH.cons (o := _) rfl (fun K hK => ?_) AllReadyH.nil)
      go_simp
      go_at_call 14
      refine (same3_t g9 (PQ.zero (L := 1) _) (by omega) rfl).mono ?_
      rintro e w11 ⟨rfl, hb⟩
      replace f0 := f0.below hb
      replace f1 := f1.below hb
      replace g2 := g2.below hb
      replace g3 := g3.below hb
      replace g9 := g9.below hb
      replace b0 := b0.below hb
      replace b1 := b1.below hb
      replace b2 := b2.below hb
      replace b3 := b3.below hb
      replace b9 := b9.below hb
      replace H0 := H0.trans (hb.mono H0.size)
      clear hb
      clear g9
      go_wp2_with fail
      refine hK.out _ _ ⟨b3.cell 0 _ rfl, b3.cell 1 _ rfl, b3.cell 2 _ rfl, b9.cell 0 _ rfl, b9.cell 1 _ rfl, b9.cell 2 _ rfl⟩ (fun hHeld => ?_)
      clear hK K
      (try simp only [List.getElem_toArray, List.getElem_cons_succ, List.getElem_cons_zero, Act.put, List.setIfInBounds_toArray, List.set_cons_zero, List.set_cons_succ])
      refine wpAnyH_take (i := 12) (v := ?_) rfl (by kernel_rfl) (by kernel_rfl) (by kernel_rfl) (fun _ _ _ h => h) (Or.inl ⟨by rfl, ?_⟩) (by assumption) ?_
      rotate_left
      · (intro w hSw; (try dsimp only at hSw); go_simp; (try with_reducible rfl))
      (try simp only [List.getElem_toArray, List.getElem_cons_succ, List.getElem_cons_zero, Act.put, List.setIfInBounds_toArray, List.set_cons_zero, List.set_cons_succ])
      refine wpAnyH_take (i := 13) (v := ?_) rfl (by kernel_rfl) (by kernel_rfl) (by kernel_rfl) (fun _ _ _ h => h) (Or.inl ⟨by rfl, ?_⟩) (by assumption) ?_
      rotate_left
      · (intro w hSw; (try dsimp only at hSw); go_simp; (try with_reducible rfl))
      (try simp only [List.getElem_toArray, List.getElem_cons_succ, List.getElem_cons_zero, Act.put, List.setIfInBounds_toArray, List.set_cons_zero, List.set_cons_succ])
      refine wpAnyH_take (i := 14) (v := ?_) rfl (by kernel_rfl) (by kernel_rfl) (by kernel_rfl) (fun _ _ _ h => h) (Or.inl ⟨by rfl, ?_⟩) (by assumption) ?_
      rotate_left
      · (intro w hSw; (try dsimp only at hSw); go_simp; (try with_reducible rfl))
      (try simp only [List.getElem_toArray, List.getElem_cons_succ, List.getElem_cons_zero, Act.put, List.setIfInBounds_toArray, List.set_cons_zero, List.set_cons_succ])
      refine wpAnyH_take (i := 15) (v := ?_) rfl (by kernel_rfl) (by kernel_rfl) (by kernel_rfl) (fun _ _ _ h => h) (Or.inl ⟨by rfl, ?_⟩) (by assumption) ?_
      rotate_left
      · (intro w hSw; (try dsimp only at hSw); go_simp; (try with_reducible rfl))
      (try simp only [List.getElem_toArray, List.getElem_cons_succ, List.getElem_cons_zero, Act.put, List.setIfInBounds_toArray, List.set_cons_zero, List.set_cons_succ])
      refine wpAnyH_take (i := 16) (v := ?_) rfl (by kernel_rfl) (by kernel_rfl) (by kernel_rfl) (fun _ _ _ h => h) (Or.inl ⟨by rfl, ?_⟩) (by assumption) ?_
      rotate_left
      · (intro w hSw; (try dsimp only at hSw); go_simp; (try with_reducible rfl))
      (try simp only [List.getElem_toArray, List.getElem_cons_succ, List.getElem_cons_zero, Act.put, List.setIfInBounds_toArray, List.set_cons_zero, List.set_cons_succ])
      refine wpAnyH_take (i := 17) (v := ?_) rfl (by kernel_rfl) (by kernel_rfl) (by kernel_rfl) (fun _ _ _ h => h) (Or.inl ⟨by rfl, ?_⟩) (by assumption) ?_
      rotate_left
      · (intro w hSw; (try dsimp only at hSw); go_simp; (try with_reducible rfl))
      (try simp only [List.getElem_toArray, List.getElem_cons_succ, List.getElem_cons_zero, Act.put, List.setIfInBounds_toArray, List.set_cons_zero, List.set_cons_succ])
      refine wpAnyH_take (i := 18) (v := undef) rfl (by kernel_rfl) (by kernel_rfl) (by kernel_rfl) (fun _ _ _ h => h) (Or.inr ⟨by rfl, rfl⟩) (by assumption) ?_
      (try simp only [List.getElem_toArray, List.getElem_cons_succ, List.getElem_cons_zero, Act.put, List.setIfInBounds_toArray, List.set_cons_zero, List.set_cons_succ])
      refine wpAnyH_take (i := 19) (v := undef) rfl (by kernel_rfl) (by kernel_rfl) (by kernel_rfl) (fun _ _ _ h => h) (Or.inr ⟨by rfl, rfl⟩) (by assumption) ?_
      (try simp only [List.getElem_toArray, List.getElem_cons_succ, List.getElem_cons_zero, Act.put, List.setIfInBounds_toArray, List.set_cons_zero, List.set_cons_succ])
      refine wpAnyH_take (i := 20) (v := undef) rfl (by kernel_rfl) (by kernel_rfl) (by kernel_rfl) (fun _ _ _ h => h) (Or.inr ⟨by rfl, rfl⟩) (by assumption) ?_
      (try simp only [List.getElem_toArray, List.getElem_cons_succ, List.getElem_cons_zero, Act.put, List.setIfInBounds_toArray, List.set_cons_zero, List.set_cons_succ])
      refine wpAnyH_take (i := 21) (v := undef) rfl (by kernel_rfl) (by kernel_rfl) (by kernel_rfl) (fun _ _ _ h => h) (Or.inr ⟨by rfl, rfl⟩) (by assumption) ?_
      (try simp only [List.getElem_toArray, List.getElem_cons_succ, List.getElem_cons_zero, Act.put, List.setIfInBounds_toArray, List.set_cons_zero, List.set_cons_succ])
      refine wpAnyH_take (i := 22) (v := undef) rfl (by kernel_rfl) (by kernel_rfl) (by kernel_rfl) (fun _ _ _ h => h) (Or.inr ⟨by rfl, rfl⟩) (by assumption) ?_
      (try simp only [List.getElem_toArray, List.getElem_cons_succ, List.getElem_cons_zero, Act.put, List.setIfInBounds_toArray, List.set_cons_zero, List.set_cons_succ])
      refine wpAnyH_take (i := 23) (v := undef) rfl (by kernel_rfl) (by kernel_rfl) (by kernel_rfl) (fun _ _ _ h => h) (Or.inr ⟨by rfl, rfl⟩) (by assumption) ?_
      (try simp only [List.getElem_toArray, List.getElem_cons_succ, List.getElem_cons_zero, Act.put, List.setIfInBounds_toArray, List.set_cons_zero, List.set_cons_succ])
      refine wpAnyH_take (i := 24) (v := ?_) rfl (by kernel_rfl) (by kernel_rfl) (by kernel_rfl) (fun _ _ _ h => h) (Or.inl ⟨by rfl, ?_⟩) (by assumption) ?_
      rotate_left
      · (intro w hSw; (try dsimp only at hSw); go_simp; (try with_reducible rfl))
      (try simp only [List.getElem_toArray, List.getElem_cons_succ, List.getElem_cons_zero, Act.put, List.setIfInBounds_toArray, List.set_cons_zero, List.set_cons_succ])
      refine wpAnyH_take (i := 25) (v := ?_) rfl (by kernel_rfl) (by kernel_rfl) (by kernel_rfl) (fun _ _ _ h => h) (Or.inl ⟨by rfl, ?_⟩) (by assumption) ?_
      rotate_left
      · (intro w hSw; (try dsimp only at hSw); go_simp; (try with_reducible rfl))
      (try simp only [List.getElem_toArray, List.getElem_cons_succ, List.getElem_cons_zero, Act.put, List.setIfInBounds_toArray, List.set_cons_zero, List.set_cons_succ])
      refine wpAnyH_done (by kernel_rfl) ?_ _
      refine NoPanic.normal ?_
      go_wp2_with fail
      go_meet
      exact ⟨rfl, rfl, H0⟩
    · have H0q := Lib.hid h0
      obtain ⟨kq, hkq⟩ : ∃ k, rsg q1 = k := ⟨_, rfl⟩
      have hk0 : ((kq : Int) != 0) = true := by rw [bne_iff_ne]; rintro rfl; exact h0 (rsg_eq_zero.1 hkq)
      have HQ := Lib.hid hkq
      clear hkq
      have hb1 : bb = true := HBB.out.symm.trans (by simp [h0])
      subst hb1
      clear h0
      have hD := drawn_below W8
      replace f0 := f0.below hD
      replace f1 := f1.below hD
      replace g2 := g2.below hD
      replace g3 := g3.below hD
      replace g9 := g9.below hD
      replace b0 := b0.below hD
      replace b1 := b1.below hD
      replace b2 := b2.below hD
      replace b3 := b3.below hD
      replace b9 := b9.below hD
      replace H0 := H0.trans (hD.mono H0.size)
      clear hD
      refine wp_region_noPanic ?_
      refine wp_region_held_drew (S := (fun V => V.cell? ⟨g5_0, 0, none⟩ = some (.bool s2) ∧ V.cell? ⟨g5_0, 1, none⟩ = some (.slice A2 n2 c2) ∧ V.cell? ⟨g5_0, 2, none⟩ = some (.slice D2 m2 e2) ∧ V.cell? ⟨g5_1, 0, none⟩ = some (.bool s3) ∧ V.cell? ⟨g5_1, 1, none⟩ = some (.slice A3 n3 c3) ∧ V.cell? ⟨g5_1, 2, none⟩ = some (.slice D3 m3 e3) ∧ V.cell? ⟨w7.heap.size, 0, none⟩ = some (.bool s9) ∧ V.cell? ⟨w7.heap.size, 1, none⟩ = some (.slice A9 n9 c9) ∧ V.cell? ⟨w7.heap.size, 2, none⟩ = some (.slice D9 m9 e9))) (by kernel_rfl) ⟨b2.cell 0 _ rfl, b2.cell 1 _ rfl, b2.cell 2 _ rfl, b3.cell 0 _ rfl, b3.cell 1 _ rfl, b3.cell 2 _ rfl, b9.cell 0 _ rfl, b9.cell 1 _ rfl, b9.cell 2 _ rfl⟩ (fun hHeld => ?_)
      generalize W8.drew = v9 at H0 hHeld f0 f1 g2 g3 g9 b0 b1 b2 b3 b9 ⊢
      refine wpAnyH_take (i := 0) (v := ?_) rfl (by kernel_rfl) (by kernel_rfl) (by kernel_rfl) (fun _ _ _ h => h) (Or.inl ⟨by rfl, ?_⟩) (by assumption) ?_
      rotate_left
      · (intro w hSw; (try dsimp only at hSw); go_simp; (try with_reducible rfl))
      (try simp only [List.getElem_toArray, List.getElem_cons_zero, Act.put, List.setIfInBounds_toArray, List.set_cons_zero, List.set_cons_succ])
      refine wpAnyH_take (i := 1) (v := ?_) rfl (by kernel_rfl) (by kernel_rfl) (by kernel_rfl) (fun _ _ _ h => h) (Or.inl ⟨by rfl, ?_⟩) (by assumption) ?_
      rotate_left
      · (intro w hSw; (try dsimp only at hSw); go_simp; (try with_reducible rfl))
      (try simp only [List.getElem_toArray, List.getElem_cons_succ, List.getElem_cons_zero, Act.put, List.setIfInBounds_toArray, List.set_cons_zero, List.set_cons_succ])
      refine wpAnyH_ready (rs := [2]) (by kernel_rfl) (by simp) (AllReadyH.cons (o := _) rfl (fun K hK => ?_) AllReadyH.nil)
      go_simp
      go_at_call 22
      refine (nqs_v g3 HQ.out).mono ?_
      rintro e w10 ⟨rfl, hb⟩
      replace f0 := f0.below hb
      replace f1 := f1.below hb
      replace g2 := g2.below hb
      replace g3 := g3.below hb
      replace g9 := g9.below hb
      replace b0 := b0.below hb
      replace b1 := b1.below hb
      replace b2 := b2.below hb
      replace b3 := b3.below hb
      replace b9 := b9.below hb
      replace H0 := H0.trans (hb.mono H0.size)
      clear hb
      go_wp2_with fail
      refine hK.out _ _ ⟨b2.cell 0 _ rfl, b2.cell 1 _ rfl, b2.cell 2 _ rfl, b3.cell 0 _ rfl, b3.cell 1 _ rfl, b3.cell 2 _ rfl, b9.cell 0 _ rfl, b9.cell 1 _ rfl, b9.cell 2 _ rfl⟩ (fun hHeld => ?_)
      clear hK K
      (try simp only [List.getElem_toArray, List.getElem_cons_succ, List.getElem_cons_zero, Act.put, List.setIfInBounds_toArray, List.set_cons_zero, List.set_cons_succ])
      refine wpAnyH_take (i := 3) (v := ?_) rfl (by kernel_rfl) (by kernel_rfl) (by kernel_rfl) (fun _ _ _ h => h) (Or.inl ⟨by rfl, ?_⟩) (by assumption) ?_
      rotate_left
      · (intro w hSw; (try dsimp only at hSw); go_simp; (try with_reducible rfl))
      (try simp only [List.getElem_toArray, List.getElem_cons_succ, List.getElem_cons_zero, Act.put, List.setIfInBounds_toArray, List.set_cons_zero, List.set_cons_succ])
      refine wpAnyH_take (i := 4) (v := ?_) rfl (by kernel_rfl) (by kernel_rfl) (by kernel_rfl) (fun _ _ _ h => h) (Or.inl ⟨by rfl, ?_⟩) (by assumption) ?_
      rotate_left
      · (intro w hSw; (try dsimp only at hSw); go_simp; (try with_reducible rfl))
      (try simp only [List.getElem_toArray, List.getElem_cons_succ, List.getElem_cons_zero, Act.put, List.setIfInBounds_toArray, List.set_cons_zero, List.set_cons_succ])
      refine wpAnyH_take (i := 5) (v := ?_) rfl (by kernel_rfl) (by kernel_rfl) (by kernel_rfl) (fun _ _ _ h => h) (Or.inl ⟨by rfl, ?_⟩) (by assumption) ?_
      rotate_left
      · (intro w hSw; (try dsimp only at hSw); go_simp; (try with_reducible rfl))
      (try simp only [List.getElem_toArray, List.getElem_cons_succ, List.getElem_cons_zero, Act.put, List.setIfInBounds_toArray, List.set_cons_zero, List.set_cons_succ])
      refine wpAnyH_take (i := 6) (v := ?_) rfl (by kernel_rfl) (by kernel_rfl) (by kernel_rfl) (fun _ _ _ h => h) (Or.inl ⟨by rfl, ?_⟩) (by assumption) ?_
      rotate_left
      · (intro w hSw; (try dsimp only at hSw); go_simp; (try with_reducible rfl))
      (try simp only [List.getElem_toArray, List.getElem_cons_succ, List.getElem_cons_zero, Act.put, List.setIfInBounds_toArray, List.set_cons_zero, List.set_cons_succ])
      refine wpAnyH_take (i := 7) (v := ?_) rfl (by kernel_rfl) (by kernel_rfl) (by kernel_rfl) (fun _ _ _ h => h) (Or.inl ⟨by rfl, ?_⟩) (by assumption) ?_
      rotate_left
      · (intro w hSw; (try dsimp only at hSw); go_simp; (try with_reducible rfl))
      (try simp only [List.getElem_toArray, List.getElem_cons_succ, List.getElem_cons_zero, Act.put, List.setIfInBounds_toArray, List.set_cons_zero, List.set_cons_succ])
      refine wpAnyH_take (i := 8) (v := ?_) rfl (by kernel_rfl) (by kernel_rfl) (by kernel_rfl) (fun _ _ _ h => h) (Or.inl ⟨by rfl, ?_⟩) (by assumption) ?_
      rotate_left
      · (intro w hSw; (try dsimp only at hSw); go_simp; (try with_reducible rfl))
      (try simp only [List.getElem_toArray, List.getElem_cons_succ, List.getElem_cons_zero, Act.put, List.setIfInBounds_toArray, List.set_cons_zero, List.set_cons_succ])
      refine wpAnyH_take (i := 9) (v := undef) rfl (by kernel_rfl) (by kernel_rfl) (by kernel_rfl) (fun _ _ _ h => h) (Or.inr ⟨by rfl, rfl⟩) (by assumption) ?_
      (try simp only [List.getElem_toArray, List.getElem_cons_succ, List.getElem_cons_zero, Act.put, List.setIfInBounds_toArray, List.set_cons_zero, List.set_cons_succ])
      refine wpAnyH_take (i := 10) (v := undef) rfl (by kernel_rfl) (by kernel_rfl) (by kernel_rfl) (fun _ _ _ h => h) (Or.inr ⟨by rfl, rfl⟩) (by assumption) ?_
      (try simp only [List.getElem_toArray, List.getElem_cons_succ, List.getElem_cons_zero, Act.put, List.setIfInBounds_toArray, List.set_cons_zero, List.set_cons_succ])
      refine wpAnyH_take (i := 11) (v := undef) rfl (by kernel_rfl) (by kernel_rfl) (by kernel_rfl) (fun _ _ _ h => h) (Or.inr ⟨by rfl, rfl⟩) (by assumption) ?_
      (try simp only [List.getElem_toArray, List.getElem_cons_succ, List.getElem_cons_zero, Act.put, List.setIfInBounds_toArray, List.set_cons_zero, List.set_cons_succ])
      refine wpAnyH_take (i := 12) (v := undef) rfl (by kernel_rfl) (by kernel_rfl) (by kernel_rfl) (fun _ _ _ h => h) (Or.inr ⟨by rfl, rfl⟩) (by assumption) ?_
      (try simp only [List.getElem_toArray, List.getElem_cons_succ, List.getElem_cons_zero, Act.put, List.setIfInBounds_toArray, List.set_cons_zero, List.set_cons_succ])
      refine wpAnyH_take (i := 13) (v := ?_) rfl (by kernel_rfl) (by kernel_rfl) (by kernel_rfl) (fun _ _ _ h => h) (Or.inl ⟨by rfl, ?_⟩) (by assumption) ?_
      rotate_left
      · (intro w hSw; (try dsimp only at hSw); go_simp; (try with_reducible rfl))
      (try simp only [List.getElem_toArray, List.getElem_cons_succ, List.getElem_cons_zero, Act.put, List.setIfInBounds_toArray, List.set_cons_zero, List.set_cons_succ])
      refine wpAnyH_take (i := 14) (v := ?_) rfl (by kernel_rfl) (by kernel_rfl) (by kernel_rfl) (fun _ _ _ h => h) (Or.inl ⟨by rfl, ?_⟩) (by assumption) ?_
      rotate_left
      · (intro w hSw; (try dsimp only at hSw); go_simp; (try with_reducible rfl))
      (try simp only [List.getElem_toArray, List.getElem_cons_succ, List.getElem_cons_zero, Act.put, List.setIfInBounds_toArray, List.set_cons_zero, List.set_cons_succ])
      refine wpAnyH_take (i := 15) (v := ?_) rfl (by kernel_rfl) (by kernel_rfl) (by kernel_rfl) (fun _ _ _ h => h) (Or.inl ⟨by rfl, ?_⟩) (by assumption) ?_
      rotate_left
      · (intro w hSw; (try dsimp only at hSw); go_simp; (try with_reducible rfl))
      (try simp only [List.getElem_toArray, List.getElem_cons_succ, List.getElem_cons_zero, Act.put, List.setIfInBounds_toArray, List.set_cons_zero, List.set_cons_succ])
      refine wpAnyH_take (i := 16) (v := ?_) rfl (by kernel_rfl) (by kernel_rfl) (by kernel_rfl) (fun _ _ _ h => h) (Or.inl ⟨by rfl, ?_⟩) (by assumption) ?_
      rotate_left
      · (intro w hSw; (try dsimp only at hSw); go_simp; (try with_reducible rfl))
      (try simp only [List.getElem_toArray, List.getElem_cons_succ, List.getElem_cons_zero, Act.put, List.setIfInBounds_toArray, List.set_cons_zero, List.set_cons_succ])
      refine wpAnyH_take (i := 17) (v := ?_) rfl (by kernel_rfl) (by kernel_rfl) (by kernel_rfl) (fun _ _ _ h => h) (Or.inl ⟨by rfl, ?_⟩) (by assumption) ?_
      rotate_left
      · (intro w hSw; (try dsimp only at hSw); go_simp; (try with_reducible rfl))
      (try simp only [List.getElem_toArray, List.getElem_cons_succ, List.getElem_cons_zero, Act.put, List.setIfInBounds_toArray, List.set_cons_zero, List.set_cons_succ])
      refine wpAnyH_take (i := 18) (v := ?_) rfl (by kernel_rfl) (by kernel_rfl) (by kernel_rfl) (fun _ _ _ h => h) (Or.inl ⟨by rfl, ?_⟩) (by assumption) ?_
      rotate_left
      · (intro w hSw; (try dsimp only at hSw); go_simp; (try with_reducible rfl))
      (try simp only [List.getElem_toArray, List.getElem_cons_succ, List.getElem_cons_zero, Act.put, List.setIfInBounds_toArray, List.set_cons_zero, List.set_cons_succ])
      refine wpAnyH_take (i := 19) (v := ?_) rfl (by kernel_rfl) (by kernel_rfl) (by kernel_rfl) (fun _ _ _ h => h) (Or.inl ⟨by rfl, ?_⟩) (by assumption) ?_
      rotate_left
      · (intro w hSw; (try dsimp only at hSw); go_simp; (try with_reducible rfl))
      (try simp only [List.getElem_toArray, List.getElem_cons_succ, List.getElem_cons_zero, Act.put, List.setIfInBounds_toArray, List.set_cons_zero, List.set_cons_succ])
      refine wpAnyH_take (i := 20) (v := ?_) rfl (by kernel_rfl) (by kernel_rfl) (by kernel_rfl) (fun _ _ _ h => h) (Or.inl ⟨by rfl, ?_⟩) (by assumption) ?_
      rotate_left
      · (intro w hSw; (try dsimp only at hSw); go_simp; (try with_reducible rfl))
      (try simp only [List.getElem_toArray, List.getElem_cons_succ, List.getElem_cons_zero, Act.put, List.setIfInBounds_toArray, List.set_cons_zero, List.set_cons_succ])
      refine wpAnyH_ready (rs := [21]) (by kernel_rfl) (by simp) (AllReadyH.cons (o := _) rfl (fun K hK => ?_) AllReadyH.nil)
      go_simp
      go_at_call 15
      refine (nover_v g2 g3 (by omega) (by omega) H0q.out).mono ?_
      rintro e w11 ⟨s8, A8, n8, c8, D8, m8, e8, rfl, g8, hb⟩
      replace f0 := f0.below hb
      replace f1 := f1.below hb
      replace g2 := g2.below hb
      replace g3 := g3.below hb
      replace g9 := g9.below hb
      replace b0 := b0.below hb
      replace b1 := b1.below hb
      replace b2 := b2.below hb
      replace b3 := b3.below hb
      replace b9 := b9.below hb
      replace H0 := H0.trans (hb.mono H0.size)
      clear hb
      go_wp2_with fail
      refine hK.out _ _ ⟨b2.cell 0 _ rfl, b2.cell 1 _ rfl, b2.cell 2 _ rfl, b3.cell 0 _ rfl, b3.cell 1 _ rfl, b3.cell 2 _ rfl, b9.cell 0 _ rfl, b9.cell 1 _ rfl, b9.cell 2 _ rfl⟩ (fun hHeld => ?_)
      clear hK K
      (try simp only [List.getElem_toArray, List.getElem_cons_succ, List.getElem_cons_zero, Act.put, List.setIfInBounds_toArray, List.set_cons_zero, List.set_cons_succ])
      refine wpAnyH_ready (rs := [22]) (by kernel_rfl) (by simp) (AllReadyH.cons (o := _) rfl (fun K hK => ?_) AllReadyH.nil)
      go_simp
      go_at_call 14
      refine (same3_t g9 g8 (by omega) rfl).mono ?_
      rintro e w12 ⟨rfl, hb⟩
      replace f0 := f0.below hb
      replace f1 := f1.below hb
      replace g2 := g2.below hb
      replace g3 := g3.below hb
      replace g9 := g9.below hb
      replace g8 := g8.below hb
      replace b0 := b0.below hb
      replace b1 := b1.below hb
      replace b2 := b2.below hb
      replace b3 := b3.below hb
      replace b9 := b9.below hb
      replace H0 := H0.trans (hb.mono H0.size)
      clear hb
      clear g9
      clear g8
      go_wp2_with fail
      refine hK.out _ _ ⟨b2.cell 0 _ rfl, b2.cell 1 _ rfl, b2.cell 2 _ rfl, b3.cell 0 _ rfl, b3.cell 1 _ rfl, b3.cell 2 _ rfl, b9.cell 0 _ rfl, b9.cell 1 _ rfl, b9.cell 2 _ rfl⟩ (fun hHeld => ?_)
      clear hK K
      (try simp only [List.getElem_toArray, List.getElem_cons_succ, List.getElem_cons_zero, Act.put, List.setIfInBounds_toArray, List.set_cons_zero, List.set_cons_succ])
      refine wpAnyH_take (i := 23) (v := ?_) rfl (by kernel_rfl) (by kernel_rfl) (by kernel_rfl) (fun _ _ _ h => h) (Or.inl ⟨by rfl, ?_⟩) (by assumption) ?_
      rotate_left
      · (intro w hSw; (try dsimp only at hSw); go_simp; (try with_reducible rfl))
      (try simp only [List.getElem_toArray, List.getElem_cons_succ, List.getElem_cons_zero, Act.put, List.setIfInBounds_toArray, List.set_cons_zero, List.set_cons_succ])
      refine wpAnyH_take (i := 24) (v := ?_) rfl (by kernel_rfl) (by kernel_rfl) (by kernel_rfl) (fun _ _ _ h => h) (Or.inl ⟨by rfl, ?_⟩) (by assumption) ?_
      rotate_left
      · (intro w hSw; (try dsimp only at hSw); go_simp; (try with_reducible rfl))
      (try simp only [List.getElem_toArray, List.getElem_cons_succ, List.getElem_cons_zero, Act.put, List.setIfInBounds_toArray, List.set_cons_zero, List.set_cons_succ])
      refine wpAnyH_take (i := 25) (v := ?_) rfl (by kernel_rfl) (by kernel_rfl) (by kernel_rfl) (fun _ _ _ h => h) (Or.inl ⟨by rfl, ?_⟩) (by assumption) ?_
      rotate_left
      · (intro w hSw; (try dsimp only at hSw); go_simp; (try with_reducible rfl))
      (try simp only [List.getElem_toArray, List.getElem_cons_succ, List.getElem_cons_zero, Act.put, List.setIfInBounds_toArray, List.set_cons_zero, List.set_cons_succ])
      refine wpAnyH_done (by kernel_rfl) ?_ _
      refine NoPanic.normal ?_
      go_wp2_with fail
      go_meet
      exact ⟨rfl, rfl, H0⟩
  obtain ⟨rfl, rfl, hG⟩ := hcut
  clear g9 b9
  replace f0 := f0.below hG
  replace f1 := f1.below hG
  replace g2 := g2.below hG
  replace g3 := g3.below hG
  replace b0 := b0.below hG
  replace b1 := b1.below hG
  replace b2 := b2.below hG
  replace b3 := b3.below hG
  replace H0 := H0.trans (hG.mono H0.size)
  clear hG
  have HP := Lib.hid (Nat.pos_of_ne_zero q0.den_nz)
  have g2i := g2.1
  have cb20 := b2.cell 0 _ rfl
  have cb21 := b2.cell 1 _ rfl
  have cb22 := b2.cell 2 _ rfl
  go_wp2_with fail
  clear cb20 cb21 cb22
  have lcb0_9 := b0.lt
  have lcb1_9 := b1.lt
  have lcb2_9 := b2.lt
  have lcb3_9 := b3.lt
  go_cut [10, 11] from 14 (fun u9_0 _x0 wx => ∃ g9_0 s5 A5 n5 c5, u9_0 = .pointer (some ⟨g9_0, 0, none⟩) ∧ NI wx s5 (.slice A5 n5 c5) (q0.num / (q0.den : Int)) 7 ∧ Box wx g9_0 #[.bool s5, .slice A5 n5 c5] 32 ∧ wc.heap.size ≤ g9_0 ∧ Below wc.heap.size wc wx)
  case first => as_aux_lemma =>
    have hG := drawn_below wc
    refine wp_region_noPanic ?_
    refine wp_region_held_drew (S := (fun V => V.cell? ⟨g5_0, 0, none⟩ = some (.bool s2) ∧ V.cell? ⟨g5_0, 1, none⟩ = some (.slice A2 n2 c2) ∧ V.cell? ⟨g5_0, 2, none⟩ = some (.slice D2 m2 e2))) (by kernel_rfl) ⟨(b2.below hG).cell 0 _ rfl, (b2.below hG).cell 1 _ rfl, (b2.below hG).cell 2 _ rfl⟩ (fun hHeld => ?_)
    generalize wc.drew = v9 at hG hHeld ⊢
    have sG := hG.size
    refine wpAnyH_take (i := 0) (v := ?_) rfl (by kernel_rfl) (by kernel_rfl) (by kernel_rfl) (fun _ _ _ h => h) (Or.inl ⟨by rfl, ?_⟩) (by assumption) ?_
    rotate_left
    · (intro w hSw; (try dsimp only at hSw); go_simp; (try with_reducible rfl))
    (try simp only [List.getElem_toArray, List.getElem_cons_zero, Act.put, List.setIfInBounds_toArray, List.set_cons_zero, List.set_cons_succ])
    refine wpAnyH_take (i := 1) (v := ?_) rfl (by kernel_rfl) (by kernel_rfl) (by kernel_rfl) (fun _ _ _ h => h) (Or.inl ⟨by rfl, ?_⟩) (by assumption) ?_
    rotate_left
    · (intro w hSw; (try dsimp only at hSw); go_simp; (try with_reducible rfl))
    (try simp only [List.getElem_toArray, List.getElem_cons_succ, List.getElem_cons_zero, Act.put, List.setIfInBounds_toArray, List.set_cons_zero, List.set_cons_succ])
    refine wpAnyH_take (i := 2) (v := ?_) rfl (by kernel_rfl) (by kernel_rfl) (by kernel_rfl) (fun _ _ _ h => h) (Or.inl ⟨by rfl, ?_⟩) (by assumption) ?_
    rotate_left
    · (intro w hSw; (try dsimp only at hSw); go_simp; (try with_reducible rfl))
    (try simp only [List.getElem_toArray, List.getElem_cons_succ, List.getElem_cons_zero, Act.put, List.setIfInBounds_toArray, List.set_cons_zero, List.set_cons_succ])
    refine wpAnyH_ready (rs := [3, 8]) (by kernel_rfl) (by simp) (AllReadyH.cons (o := _) rfl (fun K hK => ?_) (AllReadyH.cons (o := _) rfl (fun K hK => ?_) AllReadyH.nil))
    · go_simp
      go_at_call 29
      refine (nden_v (g2.below hG)).mono ?_
      rintro e y9_1 ⟨A4, n4, c4, rfl, g4, hb9⟩
      have szy9_1 := hb9.size
      replace hG := hG.trans (hb9.mono sG)
      replace sG := hG.size
      clear hb9
      go_wp2_with fail
      refine hK.out _ _ ⟨(b2.below hG).cell 0 _ rfl, (b2.below hG).cell 1 _ rfl, (b2.below hG).cell 2 _ rfl⟩ (fun hHeld => ?_)
      clear hK K
      (try simp only [List.getElem_toArray, List.getElem_cons_succ, List.getElem_cons_zero, Act.put, List.setIfInBounds_toArray, List.set_cons_zero, List.set_cons_succ])
      refine wpAnyH_ready (rs := [4, 8]) (by kernel_rfl) (by simp) (AllReadyH.cons (o := _) rfl (fun K hK => ?_) (AllReadyH.cons (o := _) rfl (fun K hK => ?_) AllReadyH.nil))
      · go_simp
        go_at_call 28
        refine (nfloor_v (g2i.below hG) g4 HP.out (by omega) (by omega)).mono ?_
        rintro e y9_2 ⟨s5, A5, n5, c5, A6, n6, c6, rfl, g5, _, hb9⟩
        have szy9_2 := hb9.size
        replace g4 := g4.below hb9
        replace hG := hG.trans (hb9.mono sG)
        replace sG := hG.size
        clear hb9
        clear g4
        go_wp2_with fail
        refine hK.out _ _ ⟨(b2.below hG).cell 0 _ rfl, (b2.below hG).cell 1 _ rfl, (b2.below hG).cell 2 _ rfl⟩ (fun hHeld => ?_)
        clear hK K
        (try simp only [List.getElem_toArray, List.getElem_cons_succ, List.getElem_cons_zero, Act.put, List.setIfInBounds_toArray, List.set_cons_zero, List.set_cons_succ])
        refine wpAnyH_take (i := 5) (v := ?_) rfl (by kernel_rfl) (by kernel_rfl) (by kernel_rfl) (fun _ _ _ h => h) (Or.inl ⟨by rfl, ?_⟩) (by assumption) ?_
        rotate_left
        · (intro w hSw; (try dsimp only at hSw); go_simp; (try with_reducible rfl))
        (try simp only [List.getElem_toArray, List.getElem_cons_succ, List.getElem_cons_zero, Act.put, List.setIfInBounds_toArray, List.set_cons_zero, List.set_cons_succ])
        refine wpAnyH_take (i := 6) (v := ?_) rfl (by kernel_rfl) (by kernel_rfl) (by kernel_rfl) (fun _ _ _ h => h) (Or.inl ⟨by rfl, ?_⟩) (by assumption) ?_
        rotate_left
        · (intro w hSw; (try dsimp only at hSw); go_simp; (try with_reducible rfl))
        (try simp only [List.getElem_toArray, List.getElem_cons_succ, List.getElem_cons_zero, Act.put, List.setIfInBounds_toArray, List.set_cons_zero, List.set_cons_succ])
        refine wpAnyH_take (i := 7) (v := ?_) rfl (by kernel_rfl) (by kernel_rfl) (by kernel_rfl) (fun _ _ _ h => h) (Or.inl ⟨by rfl, ?_⟩) (by assumption) ?_
        rotate_left
        · (intro w hSw; (try dsimp only at hSw); go_simp; (try with_reducible rfl))
        (try simp only [List.getElem_toArray, List.getElem_cons_succ, List.getElem_cons_zero, Act.put, List.setIfInBounds_toArray, List.set_cons_zero, List.set_cons_succ])
        refine wpAnyH_ready (rs := [8]) (by kernel_rfl) (by simp) (AllReadyH.cons (o := _) rfl (fun K hK => ?_) AllReadyH.nil)
        go_simp
        obtain ⟨y9_3, hV, b5, hb9, szy9_3⟩ := boxes1 y9_2 #[.bool false, .slice none 0 0] 32
        rw [hV]
        clear hV
        have gly9_3 : wc.heap.size ≤ y9_2.heap.size := sG
        replace szy9_3 : y9_2.heap.size < y9_3.heap.size := by omega
        replace g5 := g5.below hb9
        replace hG := hG.trans (hb9.mono sG)
        replace sG := hG.size
        clear hb9
        refine hK.out _ _ ⟨(b2.below hG).cell 0 _ rfl, (b2.below hG).cell 1 _ rfl, (b2.below hG).cell 2 _ rfl⟩ (fun hHeld => ?_)
        clear hK K
        (try simp only [List.getElem_toArray, List.getElem_cons_succ, List.getElem_cons_zero, Act.put, List.setIfInBounds_toArray, List.set_cons_zero, List.set_cons_succ])
        have rb50 := b5.cell 0 _ rfl
        have qb50 := b5.frozen 0
        have rb51 := b5.cell 1 _ rfl
        have qb51 := b5.frozen 1
        refine wpAnyH_ready (rs := [9]) (by kernel_rfl) (by simp) (AllReadyH.cons (o := _) rfl (fun K hK => ?_) AllReadyH.nil)
        go_simp
        clear rb50 qb50
        clear rb51 qb51
        have hg := only_store y9_3 (y9_2.heap.size) (.bool s5) (.slice A5 n5 c5)
        have hB := b5.stored (.bool s5) (.slice A5 n5 c5)
        generalize hX : ((y9_3.setCell ⟨y9_2.heap.size, 0, none⟩ (.bool s5)).setCell ⟨y9_2.heap.size, 1, none⟩ (.slice A5 n5 c5)) = Y9_4 at hg hB ⊢
        clear hX
        replace g5 := g5.kept b5 (by simp [notInt]) hg
        replace b5 := hB
        replace hG := below_only hG hg (by omega) sG
        replace sG := hG.size
        clear hg hB
        refine hK.out _ _ ⟨(b2.below hG).cell 0 _ rfl, (b2.below hG).cell 1 _ rfl, (b2.below hG).cell 2 _ rfl⟩ (fun hHeld => ?_)
        clear hK K
        (try simp only [List.getElem_toArray, List.getElem_cons_succ, List.getElem_cons_zero, Act.put, List.setIfInBounds_toArray, List.set_cons_zero, List.set_cons_succ])
        refine wpAnyH_take (i := 10) (v := ?_) rfl (by kernel_rfl) (by kernel_rfl) (by kernel_rfl) (fun _ _ _ h => h) (Or.inl ⟨by rfl, ?_⟩) (by assumption) ?_
        rotate_left
        · (intro w hSw; (try dsimp only at hSw); go_simp; (try with_reducible rfl))
        (try simp only [List.getElem_toArray, List.getElem_cons_succ, List.getElem_cons_zero, Act.put, List.setIfInBounds_toArray, List.set_cons_zero, List.set_cons_succ])
        refine wpAnyH_done (by kernel_rfl) ?_ _
        refine NoPanic.normal ?_
        go_wp2_with fail
        go_meet
        exact ⟨y9_2.heap.size, s5, A5, n5, c5, rfl, g5.more (by omega), b5, (by omega), hG⟩
      · go_simp
        obtain ⟨y9_5, hV, b5, hb9, szy9_5⟩ := boxes1 y9_1 #[.bool false, .slice none 0 0] 32
        rw [hV]
        clear hV
        have gly9_5 : wc.heap.size ≤ y9_1.heap.size := sG
        replace szy9_5 : y9_1.heap.size < y9_5.heap.size := by omega
        replace g4 := g4.below hb9
        replace hG := hG.trans (hb9.mono sG)
        replace sG := hG.size
        clear hb9
        refine hK.out _ _ ⟨(b2.below hG).cell 0 _ rfl, (b2.below hG).cell 1 _ rfl, (b2.below hG).cell 2 _ rfl⟩ (fun hHeld => ?_)
        clear hK K
        (try simp only [List.getElem_toArray, List.getElem_cons_succ, List.getElem_cons_zero, Act.put, List.setIfInBounds_toArray, List.set_cons_zero, List.set_cons_succ])
        refine wpAnyH_ready (rs := [4]) (by kernel_rfl) (by simp) (AllReadyH.cons (o := _) rfl (fun K hK => ?_) AllReadyH.nil)
        go_simp
        go_at_call 28
        refine (nfloor_v (g2i.below hG) g4 HP.out (by omega) (by omega)).mono ?_
        rintro e y9_6 ⟨s5, A5, n5, c5, A6, n6, c6, rfl, g5, _, hb9⟩
        have szy9_6 := hb9.size
        replace g4 := g4.below hb9
        replace b5 := b5.below hb9
        replace hG := hG.trans (hb9.mono sG)
        replace sG := hG.size
        clear hb9
        clear g4
        go_wp2_with fail
        refine hK.out _ _ ⟨(b2.below hG).cell 0 _ rfl, (b2.below hG).cell 1 _ rfl, (b2.below hG).cell 2 _ rfl⟩ (fun hHeld => ?_)
        clear hK K
        (try simp only [List.getElem_toArray, List.getElem_cons_succ, List.getElem_cons_zero, Act.put, List.setIfInBounds_toArray, List.set_cons_zero, List.set_cons_succ])
        refine wpAnyH_take (i := 5) (v := ?_) rfl (by kernel_rfl) (by kernel_rfl) (by kernel_rfl) (fun _ _ _ h => h) (Or.inl ⟨by rfl, ?_⟩) (by assumption) ?_
        rotate_left
        · (intro w hSw; (try dsimp only at hSw); go_simp; (try with_reducible rfl))
        (try simp only [List.getElem_toArray, List.getElem_cons_succ, List.getElem_cons_zero, Act.put, List.setIfInBounds_toArray, List.set_cons_zero, List.set_cons_succ])
        refine wpAnyH_take (i := 6) (v := ?_) rfl (by kernel_rfl) (by kernel_rfl) (by kernel_rfl) (fun _ _ _ h => h) (Or.inl ⟨by rfl, ?_⟩) (by assumption) ?_
        rotate_left
        · (intro w hSw; (try dsimp only at hSw); go_simp; (try with_reducible rfl))
        (try simp only [List.getElem_toArray, List.getElem_cons_succ, List.getElem_cons_zero, Act.put, List.setIfInBounds_toArray, List.set_cons_zero, List.set_cons_succ])
        refine wpAnyH_take (i := 7) (v := ?_) rfl (by kernel_rfl) (by kernel_rfl) (by kernel_rfl) (fun _ _ _ h => h) (Or.inl ⟨by rfl, ?_⟩) (by assumption) ?_
        rotate_left
        · (intro w hSw; (try dsimp only at hSw); go_simp; (try with_reducible rfl))
        (try simp only [List.getElem_toArray, List.getElem_cons_succ, List.getElem_cons_zero, Act.put, List.setIfInBounds_toArray, List.set_cons_zero, List.set_cons_succ])
        have rb50 := b5.cell 0 _ rfl
        have qb50 := b5.frozen 0
        have rb51 := b5.cell 1 _ rfl
        have qb51 := b5.frozen 1
        refine wpAnyH_ready (rs := [9]) (by kernel_rfl) (by simp) (AllReadyH.cons (o := _) rfl (fun K hK => ?_) AllReadyH.nil)
        go_simp
        clear rb50 qb50
        clear rb51 qb51
        have hg := only_store y9_6 (y9_1.heap.size) (.bool s5) (.slice A5 n5 c5)
        have hB := b5.stored (.bool s5) (.slice A5 n5 c5)
        generalize hX : ((y9_6.setCell ⟨y9_1.heap.size, 0, none⟩ (.bool s5)).setCell ⟨y9_1.heap.size, 1, none⟩ (.slice A5 n5 c5)) = Y9_7 at hg hB ⊢
        clear hX
        replace g5 := g5.kept b5 (by simp [notInt]) hg
        replace b5 := hB
        replace hG := below_only hG hg (by omega) sG
        replace sG := hG.size
        clear hg hB
        refine hK.out _ _ ⟨(b2.below hG).cell 0 _ rfl, (b2.below hG).cell 1 _ rfl, (b2.below hG).cell 2 _ rfl⟩ (fun hHeld => ?_)
        clear hK K
        (try simp only [List.getElem_toArray, List.getElem_cons_succ, List.getElem_cons_zero, Act.put, List.setIfInBounds_toArray, List.set_cons_zero, List.set_cons_succ])
        refine wpAnyH_take (i := 10) (v := ?_) rfl (by kernel_rfl) (by kernel_rfl) (by kernel_rfl) (fun _ _ _ h => h) (Or.inl ⟨by rfl, ?_⟩) (by assumption) ?_
        rotate_left
        · (intro w hSw; (try dsimp only at hSw); go_simp; (try with_reducible rfl))
        (try simp only [List.getElem_toArray, List.getElem_cons_succ, List.getElem_cons_zero, Act.put, List.setIfInBounds_toArray, List.set_cons_zero, List.set_cons_succ])
        refine wpAnyH_done (by kernel_rfl) ?_ _
        refine NoPanic.normal ?_
        go_wp2_with fail
        go_meet
        exact ⟨y9_1.heap.size, s5, A5, n5, c5, rfl, g5.more (by omega), b5, (by omega), hG⟩
    · go_simp
      obtain ⟨y9_8, hV, b5, hb9, szy9_8⟩ := boxes1 v9 #[.bool false, .slice none 0 0] 32
      rw [hV]
      clear hV
      have gly9_8 : wc.heap.size ≤ v9.heap.size := sG
      replace szy9_8 : v9.heap.size < y9_8.heap.size := by omega
      replace hG := hG.trans (hb9.mono sG)
      replace sG := hG.size
      clear hb9
      refine hK.out _ _ ⟨(b2.below hG).cell 0 _ rfl, (b2.below hG).cell 1 _ rfl, (b2.below hG).cell 2 _ rfl⟩ (fun hHeld => ?_)
      clear hK K
      (try simp only [List.getElem_toArray, List.getElem_cons_succ, List.getElem_cons_zero, Act.put, List.setIfInBounds_toArray, List.set_cons_zero, List.set_cons_succ])
      refine wpAnyH_ready (rs := [3]) (by kernel_rfl) (by simp) (AllReadyH.cons (o := _) rfl (fun K hK => ?_) AllReadyH.nil)
      go_simp
      go_at_call 29
      refine (nden_v (g2.below hG)).mono ?_
      rintro e y9_9 ⟨A4, n4, c4, rfl, g4, hb9⟩
      have szy9_9 := hb9.size
      replace b5 := b5.below hb9
      replace hG := hG.trans (hb9.mono sG)
      replace sG := hG.size
      clear hb9
      go_wp2_with fail
      refine hK.out _ _ ⟨(b2.below hG).cell 0 _ rfl, (b2.below hG).cell 1 _ rfl, (b2.below hG).cell 2 _ rfl⟩ (fun hHeld => ?_)
      clear hK K
      (try simp only [List.getElem_toArray, List.getElem_cons_succ, List.getElem_cons_zero, Act.put, List.setIfInBounds_toArray, List.set_cons_zero, List.set_cons_succ])
      refine wpAnyH_ready (rs := [4]) (by kernel_rfl) (by simp) (AllReadyH.cons (o := _) rfl (fun K hK => ?_) AllReadyH.nil)
      go_simp
      go_at_call 28
      refine (nfloor_v (g2i.below hG) g4 HP.out (by omega) (by omega)).mono ?_
      rintro e y9_10 ⟨s5, A5, n5, c5, A6, n6, c6, rfl, g5, _, hb9⟩
      have szy9_10 := hb9.size
      replace g4 := g4.below hb9
      replace b5 := b5.below hb9
      replace hG := hG.trans (hb9.mono sG)
      replace sG := hG.size
      clear hb9
      clear g4
      go_wp2_with fail
      refine hK.out _ _ ⟨(b2.below hG).cell 0 _ rfl, (b2.below hG).cell 1 _ rfl, (b2.below hG).cell 2 _ rfl⟩ (fun hHeld => ?_)
      clear hK K
      (try simp only [List.getElem_toArray, List.getElem_cons_succ, List.getElem_cons_zero, Act.put, List.setIfInBounds_toArray, List.set_cons_zero, List.set_cons_succ])
      refine wpAnyH_take (i := 5) (v := ?_) rfl (by kernel_rfl) (by kernel_rfl) (by kernel_rfl) (fun _ _ _ h => h) (Or.inl ⟨by rfl, ?_⟩) (by assumption) ?_
      rotate_left
      · (intro w hSw; (try dsimp only at hSw); go_simp; (try with_reducible rfl))
      (try simp only [List.getElem_toArray, List.getElem_cons_succ, List.getElem_cons_zero, Act.put, List.setIfInBounds_toArray, List.set_cons_zero, List.set_cons_succ])
      refine wpAnyH_take (i := 6) (v := ?_) rfl (by kernel_rfl) (by kernel_rfl) (by kernel_rfl) (fun _ _ _ h => h) (Or.inl ⟨by rfl, ?_⟩) (by assumption) ?_
      rotate_left
      · (intro w hSw; (try dsimp only at hSw); go_simp; (try with_reducible rfl))
      (try simp only [List.getElem_toArray, List.getElem_cons_succ, List.getElem_cons_zero, Act.put, List.setIfInBounds_toArray, List.set_cons_zero, List.set_cons_succ])
      refine wpAnyH_take (i := 7) (v := ?_) rfl (by kernel_rfl) (by kernel_rfl) (by kernel_rfl) (fun _ _ _ h => h) (Or.inl ⟨by rfl, ?_⟩) (by assumption) ?_
      rotate_left
      · (intro w hSw; (try dsimp only at hSw); go_simp; (try with_reducible rfl))
      (try simp only [List.getElem_toArray, List.getElem_cons_succ, List.getElem_cons_zero, Act.put, List.setIfInBounds_toArray, List.set_cons_zero, List.set_cons_succ])
      have rb50 := b5.cell 0 _ rfl
      have qb50 := b5.frozen 0
      have rb51 := b5.cell 1 _ rfl
      have qb51 := b5.frozen 1
      refine wpAnyH_ready (rs := [9]) (by kernel_rfl) (by simp) (AllReadyH.cons (o := _) rfl (fun K hK => ?_) AllReadyH.nil)
      go_simp
      clear rb50 qb50
      clear rb51 qb51
      have hg := only_store y9_10 (v9.heap.size) (.bool s5) (.slice A5 n5 c5)
      have hB := b5.stored (.bool s5) (.slice A5 n5 c5)
      generalize hX : ((y9_10.setCell ⟨v9.heap.size, 0, none⟩ (.bool s5)).setCell ⟨v9.heap.size, 1, none⟩ (.slice A5 n5 c5)) = Y9_11 at hg hB ⊢
      clear hX
      replace g5 := g5.kept b5 (by simp [notInt]) hg
      replace b5 := hB
      replace hG := below_only hG hg (by omega) sG
      replace sG := hG.size
      clear hg hB
      refine hK.out _ _ ⟨(b2.below hG).cell 0 _ rfl, (b2.below hG).cell 1 _ rfl, (b2.below hG).cell 2 _ rfl⟩ (fun hHeld => ?_)
      clear hK K
      (try simp only [List.getElem_toArray, List.getElem_cons_succ, List.getElem_cons_zero, Act.put, List.setIfInBounds_toArray, List.set_cons_zero, List.set_cons_succ])
      refine wpAnyH_take (i := 10) (v := ?_) rfl (by kernel_rfl) (by kernel_rfl) (by kernel_rfl) (fun _ _ _ h => h) (Or.inl ⟨by rfl, ?_⟩) (by assumption) ?_
      rotate_left
      · (intro w hSw; (try dsimp only at hSw); go_simp; (try with_reducible rfl))
      (try simp only [List.getElem_toArray, List.getElem_cons_succ, List.getElem_cons_zero, Act.put, List.setIfInBounds_toArray, List.set_cons_zero, List.set_cons_succ])
      refine wpAnyH_done (by kernel_rfl) ?_ _
      refine NoPanic.normal ?_
      go_wp2_with fail
      go_meet
      exact ⟨v9.heap.size, s5, A5, n5, c5, rfl, g5.more (by omega), b5, (by omega), hG⟩
  obtain ⟨g9_0, s5, A5, n5, c5, rfl, g5, b5, glg9_0, hG⟩ := hcut
  replace f0 := f0.below hG
  replace f1 := f1.below hG
  replace g2 := g2.below hG
  replace g3 := g3.below hG
  replace g2i := g2i.below hG
  replace b0 := b0.below hG
  replace b1 := b1.below hG
  replace b2 := b2.below hG
  replace b3 := b3.below hG
  replace H0 := H0.trans (hG.mono H0.size)
  clear hG
  have cb20 := b2.cell 0 _ rfl
  have cb21 := b2.cell 1 _ rfl
  have cb22 := b2.cell 2 _ rfl
  go_wp2_with fail
  clear cb20 cb21 cb22
  clear g2i
  have hfd : ∀ (s : Bool) (A D : Option Addr) (n c m e : Nat) (w : World), (Instr.field 34 (.agg #[.bool s, .slice A n c, .slice D m e]) 0).run Tryz.prog w = .ok (.agg #[.bool s, .slice A n c]) w := fun _ _ _ _ _ _ _ _ => by kernel_rfl
  have lcb0_11 := b0.lt
  have lcb1_11 := b1.lt
  have lcb2_11 := b2.lt
  have lcb3_11 := b3.lt
  have lcb5_11 := b5.lt
  go_cut [12, 13] from 14 (fun u11_0 _x0 wx => ∃ g11_0 s8 A8 n8 c8, u11_0 = .pointer (some ⟨g11_0, 0, none⟩) ∧ NI wx s8 (.slice A8 n8 c8) ((-q0).num / (q0.den : Int)) 7 ∧ Box wx g11_0 #[.bool s8, .slice A8 n8 c8] 32 ∧ wc.heap.size ≤ g11_0 ∧ Below wc.heap.size wc wx)
  case first => as_aux_lemma =>
    have hG := drawn_below wc
    refine wp_region_noPanic ?_
    refine wp_region_held_drew (S := (fun V => V.cell? ⟨g5_0, 0, none⟩ = some (.bool s2) ∧ V.cell? ⟨g5_0, 1, none⟩ = some (.slice A2 n2 c2) ∧ V.cell? ⟨g5_0, 2, none⟩ = some (.slice D2 m2 e2))) (by kernel_rfl) ⟨(b2.below hG).cell 0 _ rfl, (b2.below hG).cell 1 _ rfl, (b2.below hG).cell 2 _ rfl⟩ (fun hHeld => ?_)
    generalize wc.drew = v11 at hG hHeld ⊢
    have sG := hG.size
    refine wpAnyH_take (i := 0) (v := ?_) rfl (by kernel_rfl) (by kernel_rfl) (by kernel_rfl) (fun _ _ _ h => h) (Or.inl ⟨by rfl, ?_⟩) (by assumption) ?_
    rotate_left
    · (intro w hSw; (try dsimp only at hSw); go_simp; (try with_reducible rfl))
    (try simp only [List.getElem_toArray, List.getElem_cons_zero, Act.put, List.setIfInBounds_toArray, List.set_cons_zero, List.set_cons_succ])
    refine wpAnyH_take (i := 3) (v := ?_) rfl (by kernel_rfl) (by kernel_rfl) (by kernel_rfl) (fun _ _ _ h => h) (Or.inl ⟨by rfl, ?_⟩) (by assumption) ?_
    rotate_left
    · (intro w hSw; (try dsimp only at hSw); go_simp; (try with_reducible rfl))
    (try simp only [List.getElem_toArray, List.getElem_cons_succ, List.getElem_cons_zero, Act.put, List.setIfInBounds_toArray, List.set_cons_zero, List.set_cons_succ])
    refine wpAnyH_ready (rs := [1, 9]) (by kernel_rfl) (by simp) (AllReadyH.cons (o := _) rfl (fun K hK => ?_) (AllReadyH.cons (o := _) rfl (fun K hK => ?_) AllReadyH.nil))
    · go_simp
      go_at_call 30
      refine (nopp_v (g2.below hG)).mono ?_
      rintro e y11_1 ⟨s7, rfl, g7, hb9⟩
      have szy11_1 := hb9.size
      replace hG := hG.trans (hb9.mono sG)
      replace sG := hG.size
      clear hb9
      go_wp2_with fail
      refine hK.out _ _ ⟨(b2.below hG).cell 0 _ rfl, (b2.below hG).cell 1 _ rfl, (b2.below hG).cell 2 _ rfl⟩ (fun hHeld => ?_)
      clear hK K
      (try simp only [List.getElem_toArray, List.getElem_cons_succ, List.getElem_cons_zero, Act.put, List.setIfInBounds_toArray, List.set_cons_zero, List.set_cons_succ])
      refine wpAnyH_take (i := 2) (v := ?_) rfl (by kernel_rfl) (by kernel_rfl) (by kernel_rfl) (fun _ _ _ h => h) (Or.inl ⟨by rfl, ?_⟩) (by assumption) ?_
      rotate_left
      · (intro w hSw; (try dsimp only at hSw); go_simp; (try with_reducible rfl))
      (try simp only [List.getElem_toArray, List.getElem_cons_succ, List.getElem_cons_zero, Act.put, List.setIfInBounds_toArray, List.set_cons_zero, List.set_cons_succ])
      refine wpAnyH_ready (rs := [4, 9]) (by kernel_rfl) (by simp) (AllReadyH.cons (o := _) rfl (fun K hK => ?_) (AllReadyH.cons (o := _) rfl (fun K hK => ?_) AllReadyH.nil))
      · go_simp
        go_at_call 29
        refine (nden_v (g2.below hG)).mono ?_
        rintro e y11_2 ⟨A4, n4, c4, rfl, g4, hb9⟩
        have szy11_2 := hb9.size
        replace g7 := g7.below hb9
        replace hG := hG.trans (hb9.mono sG)
        replace sG := hG.size
        clear hb9
        go_wp2_with fail
        refine hK.out _ _ ⟨(b2.below hG).cell 0 _ rfl, (b2.below hG).cell 1 _ rfl, (b2.below hG).cell 2 _ rfl⟩ (fun hHeld => ?_)
        clear hK K
        (try simp only [List.getElem_toArray, List.getElem_cons_succ, List.getElem_cons_zero, Act.put, List.setIfInBounds_toArray, List.set_cons_zero, List.set_cons_succ])
        refine wpAnyH_ready (rs := [5, 9]) (by kernel_rfl) (by simp) (AllReadyH.cons (o := _) rfl (fun K hK => ?_) (AllReadyH.cons (o := _) rfl (fun K hK => ?_) AllReadyH.nil))
        · go_simp
          go_at_call 28
          refine (nfloor_o g7 g4 HP.out (by omega) (by omega)).mono ?_
          rintro e y11_3 ⟨s8, A8, n8, c8, A6, n6, c6, rfl, g8, _, hb9⟩
          have szy11_3 := hb9.size
          replace g7 := g7.below hb9
          replace g4 := g4.below hb9
          replace hG := hG.trans (hb9.mono sG)
          replace sG := hG.size
          clear hb9
          clear g4
          clear g7
          go_wp2_with fail
          refine hK.out _ _ ⟨(b2.below hG).cell 0 _ rfl, (b2.below hG).cell 1 _ rfl, (b2.below hG).cell 2 _ rfl⟩ (fun hHeld => ?_)
          clear hK K
          (try simp only [List.getElem_toArray, List.getElem_cons_succ, List.getElem_cons_zero, Act.put, List.setIfInBounds_toArray, List.set_cons_zero, List.set_cons_succ])
          refine wpAnyH_take (i := 6) (v := ?_) rfl (by kernel_rfl) (by kernel_rfl) (by kernel_rfl) (fun _ _ _ h => h) (Or.inl ⟨by rfl, ?_⟩) (by assumption) ?_
          rotate_left
          · (intro w hSw; (try dsimp only at hSw); go_simp; (try with_reducible rfl))
          (try simp only [List.getElem_toArray, List.getElem_cons_succ, List.getElem_cons_zero, Act.put, List.setIfInBounds_toArray, List.set_cons_zero, List.set_cons_succ])
          refine wpAnyH_take (i := 7) (v := ?_) rfl (by kernel_rfl) (by kernel_rfl) (by kernel_rfl) (fun _ _ _ h => h) (Or.inl ⟨by rfl, ?_⟩) (by assumption) ?_
          rotate_left
          · (intro w hSw; (try dsimp only at hSw); go_simp; (try with_reducible rfl))
          (try simp only [List.getElem_toArray, List.getElem_cons_succ, List.getElem_cons_zero, Act.put, List.setIfInBounds_toArray, List.set_cons_zero, List.set_cons_succ])
          refine wpAnyH_take (i := 8) (v := ?_) rfl (by kernel_rfl) (by kernel_rfl) (by kernel_rfl) (fun _ _ _ h => h) (Or.inl ⟨by rfl, ?_⟩) (by assumption) ?_
          rotate_left
          · (intro w hSw; (try dsimp only at hSw); go_simp; (try with_reducible rfl))
          (try simp only [List.getElem_toArray, List.getElem_cons_succ, List.getElem_cons_zero, Act.put, List.setIfInBounds_toArray, List.set_cons_zero, List.set_cons_succ])
          refine wpAnyH_ready (rs := [9]) (by kernel_rfl) (by simp) (AllReadyH.cons (o := _) rfl (fun K hK => ?_) AllReadyH.nil)
          go_simp
          obtain ⟨y11_4, hV, b6, hb9, szy11_4⟩ := boxes1 y11_3 #[.bool false, .slice none 0 0] 32
          rw [hV]
          clear hV
          have gly11_4 : wc.heap.size ≤ y11_3.heap.size := sG
          replace szy11_4 : y11_3.heap.size < y11_4.heap.size := by omega
          replace g8 := g8.below hb9
          replace hG := hG.trans (hb9.mono sG)
          replace sG := hG.size
          clear hb9
          refine hK.out _ _ ⟨(b2.below hG).cell 0 _ rfl, (b2.below hG).cell 1 _ rfl, (b2.below hG).cell 2 _ rfl⟩ (fun hHeld => ?_)
          clear hK K
          (try simp only [List.getElem_toArray, List.getElem_cons_succ, List.getElem_cons_zero, Act.put, List.setIfInBounds_toArray, List.set_cons_zero, List.set_cons_succ])
          have rb60 := b6.cell 0 _ rfl
          have qb60 := b6.frozen 0
          have rb61 := b6.cell 1 _ rfl
          have qb61 := b6.frozen 1
          refine wpAnyH_ready (rs := [10]) (by kernel_rfl) (by simp) (AllReadyH.cons (o := _) rfl (fun K hK => ?_) AllReadyH.nil)
          go_simp
          clear rb60 qb60
          clear rb61 qb61
          have hg := only_store y11_4 (y11_3.heap.size) (.bool s8) (.slice A8 n8 c8)
          have hB := b6.stored (.bool s8) (.slice A8 n8 c8)
          generalize hX : ((y11_4.setCell ⟨y11_3.heap.size, 0, none⟩ (.bool s8)).setCell ⟨y11_3.heap.size, 1, none⟩ (.slice A8 n8 c8)) = Y11_5 at hg hB ⊢
          clear hX
          replace g8 := g8.kept b6 (by simp [notInt]) hg
          replace b6 := hB
          replace hG := below_only hG hg (by omega) sG
          replace sG := hG.size
          clear hg hB
          refine hK.out _ _ ⟨(b2.below hG).cell 0 _ rfl, (b2.below hG).cell 1 _ rfl, (b2.below hG).cell 2 _ rfl⟩ (fun hHeld => ?_)
          clear hK K
          (try simp only [List.getElem_toArray, List.getElem_cons_succ, List.getElem_cons_zero, Act.put, List.setIfInBounds_toArray, List.set_cons_zero, List.set_cons_succ])
          refine wpAnyH_take (i := 11) (v := ?_) rfl (by kernel_rfl) (by kernel_rfl) (by kernel_rfl) (fun _ _ _ h => h) (Or.inl ⟨by rfl, ?_⟩) (by assumption) ?_
          rotate_left
          · (intro w hSw; (try dsimp only at hSw); go_simp; (try with_reducible rfl))
          (try simp only [List.getElem_toArray, List.getElem_cons_succ, List.getElem_cons_zero, Act.put, List.setIfInBounds_toArray, List.set_cons_zero, List.set_cons_succ])
          refine wpAnyH_done (by kernel_rfl) ?_ _
          refine NoPanic.normal ?_
          go_wp2_with fail
          go_meet
          exact ⟨y11_3.heap.size, s8, A8, n8, c8, rfl, g8.more (by omega), b6, (by omega), hG⟩
        · go_simp
          obtain ⟨y11_6, hV, b6, hb9, szy11_6⟩ := boxes1 y11_2 #[.bool false, .slice none 0 0] 32
          rw [hV]
          clear hV
          have gly11_6 : wc.heap.size ≤ y11_2.heap.size := sG
          replace szy11_6 : y11_2.heap.size < y11_6.heap.size := by omega
          replace g7 := g7.below hb9
          replace g4 := g4.below hb9
          replace hG := hG.trans (hb9.mono sG)
          replace sG := hG.size
          clear hb9
          refine hK.out _ _ ⟨(b2.below hG).cell 0 _ rfl, (b2.below hG).cell 1 _ rfl, (b2.below hG).cell 2 _ rfl⟩ (fun hHeld => ?_)
          clear hK K
          (try simp only [List.getElem_toArray, List.getElem_cons_succ, List.getElem_cons_zero, Act.put, List.setIfInBounds_toArray, List.set_cons_zero, List.set_cons_succ])
          refine wpAnyH_ready (rs := [5]) (by kernel_rfl) (by simp) (AllReadyH.cons (o := _) rfl (fun K hK => ?_) AllReadyH.nil)
          go_simp
          go_at_call 28
          refine (nfloor_o g7 g4 HP.out (by omega) (by omega)).mono ?_
          rintro e y11_7 ⟨s8, A8, n8, c8, A6, n6, c6, rfl, g8, _, hb9⟩
          have szy11_7 := hb9.size
          replace g7 := g7.below hb9
          replace g4 := g4.below hb9
          replace b6 := b6.below hb9
          replace hG := hG.trans (hb9.mono sG)
          replace sG := hG.size
          clear hb9
          clear g4
          clear g7
          go_wp2_with fail
          refine hK.out _ _ ⟨(b2.below hG).cell 0 _ rfl, (b2.below hG).cell 1 _ rfl, (b2.below hG).cell 2 _ rfl⟩ (fun hHeld => ?_)
          clear hK K
          (try simp only [List.getElem_toArray, List.getElem_cons_succ, List.getElem_cons_zero, Act.put, List.setIfInBounds_toArray, List.set_cons_zero, List.set_cons_succ])
          refine wpAnyH_take (i := 6) (v := ?_) rfl (by kernel_rfl) (by kernel_rfl) (by kernel_rfl) (fun _ _ _ h => h) (Or.inl ⟨by rfl, ?_⟩) (by assumption) ?_
          rotate_left
          · (intro w hSw; (try dsimp only at hSw); go_simp; (try with_reducible rfl))
          (try simp only [List.getElem_toArray, List.getElem_cons_succ, List.getElem_cons_zero, Act.put, List.setIfInBounds_toArray, List.set_cons_zero, List.set_cons_succ])
          refine wpAnyH_take (i := 7) (v := ?_) rfl (by kernel_rfl) (by kernel_rfl) (by kernel_rfl) (fun _ _ _ h => h) (Or.inl ⟨by rfl, ?_⟩) (by assumption) ?_
          rotate_left
          · (intro w hSw; (try dsimp only at hSw); go_simp; (try with_reducible rfl))
          (try simp only [List.getElem_toArray, List.getElem_cons_succ, List.getElem_cons_zero, Act.put, List.setIfInBounds_toArray, List.set_cons_zero, List.set_cons_succ])
          refine wpAnyH_take (i := 8) (v := ?_) rfl (by kernel_rfl) (by kernel_rfl) (by kernel_rfl) (fun _ _ _ h => h) (Or.inl ⟨by rfl, ?_⟩) (by assumption) ?_
          rotate_left
          · (intro w hSw; (try dsimp only at hSw); go_simp; (try with_reducible rfl))
          (try simp only [List.getElem_toArray, List.getElem_cons_succ, List.getElem_cons_zero, Act.put, List.setIfInBounds_toArray, List.set_cons_zero, List.set_cons_succ])
          have rb60 := b6.cell 0 _ rfl
          have qb60 := b6.frozen 0
          have rb61 := b6.cell 1 _ rfl
          have qb61 := b6.frozen 1
          refine wpAnyH_ready (rs := [10]) (by kernel_rfl) (by simp) (AllReadyH.cons (o := _) rfl (fun K hK => ?_) AllReadyH.nil)
          go_simp
          clear rb60 qb60
          clear rb61 qb61
          have hg := only_store y11_7 (y11_2.heap.size) (.bool s8) (.slice A8 n8 c8)
          have hB := b6.stored (.bool s8) (.slice A8 n8 c8)
          generalize hX : ((y11_7.setCell ⟨y11_2.heap.size, 0, none⟩ (.bool s8)).setCell ⟨y11_2.heap.size, 1, none⟩ (.slice A8 n8 c8)) = Y11_8 at hg hB ⊢
          clear hX
          replace g8 := g8.kept b6 (by simp [notInt]) hg
          replace b6 := hB
          replace hG := below_only hG hg (by omega) sG
          replace sG := hG.size
          clear hg hB
          refine hK.out _ _ ⟨(b2.below hG).cell 0 _ rfl, (b2.below hG).cell 1 _ rfl, (b2.below hG).cell 2 _ rfl⟩ (fun hHeld => ?_)
          clear hK K
          (try simp only [List.getElem_toArray, List.getElem_cons_succ, List.getElem_cons_zero, Act.put, List.setIfInBounds_toArray, List.set_cons_zero, List.set_cons_succ])
          refine wpAnyH_take (i := 11) (v := ?_) rfl (by kernel_rfl) (by kernel_rfl) (by kernel_rfl) (fun _ _ _ h => h) (Or.inl ⟨by rfl, ?_⟩) (by assumption) ?_
          rotate_left
          · (intro w hSw; (try dsimp only at hSw); go_simp; (try with_reducible rfl))
          (try simp only [List.getElem_toArray, List.getElem_cons_succ, List.getElem_cons_zero, Act.put, List.setIfInBounds_toArray, List.set_cons_zero, List.set_cons_succ])
          refine wpAnyH_done (by kernel_rfl) ?_ _
          refine NoPanic.normal ?_
          go_wp2_with fail
          go_meet
          exact ⟨y11_2.heap.size, s8, A8, n8, c8, rfl, g8.more (by omega), b6, (by omega), hG⟩
      · go_simp
        obtain ⟨y11_9, hV, b6, hb9, szy11_9⟩ := boxes1 y11_1 #[.bool false, .slice none 0 0] 32
        rw [hV]
        clear hV
        have gly11_9 : wc.heap.size ≤ y11_1.heap.size := sG
        replace szy11_9 : y11_1.heap.size < y11_9.heap.size := by omega
        replace g7 := g7.below hb9
        replace hG := hG.trans (hb9.mono sG)
        replace sG := hG.size
        clear hb9
        refine hK.out _ _ ⟨(b2.below hG).cell 0 _ rfl, (b2.below hG).cell 1 _ rfl, (b2.below hG).cell 2 _ rfl⟩ (fun hHeld => ?_)
        clear hK K
        (try simp only [List.getElem_toArray, List.getElem_cons_succ, List.getElem_cons_zero, Act.put, List.setIfInBounds_toArray, List.set_cons_zero, List.set_cons_succ])
        refine wpAnyH_ready (rs := [4]) (by kernel_rfl) (by simp) (AllReadyH.cons (o := _) rfl (fun K hK => ?_) AllReadyH.nil)
        go_simp
        go_at_call 29
        refine (nden_v (g2.below hG)).mono ?_
        rintro e y11_10 ⟨A4, n4, c4, rfl, g4, hb9⟩
        have szy11_10 := hb9.size
        replace g7 := g7.below hb9
        replace b6 := b6.below hb9
        replace hG := hG.trans (hb9.mono sG)
        replace sG := hG.size
        clear hb9
        go_wp2_with fail
        refine hK.out _ _ ⟨(b2.below hG).cell 0 _ rfl, (b2.below hG).cell 1 _ rfl, (b2.below hG).cell 2 _ rfl⟩ (fun hHeld => ?_)
        clear hK K
        (try simp only [List.getElem_toArray, List.getElem_cons_succ, List.getElem_cons_zero, Act.put, List.setIfInBounds_toArray, List.set_cons_zero, List.set_cons_succ])
        refine wpAnyH_ready (rs := [5]) (by kernel_rfl) (by simp) (AllReadyH.cons (o := _) rfl (fun K hK => ?_) AllReadyH.nil)
        go_simp
        go_at_call 28
        refine (nfloor_o g7 g4 HP.out (by omega) (by omega)).mono ?_
        rintro e y11_11 ⟨s8, A8, n8, c8, A6, n6, c6, rfl, g8, _, hb9⟩
        have szy11_11 := hb9.size
        replace g7 := g7.below hb9
        replace g4 := g4.below hb9
        replace b6 := b6.below hb9
        replace hG := hG.trans (hb9.mono sG)
        replace sG := hG.size
        clear hb9
        clear g4
        clear g7
        go_wp2_with fail
        refine hK.out _ _ ⟨(b2.below hG).cell 0 _ rfl, (b2.below hG).cell 1 _ rfl, (b2.below hG).cell 2 _ rfl⟩ (fun hHeld => ?_)
        clear hK K
        (try simp only [List.getElem_toArray, List.getElem_cons_succ, List.getElem_cons_zero, Act.put, List.setIfInBounds_toArray, List.set_cons_zero, List.set_cons_succ])
        refine wpAnyH_take (i := 6) (v := ?_) rfl (by kernel_rfl) (by kernel_rfl) (by kernel_rfl) (fun _ _ _ h => h) (Or.inl ⟨by rfl, ?_⟩) (by assumption) ?_
        rotate_left
        · (intro w hSw; (try dsimp only at hSw); go_simp; (try with_reducible rfl))
        (try simp only [List.getElem_toArray, List.getElem_cons_succ, List.getElem_cons_zero, Act.put, List.setIfInBounds_toArray, List.set_cons_zero, List.set_cons_succ])
        refine wpAnyH_take (i := 7) (v := ?_) rfl (by kernel_rfl) (by kernel_rfl) (by kernel_rfl) (fun _ _ _ h => h) (Or.inl ⟨by rfl, ?_⟩) (by assumption) ?_
        rotate_left
        · (intro w hSw; (try dsimp only at hSw); go_simp; (try with_reducible rfl))
        (try simp only [List.getElem_toArray, List.getElem_cons_succ, List.getElem_cons_zero, Act.put, List.setIfInBounds_toArray, List.set_cons_zero, List.set_cons_succ])
        refine wpAnyH_take (i := 8) (v := ?_) rfl (by kernel_rfl) (by kernel_rfl) (by kernel_rfl) (fun _ _ _ h => h) (Or.inl ⟨by rfl, ?_⟩) (by assumption) ?_
        rotate_left
        · (intro w hSw; (try dsimp only at hSw); go_simp; (try with_reducible rfl))
        (try simp only [List.getElem_toArray, List.getElem_cons_succ, List.getElem_cons_zero, Act.put, List.setIfInBounds_toArray, List.set_cons_zero, List.set_cons_succ])
        have rb60 := b6.cell 0 _ rfl
        have qb60 := b6.frozen 0
        have rb61 := b6.cell 1 _ rfl
        have qb61 := b6.frozen 1
        refine wpAnyH_ready (rs := [10]) (by kernel_rfl) (by simp) (AllReadyH.cons (o := _) rfl (fun K hK => ?_) AllReadyH.nil)
        go_simp
        clear rb60 qb60
        clear rb61 qb61
        have hg := only_store y11_11 (y11_1.heap.size) (.bool s8) (.slice A8 n8 c8)
        have hB := b6.stored (.bool s8) (.slice A8 n8 c8)
        generalize hX : ((y11_11.setCell ⟨y11_1.heap.size, 0, none⟩ (.bool s8)).setCell ⟨y11_1.heap.size, 1, none⟩ (.slice A8 n8 c8)) = Y11_12 at hg hB ⊢
        clear hX
        replace g8 := g8.kept b6 (by simp [notInt]) hg
        replace b6 := hB
        replace hG := below_only hG hg (by omega) sG
        replace sG := hG.size
        clear hg hB
        refine hK.out _ _ ⟨(b2.below hG).cell 0 _ rfl, (b2.below hG).cell 1 _ rfl, (b2.below hG).cell 2 _ rfl⟩ (fun hHeld => ?_)
        clear hK K
        (try simp only [List.getElem_toArray, List.getElem_cons_succ, List.getElem_cons_zero, Act.put, List.setIfInBounds_toArray, List.set_cons_zero, List.set_cons_succ])
        refine wpAnyH_take (i := 11) (v := ?_) rfl (by kernel_rfl) (by kernel_rfl) (by kernel_rfl) (fun _ _ _ h => h) (Or.inl ⟨by rfl, ?_⟩) (by assumption) ?_
        rotate_left
        · (intro w hSw; (try dsimp only at hSw); go_simp; (try with_reducible rfl))
        (try simp only [List.getElem_toArray, List.getElem_cons_succ, List.getElem_cons_zero, Act.put, List.setIfInBounds_toArray, List.set_cons_zero, List.set_cons_succ])
        refine wpAnyH_done (by kernel_rfl) ?_ _
        refine NoPanic.normal ?_
        go_wp2_with fail
        go_meet
        exact ⟨y11_1.heap.size, s8, A8, n8, c8, rfl, g8.more (by omega), b6, (by omega), hG⟩
    · go_simp
      obtain ⟨y11_13, hV, b6, hb9, szy11_13⟩ := boxes1 v11 #[.bool false, .slice none 0 0] 32
      rw [hV]
      clear hV
      have gly11_13 : wc.heap.size ≤ v11.heap.size := sG
      replace szy11_13 : v11.heap.size < y11_13.heap.size := by omega
      replace hG := hG.trans (hb9.mono sG)
      replace sG := hG.size
      clear hb9
      refine hK.out _ _ ⟨(b2.below hG).cell 0 _ rfl, (b2.below hG).cell 1 _ rfl, (b2.below hG).cell 2 _ rfl⟩ (fun hHeld => ?_)
      clear hK K
      (try simp only [List.getElem_toArray, List.getElem_cons_succ, List.getElem_cons_zero, Act.put, List.setIfInBounds_toArray, List.set_cons_zero, List.set_cons_succ])
      refine wpAnyH_ready (rs := [1]) (by kernel_rfl) (by simp) (AllReadyH.cons (o := _) rfl (fun K hK => ?_) AllReadyH.nil)
      go_simp
      go_at_call 30
      refine (nopp_v (g2.below hG)).mono ?_
      rintro e y11_14 ⟨s7, rfl, g7, hb9⟩
      have szy11_14 := hb9.size
      replace b6 := b6.below hb9
      replace hG := hG.trans (hb9.mono sG)
      replace sG := hG.size
      clear hb9
      go_wp2_with fail
      refine hK.out _ _ ⟨(b2.below hG).cell 0 _ rfl, (b2.below hG).cell 1 _ rfl, (b2.below hG).cell 2 _ rfl⟩ (fun hHeld => ?_)
      clear hK K
      (try simp only [List.getElem_toArray, List.getElem_cons_succ, List.getElem_cons_zero, Act.put, List.setIfInBounds_toArray, List.set_cons_zero, List.set_cons_succ])
      refine wpAnyH_take (i := 2) (v := ?_) rfl (by kernel_rfl) (by kernel_rfl) (by kernel_rfl) (fun _ _ _ h => h) (Or.inl ⟨by rfl, ?_⟩) (by assumption) ?_
      rotate_left
      · (intro w hSw; (try dsimp only at hSw); go_simp; (try with_reducible rfl))
      (try simp only [List.getElem_toArray, List.getElem_cons_succ, List.getElem_cons_zero, Act.put, List.setIfInBounds_toArray, List.set_cons_zero, List.set_cons_succ])
      refine wpAnyH_ready (rs := [4]) (by kernel_rfl) (by simp) (AllReadyH.cons (o := _) rfl (fun K hK => ?_) AllReadyH.nil)
      go_simp
      go_at_call 29
      refine (nden_v (g2.below hG)).mono ?_
      rintro e y11_15 ⟨A4, n4, c4, rfl, g4, hb9⟩
      have szy11_15 := hb9.size
      replace g7 := g7.below hb9
      replace b6 := b6.below hb9
      replace hG := hG.trans (hb9.mono sG)
      replace sG := hG.size
      clear hb9
      go_wp2_with fail
      refine hK.out _ _ ⟨(b2.below hG).cell 0 _ rfl, (b2.below hG).cell 1 _ rfl, (b2.below hG).cell 2 _ rfl⟩ (fun hHeld => ?_)
      clear hK K
      (try simp only [List.getElem_toArray, List.getElem_cons_succ, List.getElem_cons_zero, Act.put, List.setIfInBounds_toArray, List.set_cons_zero, List.set_cons_succ])
      refine wpAnyH_ready (rs := [5]) (by kernel_rfl) (by simp) (AllReadyH.cons (o := _) rfl (fun K hK => ?_) AllReadyH.nil)
      go_simp
      go_at_call 28
      refine (nfloor_o g7 g4 HP.out (by omega) (by omega)).mono ?_
      rintro e y11_16 ⟨s8, A8, n8, c8, A6, n6, c6, rfl, g8, _, hb9⟩
      have szy11_16 := hb9.size
      replace g7 := g7.below hb9
      replace g4 := g4.below hb9
      replace b6 := b6.below hb9
      replace hG := hG.trans (hb9.mono sG)
      replace sG := hG.size
      clear hb9
      clear g4
      clear g7
      go_wp2_with fail
      refine hK.out _ _ ⟨(b2.below hG).cell 0 _ rfl, (b2.below hG).cell 1 _ rfl, (b2.below hG).cell 2 _ rfl⟩ (fun hHeld => ?_)
      clear hK K
      (try simp only [List.getElem_toArray, List.getElem_cons_succ, List.getElem_cons_zero, Act.put, List.setIfInBounds_toArray, List.set_cons_zero, List.set_cons_succ])
      refine wpAnyH_take (i := 6) (v := ?_) rfl (by kernel_rfl) (by kernel_rfl) (by kernel_rfl) (fun _ _ _ h => h) (Or.inl ⟨by rfl, ?_⟩) (by assumption) ?_
      rotate_left
      · (intro w hSw; (try dsimp only at hSw); go_simp; (try with_reducible rfl))
      (try simp only [List.getElem_toArray, List.getElem_cons_succ, List.getElem_cons_zero, Act.put, List.setIfInBounds_toArray, List.set_cons_zero, List.set_cons_succ])
      refine wpAnyH_take (i := 7) (v := ?_) rfl (by kernel_rfl) (by kernel_rfl) (by kernel_rfl) (fun _ _ _ h => h) (Or.inl ⟨by rfl, ?_⟩) (by assumption) ?_
      rotate_left
      · (intro w hSw; (try dsimp only at hSw); go_simp; (try with_reducible rfl))
      (try simp only [List.getElem_toArray, List.getElem_cons_succ, List.getElem_cons_zero, Act.put, List.setIfInBounds_toArray, List.set_cons_zero, List.set_cons_succ])
      refine wpAnyH_take (i := 8) (v := ?_) rfl (by kernel_rfl) (by kernel_rfl) (by kernel_rfl) (fun _ _ _ h => h) (Or.inl ⟨by rfl, ?_⟩) (by assumption) ?_
      rotate_left
      · (intro w hSw; (try dsimp only at hSw); go_simp; (try with_reducible rfl))
      (try simp only [List.getElem_toArray, List.getElem_cons_succ, List.getElem_cons_zero, Act.put, List.setIfInBounds_toArray, List.set_cons_zero, List.set_cons_succ])
      have rb60 := b6.cell 0 _ rfl
      have qb60 := b6.frozen 0
      have rb61 := b6.cell 1 _ rfl
      have qb61 := b6.frozen 1
      refine wpAnyH_ready (rs := [10]) (by kernel_rfl) (by simp) (AllReadyH.cons (o := _) rfl (fun K hK => ?_) AllReadyH.nil)
      go_simp
      clear rb60 qb60
      clear rb61 qb61
      have hg := only_store y11_16 (v11.heap.size) (.bool s8) (.slice A8 n8 c8)
      have hB := b6.stored (.bool s8) (.slice A8 n8 c8)
      generalize hX : ((y11_16.setCell ⟨v11.heap.size, 0, none⟩ (.bool s8)).setCell ⟨v11.heap.size, 1, none⟩ (.slice A8 n8 c8)) = Y11_17 at hg hB ⊢
      clear hX
      replace g8 := g8.kept b6 (by simp [notInt]) hg
      replace b6 := hB
      replace hG := below_only hG hg (by omega) sG
      replace sG := hG.size
      clear hg hB
      refine hK.out _ _ ⟨(b2.below hG).cell 0 _ rfl, (b2.below hG).cell 1 _ rfl, (b2.below hG).cell 2 _ rfl⟩ (fun hHeld => ?_)
      clear hK K
      (try simp only [List.getElem_toArray, List.getElem_cons_succ, List.getElem_cons_zero, Act.put, List.setIfInBounds_toArray, List.set_cons_zero, List.set_cons_succ])
      refine wpAnyH_take (i := 11) (v := ?_) rfl (by kernel_rfl) (by kernel_rfl) (by kernel_rfl) (fun _ _ _ h => h) (Or.inl ⟨by rfl, ?_⟩) (by assumption) ?_
      rotate_left
      · (intro w hSw; (try dsimp only at hSw); go_simp; (try with_reducible rfl))
      (try simp only [List.getElem_toArray, List.getElem_cons_succ, List.getElem_cons_zero, Act.put, List.setIfInBounds_toArray, List.set_cons_zero, List.set_cons_succ])
      refine wpAnyH_done (by kernel_rfl) ?_ _
      refine NoPanic.normal ?_
      go_wp2_with fail
      go_meet
      exact ⟨v11.heap.size, s8, A8, n8, c8, rfl, g8.more (by omega), b6, (by omega), hG⟩
  obtain ⟨g11_0, s8, A8, n8, c8, rfl, g8, b6, glg11_0, hG⟩ := hcut
  replace f0 := f0.below hG
  replace f1 := f1.below hG
  replace g2 := g2.below hG
  replace g3 := g3.below hG
  replace g5 := g5.below hG
  replace b0 := b0.below hG
  replace b1 := b1.below hG
  replace b2 := b2.below hG
  replace b3 := b3.below hG
  replace b5 := b5.below hG
  replace H0 := H0.trans (hG.mono H0.size)
  clear hG
  have cb00 := b0.cell 0 _ rfl
  have cb01 := b0.cell 1 _ rfl
  have cb02 := b0.cell 2 _ rfl
  have cb10 := b1.cell 0 _ rfl
  have cb11 := b1.cell 1 _ rfl
  have cb12 := b1.cell 2 _ rfl
  have cb20 := b2.cell 0 _ rfl
  have cb21 := b2.cell 1 _ rfl
  have cb22 := b2.cell 2 _ rfl
  have cb30 := b3.cell 0 _ rfl
  have cb31 := b3.cell 1 _ rfl
  have cb32 := b3.cell 2 _ rfl
  have cb50 := b5.cell 0 _ rfl
  have cb51 := b5.cell 1 _ rfl
  have cb60 := b6.cell 0 _ rfl
  have cb61 := b6.cell 1 _ rfl
  go_wp2_with fail
  clear cb00 cb01 cb02 cb10 cb11 cb12 cb20 cb21 cb22 cb30 cb31 cb32 cb50 cb51 cb60 cb61
  have hD := drawn_below wc
  replace f0 := f0.below hD
  replace f1 := f1.below hD
  replace g2 := g2.below hD
  replace g3 := g3.below hD
  replace g5 := g5.below hD
  replace g8 := g8.below hD
  replace b0 := b0.below hD
  replace b1 := b1.below hD
  replace b2 := b2.below hD
  replace b3 := b3.below hD
  replace b5 := b5.below hD
  replace b6 := b6.below hD
  replace H0 := H0.trans (hD.mono H0.size)
  clear hD
  refine wp_region_noPanic ?_
  refine wp_region_held_drew (S := (fun V => V.cell? ⟨w3.heap.size, 0, none⟩ = some (.bool s0) ∧ V.cell? ⟨w3.heap.size, 1, none⟩ = some (.slice A0 n0 c0) ∧ V.cell? ⟨w3.heap.size, 2, none⟩ = some (.slice D0 m0 e0) ∧ V.cell? ⟨w3.heap.size + 1, 0, none⟩ = some (.bool s1) ∧ V.cell? ⟨w3.heap.size + 1, 1, none⟩ = some (.slice A1 n1 c1) ∧ V.cell? ⟨w3.heap.size + 1, 2, none⟩ = some (.slice D1 m1 e1) ∧ V.cell? ⟨g5_0, 0, none⟩ = some (.bool s2) ∧ V.cell? ⟨g5_0, 1, none⟩ = some (.slice A2 n2 c2) ∧ V.cell? ⟨g5_0, 2, none⟩ = some (.slice D2 m2 e2) ∧ V.cell? ⟨g5_1, 0, none⟩ = some (.bool s3) ∧ V.cell? ⟨g5_1, 1, none⟩ = some (.slice A3 n3 c3) ∧ V.cell? ⟨g5_1, 2, none⟩ = some (.slice D3 m3 e3) ∧ V.cell? ⟨g9_0, 0, none⟩ = some (.bool s5) ∧ V.cell? ⟨g9_0, 1, none⟩ = some (.slice A5 n5 c5) ∧ V.cell? ⟨g11_0, 0, none⟩ = some (.bool s8) ∧ V.cell? ⟨g11_0, 1, none⟩ = some (.slice A8 n8 c8))) (by kernel_rfl) ⟨b0.cell 0 _ rfl, b0.cell 1 _ rfl, b0.cell 2 _ rfl, b1.cell 0 _ rfl, b1.cell 1 _ rfl, b1.cell 2 _ rfl, b2.cell 0 _ rfl, b2.cell 1 _ rfl, b2.cell 2 _ rfl, b3.cell 0 _ rfl, b3.cell 1 _ rfl, b3.cell 2 _ rfl, b5.cell 0 _ rfl, b5.cell 1 _ rfl, b6.cell 0 _ rfl, b6.cell 1 _ rfl⟩ (fun hHeld => ?_)
  generalize wc.drew = v13 at H0 hHeld f0 f1 g2 g3 g5 g8 b0 b1 b2 b3 b5 b6 ⊢
  refine wpAnyH_ready (rs := [0]) (by kernel_rfl) (by simp) (AllReadyH.cons (o := _) rfl (fun K hK => ?_) AllReadyH.nil)
  go_simp
  go_at_call 10
  refine (HK.out _ H0).mono ?_
  rintro e w14 ⟨rfl, hb⟩
  replace f0 := f0.below hb
  replace f1 := f1.below hb
  replace g2 := g2.below hb
  replace g3 := g3.below hb
  replace g5 := g5.below hb
  replace g8 := g8.below hb
  replace b0 := b0.below hb
  replace b1 := b1.below hb
  replace b2 := b2.below hb
  replace b3 := b3.below hb
  replace b5 := b5.below hb
  replace b6 := b6.below hb
  replace H0 := H0.trans (hb.mono H0.size)
  clear hb
  go_wp2_with fail
  refine hK.out _ _ ⟨b0.cell 0 _ rfl, b0.cell 1 _ rfl, b0.cell 2 _ rfl, b1.cell 0 _ rfl, b1.cell 1 _ rfl, b1.cell 2 _ rfl, b2.cell 0 _ rfl, b2.cell 1 _ rfl, b2.cell 2 _ rfl, b3.cell 0 _ rfl, b3.cell 1 _ rfl, b3.cell 2 _ rfl, b5.cell 0 _ rfl, b5.cell 1 _ rfl, b6.cell 0 _ rfl, b6.cell 1 _ rfl⟩ (fun hHeld => ?_)
  clear hK K
  (try simp only [List.getElem_toArray, List.getElem_cons_succ, List.getElem_cons_zero, Act.put, List.setIfInBounds_toArray, List.set_cons_zero, List.set_cons_succ])
  refine wpAnyH_take (i := 1) (v := ?_) rfl (by kernel_rfl) (by kernel_rfl) (by kernel_rfl) (fun _ _ _ h => h) (Or.inl ⟨by rfl, ?_⟩) (by assumption) ?_
  rotate_left
  · (intro w hSw; (try dsimp only at hSw); go_simp; (try with_reducible rfl))
  (try simp only [List.getElem_toArray, List.getElem_cons_succ, List.getElem_cons_zero, Act.put, List.setIfInBounds_toArray, List.set_cons_zero, List.set_cons_succ])
  refine wpAnyH_take (i := 2) (v := ?_) rfl (by kernel_rfl) (by kernel_rfl) (by kernel_rfl) (fun _ _ _ h => h) (Or.inl ⟨by rfl, ?_⟩) (by assumption) ?_
  rotate_left
  · (intro w hSw; (try dsimp only at hSw); go_simp; (try with_reducible rfl))
  (try simp only [List.getElem_toArray, List.getElem_cons_succ, List.getElem_cons_zero, Act.put, List.setIfInBounds_toArray, List.set_cons_zero, List.set_cons_succ])
  refine wpAnyH_take (i := 4) (v := ?_) rfl (by kernel_rfl) (by kernel_rfl) (by kernel_rfl) (fun _ _ _ h => h) (Or.inl ⟨by rfl, ?_⟩) (by assumption) ?_
  rotate_left
  · (intro w hSw; (try dsimp only at hSw); go_simp; (try with_reducible rfl))
  (try simp only [List.getElem_toArray, List.getElem_cons_succ, List.getElem_cons_zero, Act.put, List.setIfInBounds_toArray, List.set_cons_zero, List.set_cons_succ])
  refine wpAnyH_ready (rs := [3]) (by kernel_rfl) (by simp) (AllReadyH.cons (o := _) rfl (fun K hK => ?_) AllReadyH.nil)
  go_simp
  go_at_call 31
  refine (rneg_v f0 (by omega)).mono ?_
  rintro e w15 ⟨s10, A10, n10, c10, D10, m10, e10, rfl, g10, hb⟩
  replace f0 := f0.below hb
  replace f1 := f1.below hb
  replace g2 := g2.below hb
  replace g3 := g3.below hb
  replace g5 := g5.below hb
  replace g8 := g8.below hb
  replace b0 := b0.below hb
  replace b1 := b1.below hb
  replace b2 := b2.below hb
  replace b3 := b3.below hb
  replace b5 := b5.below hb
  replace b6 := b6.below hb
  replace H0 := H0.trans (hb.mono H0.size)
  clear hb
  go_wp2_with fail
  refine hK.out _ _ ⟨b0.cell 0 _ rfl, b0.cell 1 _ rfl, b0.cell 2 _ rfl, b1.cell 0 _ rfl, b1.cell 1 _ rfl, b1.cell 2 _ rfl, b2.cell 0 _ rfl, b2.cell 1 _ rfl, b2.cell 2 _ rfl, b3.cell 0 _ rfl, b3.cell 1 _ rfl, b3.cell 2 _ rfl, b5.cell 0 _ rfl, b5.cell 1 _ rfl, b6.cell 0 _ rfl, b6.cell 1 _ rfl⟩ (fun hHeld => ?_)
  clear hK K
  (try simp only [List.getElem_toArray, List.getElem_cons_succ, List.getElem_cons_zero, Act.put, List.setIfInBounds_toArray, List.set_cons_zero, List.set_cons_succ])
  refine wpAnyH_ready (rs := [5]) (by kernel_rfl) (by simp) (AllReadyH.cons (o := _) rfl (fun K hK => ?_) AllReadyH.nil)
  go_simp
  go_at_call 30
  refine (nopp_v g2).mono ?_
  rintro e w16 ⟨s11, rfl, g11, hb⟩
  replace f0 := f0.below hb
  replace f1 := f1.below hb
  replace g2 := g2.below hb
  replace g3 := g3.below hb
  replace g5 := g5.below hb
  replace g8 := g8.below hb
  replace g10 := g10.below hb
  replace b0 := b0.below hb
  replace b1 := b1.below hb
  replace b2 := b2.below hb
  replace b3 := b3.below hb
  replace b5 := b5.below hb
  replace b6 := b6.below hb
  replace H0 := H0.trans (hb.mono H0.size)
  clear hb
  go_wp2_with fail
  refine hK.out _ _ ⟨b0.cell 0 _ rfl, b0.cell 1 _ rfl, b0.cell 2 _ rfl, b1.cell 0 _ rfl, b1.cell 1 _ rfl, b1.cell 2 _ rfl, b2.cell 0 _ rfl, b2.cell 1 _ rfl, b2.cell 2 _ rfl, b3.cell 0 _ rfl, b3.cell 1 _ rfl, b3.cell 2 _ rfl, b5.cell 0 _ rfl, b5.cell 1 _ rfl, b6.cell 0 _ rfl, b6.cell 1 _ rfl⟩ (fun hHeld => ?_)
  clear hK K
  (try simp only [List.getElem_toArray, List.getElem_cons_succ, List.getElem_cons_zero, Act.put, List.setIfInBounds_toArray, List.set_cons_zero, List.set_cons_succ])
  refine wpAnyH_ready (rs := [6]) (by kernel_rfl) (by simp) (AllReadyH.cons (o := _) rfl (fun K hK => ?_) AllReadyH.nil)
  go_simp
  go_at_call 14
  refine (same3_t g10 g11 (by omega) rfl).mono ?_
  rintro e w17 ⟨rfl, hb⟩
  replace f0 := f0.below hb
  replace f1 := f1.below hb
  replace g2 := g2.below hb
  replace g3 := g3.below hb
  replace g5 := g5.below hb
  replace g8 := g8.below hb
  replace g10 := g10.below hb
  replace g11 := g11.below hb
  replace b0 := b0.below hb
  replace b1 := b1.below hb
  replace b2 := b2.below hb
  replace b3 := b3.below hb
  replace b5 := b5.below hb
  replace b6 := b6.below hb
  replace H0 := H0.trans (hb.mono H0.size)
  clear hb
  clear g10
  clear g11
  go_wp2_with fail
  refine hK.out _ _ ⟨b0.cell 0 _ rfl, b0.cell 1 _ rfl, b0.cell 2 _ rfl, b1.cell 0 _ rfl, b1.cell 1 _ rfl, b1.cell 2 _ rfl, b2.cell 0 _ rfl, b2.cell 1 _ rfl, b2.cell 2 _ rfl, b3.cell 0 _ rfl, b3.cell 1 _ rfl, b3.cell 2 _ rfl, b5.cell 0 _ rfl, b5.cell 1 _ rfl, b6.cell 0 _ rfl, b6.cell 1 _ rfl⟩ (fun hHeld => ?_)
  clear hK K
  (try simp only [List.getElem_toArray, List.getElem_cons_succ, List.getElem_cons_zero, Act.put, List.setIfInBounds_toArray, List.set_cons_zero, List.set_cons_succ])
  refine wpAnyH_take (i := 7) (v := ?_) rfl (by kernel_rfl) (by kernel_rfl) (by kernel_rfl) (fun _ _ _ h => h) (Or.inl ⟨by rfl, ?_⟩) (by assumption) ?_
  rotate_left
  · (intro w hSw; (try dsimp only at hSw); go_simp; (try with_reducible rfl))
  (try simp only [List.getElem_toArray, List.getElem_cons_succ, List.getElem_cons_zero, Act.put, List.setIfInBounds_toArray, List.set_cons_zero, List.set_cons_succ])
  refine wpAnyH_take (i := 8) (v := ?_) rfl (by kernel_rfl) (by kernel_rfl) (by kernel_rfl) (fun _ _ _ h => h) (Or.inl ⟨by rfl, ?_⟩) (by assumption) ?_
  rotate_left
  · (intro w hSw; (try dsimp only at hSw); go_simp; (try with_reducible rfl))
  (try simp only [List.getElem_toArray, List.getElem_cons_succ, List.getElem_cons_zero, Act.put, List.setIfInBounds_toArray, List.set_cons_zero, List.set_cons_succ])
  refine wpAnyH_take (i := 9) (v := ?_) rfl (by kernel_rfl) (by kernel_rfl) (by kernel_rfl) (fun _ _ _ h => h) (Or.inl ⟨by rfl, ?_⟩) (by assumption) ?_
  rotate_left
  · (intro w hSw; (try dsimp only at hSw); go_simp; (try with_reducible rfl))
  (try simp only [List.getElem_toArray, List.getElem_cons_succ, List.getElem_cons_zero, Act.put, List.setIfInBounds_toArray, List.set_cons_zero, List.set_cons_succ])
  refine wpAnyH_take (i := 10) (v := ?_) rfl (by kernel_rfl) (by kernel_rfl) (by kernel_rfl) (fun _ _ _ h => h) (Or.inl ⟨by rfl, ?_⟩) (by assumption) ?_
  rotate_left
  · (intro w hSw; (try dsimp only at hSw); go_simp; (try with_reducible rfl))
  (try simp only [List.getElem_toArray, List.getElem_cons_succ, List.getElem_cons_zero, Act.put, List.setIfInBounds_toArray, List.set_cons_zero, List.set_cons_succ])
  refine wpAnyH_take (i := 12) (v := ?_) rfl (by kernel_rfl) (by kernel_rfl) (by kernel_rfl) (fun _ _ _ h => h) (Or.inl ⟨by rfl, ?_⟩) (by assumption) ?_
  rotate_left
  · (intro w hSw; (try dsimp only at hSw); go_simp; (try with_reducible rfl))
  (try simp only [List.getElem_toArray, List.getElem_cons_succ, List.getElem_cons_zero, Act.put, List.setIfInBounds_toArray, List.set_cons_zero, List.set_cons_succ])
  refine wpAnyH_take (i := 13) (v := ?_) rfl (by kernel_rfl) (by kernel_rfl) (by kernel_rfl) (fun _ _ _ h => h) (Or.inl ⟨by rfl, ?_⟩) (by assumption) ?_
  rotate_left
  · (intro w hSw; (try dsimp only at hSw); go_simp; (try with_reducible rfl))
  (try simp only [List.getElem_toArray, List.getElem_cons_succ, List.getElem_cons_zero, Act.put, List.setIfInBounds_toArray, List.set_cons_zero, List.set_cons_succ])
  refine wpAnyH_ready (rs := [11]) (by kernel_rfl) (by simp) (AllReadyH.cons (o := _) rfl (fun K hK => ?_) AllReadyH.nil)
  go_simp
  go_at_call 32
  refine (radd_v f0 f1 (by omega) (by omega)).mono ?_
  rintro e w18 ⟨s12, A12, n12, c12, D12, m12, e12, rfl, g12, hb⟩
  replace f0 := f0.below hb
  replace f1 := f1.below hb
  replace g2 := g2.below hb
  replace g3 := g3.below hb
  replace g5 := g5.below hb
  replace g8 := g8.below hb
  replace b0 := b0.below hb
  replace b1 := b1.below hb
  replace b2 := b2.below hb
  replace b3 := b3.below hb
  replace b5 := b5.below hb
  replace b6 := b6.below hb
  replace H0 := H0.trans (hb.mono H0.size)
  clear hb
  go_wp2_with fail
  refine hK.out _ _ ⟨b0.cell 0 _ rfl, b0.cell 1 _ rfl, b0.cell 2 _ rfl, b1.cell 0 _ rfl, b1.cell 1 _ rfl, b1.cell 2 _ rfl, b2.cell 0 _ rfl, b2.cell 1 _ rfl, b2.cell 2 _ rfl, b3.cell 0 _ rfl, b3.cell 1 _ rfl, b3.cell 2 _ rfl, b5.cell 0 _ rfl, b5.cell 1 _ rfl, b6.cell 0 _ rfl, b6.cell 1 _ rfl⟩ (fun hHeld => ?_)
  clear hK K
  (try simp only [List.getElem_toArray, List.getElem_cons_succ, List.getElem_cons_zero, Act.put, List.setIfInBounds_toArray, List.set_cons_zero, List.set_cons_succ])
  refine wpAnyH_ready (rs := [14]) (by kernel_rfl) (by simp) (AllReadyH.cons (o := _) rfl (fun K hK => ?_) AllReadyH.nil)
  go_simp
  go_at_call 33
  refine (nplus_v g2 g3 (by omega) (by omega)).mono ?_
  rintro e w19 ⟨s13, A13, n13, c13, D13, m13, e13, rfl, g13, hb⟩
  replace f0 := f0.below hb
  replace f1 := f1.below hb
  replace g2 := g2.below hb
  replace g3 := g3.below hb
  replace g5 := g5.below hb
  replace g8 := g8.below hb
  replace g12 := g12.below hb
  replace b0 := b0.below hb
  replace b1 := b1.below hb
  replace b2 := b2.below hb
  replace b3 := b3.below hb
  replace b5 := b5.below hb
  replace b6 := b6.below hb
  replace H0 := H0.trans (hb.mono H0.size)
  clear hb
  go_wp2_with fail
  refine hK.out _ _ ⟨b0.cell 0 _ rfl, b0.cell 1 _ rfl, b0.cell 2 _ rfl, b1.cell 0 _ rfl, b1.cell 1 _ rfl, b1.cell 2 _ rfl, b2.cell 0 _ rfl, b2.cell 1 _ rfl, b2.cell 2 _ rfl, b3.cell 0 _ rfl, b3.cell 1 _ rfl, b3.cell 2 _ rfl, b5.cell 0 _ rfl, b5.cell 1 _ rfl, b6.cell 0 _ rfl, b6.cell 1 _ rfl⟩ (fun hHeld => ?_)
  clear hK K
  (try simp only [List.getElem_toArray, List.getElem_cons_succ, List.getElem_cons_zero, Act.put, List.setIfInBounds_toArray, List.set_cons_zero, List.set_cons_succ])
  refine wpAnyH_ready (rs := [15]) (by kernel_rfl) (by simp) (AllReadyH.cons (o := _) rfl (fun K hK => ?_) AllReadyH.nil)
  go_simp
  go_at_call 14
  refine (same3_t g12 g13 (by omega) rfl).mono ?_
  rintro e w20 ⟨rfl, hb⟩
  replace f0 := f0.below hb
  replace f1 := f1.below hb
  replace g2 := g2.below hb
  replace g3 := g3.below hb
  replace g5 := g5.below hb
  replace g8 := g8.below hb
  replace g12 := g12.below hb
  replace g13 := g13.below hb
  replace b0 := b0.below hb
  replace b1 := b1.below hb
  replace b2 := b2.below hb
  replace b3 := b3.below hb
  replace b5 := b5.below hb
  replace b6 := b6.below hb
  replace H0 := H0.trans (hb.mono H0.size)
  clear hb
  clear g12
  clear g13
  go_wp2_with fail
  refine hK.out _ _ ⟨b0.cell 0 _ rfl, b0.cell 1 _ rfl, b0.cell 2 _ rfl, b1.cell 0 _ rfl, b1.cell 1 _ rfl, b1.cell 2 _ rfl, b2.cell 0 _ rfl, b2.cell 1 _ rfl, b2.cell 2 _ rfl, b3.cell 0 _ rfl, b3.cell 1 _ rfl, b3.cell 2 _ rfl, b5.cell 0 _ rfl, b5.cell 1 _ rfl, b6.cell 0 _ rfl, b6.cell 1 _ rfl⟩ (fun hHeld => ?_)
  clear hK K
  (try simp only [List.getElem_toArray, List.getElem_cons_succ, List.getElem_cons_zero, Act.put, List.setIfInBounds_toArray, List.set_cons_zero, List.set_cons_succ])
  refine wpAnyH_take (i := 16) (v := ?_) rfl (by kernel_rfl) (by kernel_rfl) (by kernel_rfl) (fun _ _ _ h => h) (Or.inl ⟨by rfl, ?_⟩) (by assumption) ?_
  rotate_left
  · (intro w hSw; (try dsimp only at hSw); go_simp; (try with_reducible rfl))
  (try simp only [List.getElem_toArray, List.getElem_cons_succ, List.getElem_cons_zero, Act.put, List.setIfInBounds_toArray, List.set_cons_zero, List.set_cons_succ])
  refine wpAnyH_take (i := 17) (v := ?_) rfl (by kernel_rfl) (by kernel_rfl) (by kernel_rfl) (fun _ _ _ h => h) (Or.inl ⟨by rfl, ?_⟩) (by assumption) ?_
  rotate_left
  · (intro w hSw; (try dsimp only at hSw); go_simp; (try with_reducible rfl))
  (try simp only [List.getElem_toArray, List.getElem_cons_succ, List.getElem_cons_zero, Act.put, List.setIfInBounds_toArray, List.set_cons_zero, List.set_cons_succ])
  refine wpAnyH_take (i := 18) (v := ?_) rfl (by kernel_rfl) (by kernel_rfl) (by kernel_rfl) (fun _ _ _ h => h) (Or.inl ⟨by rfl, ?_⟩) (by assumption) ?_
  rotate_left
  · (intro w hSw; (try dsimp only at hSw); go_simp; (try with_reducible rfl))
  (try simp only [List.getElem_toArray, List.getElem_cons_succ, List.getElem_cons_zero, Act.put, List.setIfInBounds_toArray, List.set_cons_zero, List.set_cons_succ])
  refine wpAnyH_take (i := 19) (v := ?_) rfl (by kernel_rfl) (by kernel_rfl) (by kernel_rfl) (fun _ _ _ h => h) (Or.inl ⟨by rfl, ?_⟩) (by assumption) ?_
  rotate_left
  · (intro w hSw; (try dsimp only at hSw); go_simp; (try with_reducible rfl))
  (try simp only [List.getElem_toArray, List.getElem_cons_succ, List.getElem_cons_zero, Act.put, List.setIfInBounds_toArray, List.set_cons_zero, List.set_cons_succ])
  refine wpAnyH_take (i := 21) (v := ?_) rfl (by kernel_rfl) (by kernel_rfl) (by kernel_rfl) (fun _ _ _ h => h) (Or.inl ⟨by rfl, ?_⟩) (by assumption) ?_
  rotate_left
  · (intro w hSw; (try dsimp only at hSw); go_simp; (try with_reducible rfl))
  (try simp only [List.getElem_toArray, List.getElem_cons_succ, List.getElem_cons_zero, Act.put, List.setIfInBounds_toArray, List.set_cons_zero, List.set_cons_succ])
  refine wpAnyH_take (i := 22) (v := ?_) rfl (by kernel_rfl) (by kernel_rfl) (by kernel_rfl) (fun _ _ _ h => h) (Or.inl ⟨by rfl, ?_⟩) (by assumption) ?_
  rotate_left
  · (intro w hSw; (try dsimp only at hSw); go_simp; (try with_reducible rfl))
  (try simp only [List.getElem_toArray, List.getElem_cons_succ, List.getElem_cons_zero, Act.put, List.setIfInBounds_toArray, List.set_cons_zero, List.set_cons_succ])
  refine wpAnyH_ready (rs := [20]) (by kernel_rfl) (by simp) (AllReadyH.cons (o := _) rfl (fun K hK => ?_) AllReadyH.nil)
  go_simp
  go_at_call 34
  refine (rsub_v f0 f1 (by omega) (by omega)).mono ?_
  rintro e w21 ⟨s14, A14, n14, c14, D14, m14, e14, rfl, g14, hb⟩
  replace f0 := f0.below hb
  replace f1 := f1.below hb
  replace g2 := g2.below hb
  replace g3 := g3.below hb
  replace g5 := g5.below hb
  replace g8 := g8.below hb
  replace b0 := b0.below hb
  replace b1 := b1.below hb
  replace b2 := b2.below hb
  replace b3 := b3.below hb
  replace b5 := b5.below hb
  replace b6 := b6.below hb
  replace H0 := H0.trans (hb.mono H0.size)
  clear hb
  go_wp2_with fail
  refine hK.out _ _ ⟨b0.cell 0 _ rfl, b0.cell 1 _ rfl, b0.cell 2 _ rfl, b1.cell 0 _ rfl, b1.cell 1 _ rfl, b1.cell 2 _ rfl, b2.cell 0 _ rfl, b2.cell 1 _ rfl, b2.cell 2 _ rfl, b3.cell 0 _ rfl, b3.cell 1 _ rfl, b3.cell 2 _ rfl, b5.cell 0 _ rfl, b5.cell 1 _ rfl, b6.cell 0 _ rfl, b6.cell 1 _ rfl⟩ (fun hHeld => ?_)
  clear hK K
  (try simp only [List.getElem_toArray, List.getElem_cons_succ, List.getElem_cons_zero, Act.put, List.setIfInBounds_toArray, List.set_cons_zero, List.set_cons_succ])
  refine wpAnyH_ready (rs := [23]) (by kernel_rfl) (by simp) (AllReadyH.cons (o := _) rfl (fun K hK => ?_) AllReadyH.nil)
  go_simp
  go_at_call 35
  refine (nqsub_v g2 g3 (by omega) (by omega)).mono ?_
  rintro e w22 ⟨s15, A15, n15, c15, D15, m15, e15, rfl, g15, hb⟩
  replace f0 := f0.below hb
  replace f1 := f1.below hb
  replace g2 := g2.below hb
  replace g3 := g3.below hb
  replace g5 := g5.below hb
  replace g8 := g8.below hb
  replace g14 := g14.below hb
  replace b0 := b0.below hb
  replace b1 := b1.below hb
  replace b2 := b2.below hb
  replace b3 := b3.below hb
  replace b5 := b5.below hb
  replace b6 := b6.below hb
  replace H0 := H0.trans (hb.mono H0.size)
  clear hb
  go_wp2_with fail
  refine hK.out _ _ ⟨b0.cell 0 _ rfl, b0.cell 1 _ rfl, b0.cell 2 _ rfl, b1.cell 0 _ rfl, b1.cell 1 _ rfl, b1.cell 2 _ rfl, b2.cell 0 _ rfl, b2.cell 1 _ rfl, b2.cell 2 _ rfl, b3.cell 0 _ rfl, b3.cell 1 _ rfl, b3.cell 2 _ rfl, b5.cell 0 _ rfl, b5.cell 1 _ rfl, b6.cell 0 _ rfl, b6.cell 1 _ rfl⟩ (fun hHeld => ?_)
  clear hK K
  (try simp only [List.getElem_toArray, List.getElem_cons_succ, List.getElem_cons_zero, Act.put, List.setIfInBounds_toArray, List.set_cons_zero, List.set_cons_succ])
  refine wpAnyH_ready (rs := [24]) (by kernel_rfl) (by simp) (AllReadyH.cons (o := _) rfl (fun K hK => ?_) AllReadyH.nil)
  go_simp
  go_at_call 14
  refine (same3_t g14 g15 (by omega) rfl).mono ?_
  rintro e w23 ⟨rfl, hb⟩
  replace f0 := f0.below hb
  replace f1 := f1.below hb
  replace g2 := g2.below hb
  replace g3 := g3.below hb
  replace g5 := g5.below hb
  replace g8 := g8.below hb
  replace g14 := g14.below hb
  replace g15 := g15.below hb
  replace b0 := b0.below hb
  replace b1 := b1.below hb
  replace b2 := b2.below hb
  replace b3 := b3.below hb
  replace b5 := b5.below hb
  replace b6 := b6.below hb
  replace H0 := H0.trans (hb.mono H0.size)
  clear hb
  clear g14
  clear g15
  go_wp2_with fail
  refine hK.out _ _ ⟨b0.cell 0 _ rfl, b0.cell 1 _ rfl, b0.cell 2 _ rfl, b1.cell 0 _ rfl, b1.cell 1 _ rfl, b1.cell 2 _ rfl, b2.cell 0 _ rfl, b2.cell 1 _ rfl, b2.cell 2 _ rfl, b3.cell 0 _ rfl, b3.cell 1 _ rfl, b3.cell 2 _ rfl, b5.cell 0 _ rfl, b5.cell 1 _ rfl, b6.cell 0 _ rfl, b6.cell 1 _ rfl⟩ (fun hHeld => ?_)
  clear hK K
  (try simp only [List.getElem_toArray, List.getElem_cons_succ, List.getElem_cons_zero, Act.put, List.setIfInBounds_toArray, List.set_cons_zero, List.set_cons_succ])
  refine wpAnyH_take (i := 25) (v := ?_) rfl (by kernel_rfl) (by kernel_rfl) (by kernel_rfl) (fun _ _ _ h => h) (Or.inl ⟨by rfl, ?_⟩) (by assumption) ?_
  rotate_left
  · (intro w hSw; (try dsimp only at hSw); go_simp; (try with_reducible rfl))
  (try simp only [List.getElem_toArray, List.getElem_cons_succ, List.getElem_cons_zero, Act.put, List.setIfInBounds_toArray, List.set_cons_zero, List.set_cons_succ])
  refine wpAnyH_take (i := 26) (v := ?_) rfl (by kernel_rfl) (by kernel_rfl) (by kernel_rfl) (fun _ _ _ h => h) (Or.inl ⟨by rfl, ?_⟩) (by assumption) ?_
  rotate_left
  · (intro w hSw; (try dsimp only at hSw); go_simp; (try with_reducible rfl))
  (try simp only [List.getElem_toArray, List.getElem_cons_succ, List.getElem_cons_zero, Act.put, List.setIfInBounds_toArray, List.set_cons_zero, List.set_cons_succ])
  refine wpAnyH_take (i := 27) (v := ?_) rfl (by kernel_rfl) (by kernel_rfl) (by kernel_rfl) (fun _ _ _ h => h) (Or.inl ⟨by rfl, ?_⟩) (by assumption) ?_
  rotate_left
  · (intro w hSw; (try dsimp only at hSw); go_simp; (try with_reducible rfl))
  (try simp only [List.getElem_toArray, List.getElem_cons_succ, List.getElem_cons_zero, Act.put, List.setIfInBounds_toArray, List.set_cons_zero, List.set_cons_succ])
  refine wpAnyH_take (i := 28) (v := ?_) rfl (by kernel_rfl) (by kernel_rfl) (by kernel_rfl) (fun _ _ _ h => h) (Or.inl ⟨by rfl, ?_⟩) (by assumption) ?_
  rotate_left
  · (intro w hSw; (try dsimp only at hSw); go_simp; (try with_reducible rfl))
  (try simp only [List.getElem_toArray, List.getElem_cons_succ, List.getElem_cons_zero, Act.put, List.setIfInBounds_toArray, List.set_cons_zero, List.set_cons_succ])
  refine wpAnyH_take (i := 30) (v := ?_) rfl (by kernel_rfl) (by kernel_rfl) (by kernel_rfl) (fun _ _ _ h => h) (Or.inl ⟨by rfl, ?_⟩) (by assumption) ?_
  rotate_left
  · (intro w hSw; (try dsimp only at hSw); go_simp; (try with_reducible rfl))
  (try simp only [List.getElem_toArray, List.getElem_cons_succ, List.getElem_cons_zero, Act.put, List.setIfInBounds_toArray, List.set_cons_zero, List.set_cons_succ])
  refine wpAnyH_take (i := 31) (v := ?_) rfl (by kernel_rfl) (by kernel_rfl) (by kernel_rfl) (fun _ _ _ h => h) (Or.inl ⟨by rfl, ?_⟩) (by assumption) ?_
  rotate_left
  · (intro w hSw; (try dsimp only at hSw); go_simp; (try with_reducible rfl))
  (try simp only [List.getElem_toArray, List.getElem_cons_succ, List.getElem_cons_zero, Act.put, List.setIfInBounds_toArray, List.set_cons_zero, List.set_cons_succ])
  refine wpAnyH_ready (rs := [29]) (by kernel_rfl) (by simp) (AllReadyH.cons (o := _) rfl (fun K hK => ?_) AllReadyH.nil)
  go_simp
  go_at_call 36
  refine (rmul_v f0 f1 (by omega) (by omega)).mono ?_
  rintro e w24 ⟨s16, A16, n16, c16, D16, m16, e16, rfl, g16, hb⟩
  replace f0 := f0.below hb
  replace f1 := f1.below hb
  replace g2 := g2.below hb
  replace g3 := g3.below hb
  replace g5 := g5.below hb
  replace g8 := g8.below hb
  replace b0 := b0.below hb
  replace b1 := b1.below hb
  replace b2 := b2.below hb
  replace b3 := b3.below hb
  replace b5 := b5.below hb
  replace b6 := b6.below hb
  replace H0 := H0.trans (hb.mono H0.size)
  clear hb
  go_wp2_with fail
  refine hK.out _ _ ⟨b0.cell 0 _ rfl, b0.cell 1 _ rfl, b0.cell 2 _ rfl, b1.cell 0 _ rfl, b1.cell 1 _ rfl, b1.cell 2 _ rfl, b2.cell 0 _ rfl, b2.cell 1 _ rfl, b2.cell 2 _ rfl, b3.cell 0 _ rfl, b3.cell 1 _ rfl, b3.cell 2 _ rfl, b5.cell 0 _ rfl, b5.cell 1 _ rfl, b6.cell 0 _ rfl, b6.cell 1 _ rfl⟩ (fun hHeld => ?_)
  clear hK K
  (try simp only [List.getElem_toArray, List.getElem_cons_succ, List.getElem_cons_zero, Act.put, List.setIfInBounds_toArray, List.set_cons_zero, List.set_cons_succ])
  refine wpAnyH_ready (rs := [32]) (by kernel_rfl) (by simp) (AllReadyH.cons (o := _) rfl (fun K hK => ?_) AllReadyH.nil)
  go_simp
  go_at_call 37
  refine (ntimes_v g2 g3 (by omega) (by omega)).mono ?_
  rintro e w25 ⟨s17, A17, n17, c17, D17, m17, e17, rfl, g17, hb⟩
  replace f0 := f0.below hb
  replace f1 := f1.below hb
  replace g2 := g2.below hb
  replace g3 := g3.below hb
  replace g5 := g5.below hb
  replace g8 := g8.below hb
  replace g16 := g16.below hb
  replace b0 := b0.below hb
  replace b1 := b1.below hb
  replace b2 := b2.below hb
  replace b3 := b3.below hb
  replace b5 := b5.below hb
  replace b6 := b6.below hb
  replace H0 := H0.trans (hb.mono H0.size)
  clear hb
  go_wp2_with fail
  refine hK.out _ _ ⟨b0.cell 0 _ rfl, b0.cell 1 _ rfl, b0.cell 2 _ rfl, b1.cell 0 _ rfl, b1.cell 1 _ rfl, b1.cell 2 _ rfl, b2.cell 0 _ rfl, b2.cell 1 _ rfl, b2.cell 2 _ rfl, b3.cell 0 _ rfl, b3.cell 1 _ rfl, b3.cell 2 _ rfl, b5.cell 0 _ rfl, b5.cell 1 _ rfl, b6.cell 0 _ rfl, b6.cell 1 _ rfl⟩ (fun hHeld => ?_)
  clear hK K
  (try simp only [List.getElem_toArray, List.getElem_cons_succ, List.getElem_cons_zero, Act.put, List.setIfInBounds_toArray, List.set_cons_zero, List.set_cons_succ])
  refine wpAnyH_ready (rs := [33]) (by kernel_rfl) (by simp) (AllReadyH.cons (o := _) rfl (fun K hK => ?_) AllReadyH.nil)
  go_simp
  go_at_call 14
  refine (same3_t g16 g17 (by omega) rfl).mono ?_
  rintro e w26 ⟨rfl, hb⟩
  replace f0 := f0.below hb
  replace f1 := f1.below hb
  replace g2 := g2.below hb
  replace g3 := g3.below hb
  replace g5 := g5.below hb
  replace g8 := g8.below hb
  replace g16 := g16.below hb
  replace g17 := g17.below hb
  replace b0 := b0.below hb
  replace b1 := b1.below hb
  replace b2 := b2.below hb
  replace b3 := b3.below hb
  replace b5 := b5.below hb
  replace b6 := b6.below hb
  replace H0 := H0.trans (hb.mono H0.size)
  clear hb
  clear g16
  clear g17
  go_wp2_with fail
  refine hK.out _ _ ⟨b0.cell 0 _ rfl, b0.cell 1 _ rfl, b0.cell 2 _ rfl, b1.cell 0 _ rfl, b1.cell 1 _ rfl, b1.cell 2 _ rfl, b2.cell 0 _ rfl, b2.cell 1 _ rfl, b2.cell 2 _ rfl, b3.cell 0 _ rfl, b3.cell 1 _ rfl, b3.cell 2 _ rfl, b5.cell 0 _ rfl, b5.cell 1 _ rfl, b6.cell 0 _ rfl, b6.cell 1 _ rfl⟩ (fun hHeld => ?_)
  clear hK K
  (try simp only [List.getElem_toArray, List.getElem_cons_succ, List.getElem_cons_zero, Act.put, List.setIfInBounds_toArray, List.set_cons_zero, List.set_cons_succ])
  refine wpAnyH_take (i := 34) (v := ?_) rfl (by kernel_rfl) (by kernel_rfl) (by kernel_rfl) (fun _ _ _ h => h) (Or.inl ⟨by rfl, ?_⟩) (by assumption) ?_
  rotate_left
  · (intro w hSw; (try dsimp only at hSw); go_simp; (try with_reducible rfl))
  (try simp only [List.getElem_toArray, List.getElem_cons_succ, List.getElem_cons_zero, Act.put, List.setIfInBounds_toArray, List.set_cons_zero, List.set_cons_succ])
  refine wpAnyH_take (i := 35) (v := ?_) rfl (by kernel_rfl) (by kernel_rfl) (by kernel_rfl) (fun _ _ _ h => h) (Or.inl ⟨by rfl, ?_⟩) (by assumption) ?_
  rotate_left
  · (intro w hSw; (try dsimp only at hSw); go_simp; (try with_reducible rfl))
  (try simp only [List.getElem_toArray, List.getElem_cons_succ, List.getElem_cons_zero, Act.put, List.setIfInBounds_toArray, List.set_cons_zero, List.set_cons_succ])
  refine wpAnyH_take (i := 36) (v := ?_) rfl (by kernel_rfl) (by kernel_rfl) (by kernel_rfl) (fun _ _ _ h => h) (Or.inl ⟨by rfl, ?_⟩) (by assumption) ?_
  rotate_left
  · (intro w hSw; (try dsimp only at hSw); go_simp; (try with_reducible rfl))
  (try simp only [List.getElem_toArray, List.getElem_cons_succ, List.getElem_cons_zero, Act.put, List.setIfInBounds_toArray, List.set_cons_zero, List.set_cons_succ])
  refine wpAnyH_take (i := 37) (v := ?_) rfl (by kernel_rfl) (by kernel_rfl) (by kernel_rfl) (fun _ _ _ h => h) (Or.inl ⟨by rfl, ?_⟩) (by assumption) ?_
  rotate_left
  · (intro w hSw; (try dsimp only at hSw); go_simp; (try with_reducible rfl))
  (try simp only [List.getElem_toArray, List.getElem_cons_succ, List.getElem_cons_zero, Act.put, List.setIfInBounds_toArray, List.set_cons_zero, List.set_cons_succ])
  refine wpAnyH_take (i := 39) (v := ?_) rfl (by kernel_rfl) (by kernel_rfl) (by kernel_rfl) (fun _ _ _ h => h) (Or.inl ⟨by rfl, ?_⟩) (by assumption) ?_
  rotate_left
  · (intro w hSw; (try dsimp only at hSw); go_simp; (try with_reducible rfl))
  (try simp only [List.getElem_toArray, List.getElem_cons_succ, List.getElem_cons_zero, Act.put, List.setIfInBounds_toArray, List.set_cons_zero, List.set_cons_succ])
  refine wpAnyH_take (i := 40) (v := ?_) rfl (by kernel_rfl) (by kernel_rfl) (by kernel_rfl) (fun _ _ _ h => h) (Or.inl ⟨by rfl, ?_⟩) (by assumption) ?_
  rotate_left
  · (intro w hSw; (try dsimp only at hSw); go_simp; (try with_reducible rfl))
  (try simp only [List.getElem_toArray, List.getElem_cons_succ, List.getElem_cons_zero, Act.put, List.setIfInBounds_toArray, List.set_cons_zero, List.set_cons_succ])
  refine wpAnyH_ready (rs := [38]) (by kernel_rfl) (by simp) (AllReadyH.cons (o := _) rfl (fun K hK => ?_) AllReadyH.nil)
  go_simp
  go_at_call 38
  refine (rmiddle_v f0 f1 (by omega) (by omega)).mono ?_
  rintro e w27 ⟨s18, A18, n18, c18, D18, m18, e18, rfl, g18, hb⟩
  replace f0 := f0.below hb
  replace f1 := f1.below hb
  replace g2 := g2.below hb
  replace g3 := g3.below hb
  replace g5 := g5.below hb
  replace g8 := g8.below hb
  replace b0 := b0.below hb
  replace b1 := b1.below hb
  replace b2 := b2.below hb
  replace b3 := b3.below hb
  replace b5 := b5.below hb
  replace b6 := b6.below hb
  replace H0 := H0.trans (hb.mono H0.size)
  clear hb
  go_wp2_with fail
  refine hK.out _ _ ⟨b0.cell 0 _ rfl, b0.cell 1 _ rfl, b0.cell 2 _ rfl, b1.cell 0 _ rfl, b1.cell 1 _ rfl, b1.cell 2 _ rfl, b2.cell 0 _ rfl, b2.cell 1 _ rfl, b2.cell 2 _ rfl, b3.cell 0 _ rfl, b3.cell 1 _ rfl, b3.cell 2 _ rfl, b5.cell 0 _ rfl, b5.cell 1 _ rfl, b6.cell 0 _ rfl, b6.cell 1 _ rfl⟩ (fun hHeld => ?_)
  clear hK K
  (try simp only [List.getElem_toArray, List.getElem_cons_succ, List.getElem_cons_zero, Act.put, List.setIfInBounds_toArray, List.set_cons_zero, List.set_cons_succ])
  refine wpAnyH_ready (rs := [41]) (by kernel_rfl) (by simp) (AllReadyH.cons (o := _) rfl (fun K hK => ?_) AllReadyH.nil)
  go_simp
  go_at_call 39
  refine (nmid_v g2 g3 (by omega) (by omega)).mono ?_
  rintro e w28 ⟨s19, A19, n19, c19, D19, m19, e19, rfl, g19, hb⟩
  replace f0 := f0.below hb
  replace f1 := f1.below hb
  replace g2 := g2.below hb
  replace g3 := g3.below hb
  replace g5 := g5.below hb
  replace g8 := g8.below hb
  replace g18 := g18.below hb
  replace b0 := b0.below hb
  replace b1 := b1.below hb
  replace b2 := b2.below hb
  replace b3 := b3.below hb
  replace b5 := b5.below hb
  replace b6 := b6.below hb
  replace H0 := H0.trans (hb.mono H0.size)
  clear hb
  go_wp2_with fail
  refine hK.out _ _ ⟨b0.cell 0 _ rfl, b0.cell 1 _ rfl, b0.cell 2 _ rfl, b1.cell 0 _ rfl, b1.cell 1 _ rfl, b1.cell 2 _ rfl, b2.cell 0 _ rfl, b2.cell 1 _ rfl, b2.cell 2 _ rfl, b3.cell 0 _ rfl, b3.cell 1 _ rfl, b3.cell 2 _ rfl, b5.cell 0 _ rfl, b5.cell 1 _ rfl, b6.cell 0 _ rfl, b6.cell 1 _ rfl⟩ (fun hHeld => ?_)
  clear hK K
  (try simp only [List.getElem_toArray, List.getElem_cons_succ, List.getElem_cons_zero, Act.put, List.setIfInBounds_toArray, List.set_cons_zero, List.set_cons_succ])
  refine wpAnyH_ready (rs := [42]) (by kernel_rfl) (by simp) (AllReadyH.cons (o := _) rfl (fun K hK => ?_) AllReadyH.nil)
  go_simp
  go_at_call 14
  refine (same3_t g18 g19 (by omega) rfl).mono ?_
  rintro e w29 ⟨rfl, hb⟩
  replace f0 := f0.below hb
  replace f1 := f1.below hb
  replace g2 := g2.below hb
  replace g3 := g3.below hb
  replace g5 := g5.below hb
  replace g8 := g8.below hb
  replace g18 := g18.below hb
  replace g19 := g19.below hb
  replace b0 := b0.below hb
  replace b1 := b1.below hb
  replace b2 := b2.below hb
  replace b3 := b3.below hb
  replace b5 := b5.below hb
  replace b6 := b6.below hb
  replace H0 := H0.trans (hb.mono H0.size)
  clear hb
  clear g18
  clear g19
  go_wp2_with fail
  refine hK.out _ _ ⟨b0.cell 0 _ rfl, b0.cell 1 _ rfl, b0.cell 2 _ rfl, b1.cell 0 _ rfl, b1.cell 1 _ rfl, b1.cell 2 _ rfl, b2.cell 0 _ rfl, b2.cell 1 _ rfl, b2.cell 2 _ rfl, b3.cell 0 _ rfl, b3.cell 1 _ rfl, b3.cell 2 _ rfl, b5.cell 0 _ rfl, b5.cell 1 _ rfl, b6.cell 0 _ rfl, b6.cell 1 _ rfl⟩ (fun hHeld => ?_)
  clear hK K
  (try simp only [List.getElem_toArray, List.getElem_cons_succ, List.getElem_cons_zero, Act.put, List.setIfInBounds_toArray, List.set_cons_zero, List.set_cons_succ])
  refine wpAnyH_take (i := 43) (v := ?_) rfl (by kernel_rfl) (by kernel_rfl) (by kernel_rfl) (fun _ _ _ h => h) (Or.inl ⟨by rfl, ?_⟩) (by assumption) ?_
  rotate_left
  · (intro w hSw; (try dsimp only at hSw); go_simp; (try with_reducible rfl))
  (try simp only [List.getElem_toArray, List.getElem_cons_succ, List.getElem_cons_zero, Act.put, List.setIfInBounds_toArray, List.set_cons_zero, List.set_cons_succ])
  refine wpAnyH_take (i := 44) (v := ?_) rfl (by kernel_rfl) (by kernel_rfl) (by kernel_rfl) (fun _ _ _ h => h) (Or.inl ⟨by rfl, ?_⟩) (by assumption) ?_
  rotate_left
  · (intro w hSw; (try dsimp only at hSw); go_simp; (try with_reducible rfl))
  (try simp only [List.getElem_toArray, List.getElem_cons_succ, List.getElem_cons_zero, Act.put, List.setIfInBounds_toArray, List.set_cons_zero, List.set_cons_succ])
  refine wpAnyH_take (i := 45) (v := ?_) rfl (by kernel_rfl) (by kernel_rfl) (by kernel_rfl) (fun _ _ _ h => h) (Or.inl ⟨by rfl, ?_⟩) (by assumption) ?_
  rotate_left
  · (intro w hSw; (try dsimp only at hSw); go_simp; (try with_reducible rfl))
  (try simp only [List.getElem_toArray, List.getElem_cons_succ, List.getElem_cons_zero, Act.put, List.setIfInBounds_toArray, List.set_cons_zero, List.set_cons_succ])
  refine wpAnyH_take (i := 47) (v := ?_) rfl (by kernel_rfl) (by kernel_rfl) (by kernel_rfl) (fun _ _ _ h => h) (Or.inl ⟨by rfl, ?_⟩) (by assumption) ?_
  rotate_left
  · (intro w hSw; (try dsimp only at hSw); go_simp; (try with_reducible rfl))
  (try simp only [List.getElem_toArray, List.getElem_cons_succ, List.getElem_cons_zero, Act.put, List.setIfInBounds_toArray, List.set_cons_zero, List.set_cons_succ])
  refine wpAnyH_ready (rs := [46]) (by kernel_rfl) (by simp) (AllReadyH.cons (o := _) rfl (fun K hK => ?_) AllReadyH.nil)
  go_simp
  go_at_call 41
  refine (rfloor_v f0 (by omega)).mono ?_
  rintro e w30 ⟨s20, A20, n20, c20, rfl, g20, hb⟩
  replace f0 := f0.below hb
  replace f1 := f1.below hb
  replace g2 := g2.below hb
  replace g3 := g3.below hb
  replace g5 := g5.below hb
  replace g8 := g8.below hb
  replace b0 := b0.below hb
  replace b1 := b1.below hb
  replace b2 := b2.below hb
  replace b3 := b3.below hb
  replace b5 := b5.below hb
  replace b6 := b6.below hb
  replace H0 := H0.trans (hb.mono H0.size)
  clear hb
  clear f1
  clear g2
  clear g3
  go_wp2_with fail
  refine hK.out _ _ ⟨b0.cell 0 _ rfl, b0.cell 1 _ rfl, b0.cell 2 _ rfl, b1.cell 0 _ rfl, b1.cell 1 _ rfl, b1.cell 2 _ rfl, b2.cell 0 _ rfl, b2.cell 1 _ rfl, b2.cell 2 _ rfl, b3.cell 0 _ rfl, b3.cell 1 _ rfl, b3.cell 2 _ rfl, b5.cell 0 _ rfl, b5.cell 1 _ rfl, b6.cell 0 _ rfl, b6.cell 1 _ rfl⟩ (fun hHeld => ?_)
  clear hK K
  (try simp only [List.getElem_toArray, List.getElem_cons_succ, List.getElem_cons_zero, Act.put, List.setIfInBounds_toArray, List.set_cons_zero, List.set_cons_succ])
  refine wpAnyH_ready (rs := [48]) (by kernel_rfl) (by simp) (AllReadyH.cons (o := _) rfl (fun K hK => ?_) AllReadyH.nil)
  go_simp
  go_at_call 42
  refine (toI_v g5 (by omega)).mono ?_
  rintro e w31 ⟨A21, n21, c21, rfl, g21, hb⟩
  replace f0 := f0.below hb
  replace g5 := g5.below hb
  replace g8 := g8.below hb
  replace g20 := g20.below hb
  replace b0 := b0.below hb
  replace b1 := b1.below hb
  replace b2 := b2.below hb
  replace b3 := b3.below hb
  replace b5 := b5.below hb
  replace b6 := b6.below hb
  replace H0 := H0.trans (hb.mono H0.size)
  clear hb
  clear g5
  go_wp2_with fail
  refine hK.out _ _ ⟨b0.cell 0 _ rfl, b0.cell 1 _ rfl, b0.cell 2 _ rfl, b1.cell 0 _ rfl, b1.cell 1 _ rfl, b1.cell 2 _ rfl, b2.cell 0 _ rfl, b2.cell 1 _ rfl, b2.cell 2 _ rfl, b3.cell 0 _ rfl, b3.cell 1 _ rfl, b3.cell 2 _ rfl, b5.cell 0 _ rfl, b5.cell 1 _ rfl, b6.cell 0 _ rfl, b6.cell 1 _ rfl⟩ (fun hHeld => ?_)
  clear hK K
  (try simp only [List.getElem_toArray, List.getElem_cons_succ, List.getElem_cons_zero, Act.put, List.setIfInBounds_toArray, List.set_cons_zero, List.set_cons_succ])
  refine wpAnyH_ready (rs := [49]) (by kernel_rfl) (by simp) (AllReadyH.cons (o := _) rfl (fun K hK => ?_) AllReadyH.nil)
  go_simp
  go_at_call 40
  refine (sameI_v g20 g21 (floor_int _)).mono ?_
  rintro e w32 ⟨rfl, hb⟩
  replace f0 := f0.below hb
  replace g8 := g8.below hb
  replace g20 := g20.below hb
  replace g21 := g21.below hb
  replace b0 := b0.below hb
  replace b1 := b1.below hb
  replace b2 := b2.below hb
  replace b3 := b3.below hb
  replace b5 := b5.below hb
  replace b6 := b6.below hb
  replace H0 := H0.trans (hb.mono H0.size)
  clear hb
  clear g20
  clear g21
  go_wp2_with fail
  refine hK.out _ _ ⟨b0.cell 0 _ rfl, b0.cell 1 _ rfl, b0.cell 2 _ rfl, b1.cell 0 _ rfl, b1.cell 1 _ rfl, b1.cell 2 _ rfl, b2.cell 0 _ rfl, b2.cell 1 _ rfl, b2.cell 2 _ rfl, b3.cell 0 _ rfl, b3.cell 1 _ rfl, b3.cell 2 _ rfl, b5.cell 0 _ rfl, b5.cell 1 _ rfl, b6.cell 0 _ rfl, b6.cell 1 _ rfl⟩ (fun hHeld => ?_)
  clear hK K
  (try simp only [List.getElem_toArray, List.getElem_cons_succ, List.getElem_cons_zero, Act.put, List.setIfInBounds_toArray, List.set_cons_zero, List.set_cons_succ])
  refine wpAnyH_take (i := 50) (v := ?_) rfl (by kernel_rfl) (by kernel_rfl) (by kernel_rfl) (fun _ _ _ h => h) (Or.inl ⟨by rfl, ?_⟩) (by assumption) ?_
  rotate_left
  · (intro w hSw; (try dsimp only at hSw); go_simp; (try with_reducible rfl))
  (try simp only [List.getElem_toArray, List.getElem_cons_succ, List.getElem_cons_zero, Act.put, List.setIfInBounds_toArray, List.set_cons_zero, List.set_cons_succ])
  refine wpAnyH_take (i := 51) (v := ?_) rfl (by kernel_rfl) (by kernel_rfl) (by kernel_rfl) (fun _ _ _ h => h) (Or.inl ⟨by rfl, ?_⟩) (by assumption) ?_
  rotate_left
  · (intro w hSw; (try dsimp only at hSw); go_simp; (try with_reducible rfl))
  (try simp only [List.getElem_toArray, List.getElem_cons_succ, List.getElem_cons_zero, Act.put, List.setIfInBounds_toArray, List.set_cons_zero, List.set_cons_succ])
  refine wpAnyH_take (i := 52) (v := ?_) rfl (by kernel_rfl) (by kernel_rfl) (by kernel_rfl) (fun _ _ _ h => h) (Or.inl ⟨by rfl, ?_⟩) (by assumption) ?_
  rotate_left
  · (intro w hSw; (try dsimp only at hSw); go_simp; (try with_reducible rfl))
  (try simp only [List.getElem_toArray, List.getElem_cons_succ, List.getElem_cons_zero, Act.put, List.setIfInBounds_toArray, List.set_cons_zero, List.set_cons_succ])
  refine wpAnyH_take (i := 54) (v := ?_) rfl (by kernel_rfl) (by kernel_rfl) (by kernel_rfl) (fun _ _ _ h => h) (Or.inl ⟨by rfl, ?_⟩) (by assumption) ?_
  rotate_left
  · (intro w hSw; (try dsimp only at hSw); go_simp; (try with_reducible rfl))
  (try simp only [List.getElem_toArray, List.getElem_cons_succ, List.getElem_cons_zero, Act.put, List.setIfInBounds_toArray, List.set_cons_zero, List.set_cons_succ])
  refine wpAnyH_ready (rs := [53]) (by kernel_rfl) (by simp) (AllReadyH.cons (o := _) rfl (fun K hK => ?_) AllReadyH.nil)
  go_simp
  go_at_call 43
  refine (rceil_v f0 (by omega)).mono ?_
  rintro e w33 ⟨s22, A22, n22, c22, rfl, g22, hb⟩
  replace f0 := f0.below hb
  replace g8 := g8.below hb
  replace b0 := b0.below hb
  replace b1 := b1.below hb
  replace b2 := b2.below hb
  replace b3 := b3.below hb
  replace b5 := b5.below hb
  replace b6 := b6.below hb
  replace H0 := H0.trans (hb.mono H0.size)
  clear hb
  clear f0
  go_wp2_with fail
  refine hK.out _ _ ⟨b0.cell 0 _ rfl, b0.cell 1 _ rfl, b0.cell 2 _ rfl, b1.cell 0 _ rfl, b1.cell 1 _ rfl, b1.cell 2 _ rfl, b2.cell 0 _ rfl, b2.cell 1 _ rfl, b2.cell 2 _ rfl, b3.cell 0 _ rfl, b3.cell 1 _ rfl, b3.cell 2 _ rfl, b5.cell 0 _ rfl, b5.cell 1 _ rfl, b6.cell 0 _ rfl, b6.cell 1 _ rfl⟩ (fun hHeld => ?_)
  clear hK K
  (try simp only [List.getElem_toArray, List.getElem_cons_succ, List.getElem_cons_zero, Act.put, List.setIfInBounds_toArray, List.set_cons_zero, List.set_cons_succ])
  refine wpAnyH_ready (rs := [55]) (by kernel_rfl) (by simp) (AllReadyH.cons (o := _) rfl (fun K hK => ?_) AllReadyH.nil)
  go_simp
  go_at_call 44
  refine (nminus_v g8).mono ?_
  rintro e w34 ⟨s23, rfl, g23, hb⟩
  replace g8 := g8.below hb
  replace g22 := g22.below hb
  replace b0 := b0.below hb
  replace b1 := b1.below hb
  replace b2 := b2.below hb
  replace b3 := b3.below hb
  replace b5 := b5.below hb
  replace b6 := b6.below hb
  replace H0 := H0.trans (hb.mono H0.size)
  clear hb
  clear g8
  go_wp2_with fail
  refine hK.out _ _ ⟨b0.cell 0 _ rfl, b0.cell 1 _ rfl, b0.cell 2 _ rfl, b1.cell 0 _ rfl, b1.cell 1 _ rfl, b1.cell 2 _ rfl, b2.cell 0 _ rfl, b2.cell 1 _ rfl, b2.cell 2 _ rfl, b3.cell 0 _ rfl, b3.cell 1 _ rfl, b3.cell 2 _ rfl, b5.cell 0 _ rfl, b5.cell 1 _ rfl, b6.cell 0 _ rfl, b6.cell 1 _ rfl⟩ (fun hHeld => ?_)
  clear hK K
  (try simp only [List.getElem_toArray, List.getElem_cons_succ, List.getElem_cons_zero, Act.put, List.setIfInBounds_toArray, List.set_cons_zero, List.set_cons_succ])
  refine wpAnyH_ready (rs := [56]) (by kernel_rfl) (by simp) (AllReadyH.cons (o := _) rfl (fun K hK => ?_) AllReadyH.nil)
  go_simp
  go_at_call 42
  refine (toI_v g23 (by omega)).mono ?_
  rintro e w35 ⟨A24, n24, c24, rfl, g24, hb⟩
  replace g22 := g22.below hb
  replace g23 := g23.below hb
  replace b0 := b0.below hb
  replace b1 := b1.below hb
  replace b2 := b2.below hb
  replace b3 := b3.below hb
  replace b5 := b5.below hb
  replace b6 := b6.below hb
  replace H0 := H0.trans (hb.mono H0.size)
  clear hb
  clear g23
  go_wp2_with fail
  refine hK.out _ _ ⟨b0.cell 0 _ rfl, b0.cell 1 _ rfl, b0.cell 2 _ rfl, b1.cell 0 _ rfl, b1.cell 1 _ rfl, b1.cell 2 _ rfl, b2.cell 0 _ rfl, b2.cell 1 _ rfl, b2.cell 2 _ rfl, b3.cell 0 _ rfl, b3.cell 1 _ rfl, b3.cell 2 _ rfl, b5.cell 0 _ rfl, b5.cell 1 _ rfl, b6.cell 0 _ rfl, b6.cell 1 _ rfl⟩ (fun hHeld => ?_)
  clear hK K
  (try simp only [List.getElem_toArray, List.getElem_cons_succ, List.getElem_cons_zero, Act.put, List.setIfInBounds_toArray, List.set_cons_zero, List.set_cons_succ])
  refine wpAnyH_ready (rs := [57]) (by kernel_rfl) (by simp) (AllReadyH.cons (o := _) rfl (fun K hK => ?_) AllReadyH.nil)
  go_simp
  go_at_call 40
  refine (sameI_v g22 g24 (ceil_int _)).mono ?_
  rintro e w36 ⟨rfl, hb⟩
  replace g22 := g22.below hb
  replace g24 := g24.below hb
  replace b0 := b0.below hb
  replace b1 := b1.below hb
  replace b2 := b2.below hb
  replace b3 := b3.below hb
  replace b5 := b5.below hb
  replace b6 := b6.below hb
  replace H0 := H0.trans (hb.mono H0.size)
  clear hb
  clear g22
  clear g24
  go_wp2_with fail
  refine hK.out _ _ ⟨b0.cell 0 _ rfl, b0.cell 1 _ rfl, b0.cell 2 _ rfl, b1.cell 0 _ rfl, b1.cell 1 _ rfl, b1.cell 2 _ rfl, b2.cell 0 _ rfl, b2.cell 1 _ rfl, b2.cell 2 _ rfl, b3.cell 0 _ rfl, b3.cell 1 _ rfl, b3.cell 2 _ rfl, b5.cell 0 _ rfl, b5.cell 1 _ rfl, b6.cell 0 _ rfl, b6.cell 1 _ rfl⟩ (fun hHeld => ?_)
  clear hK K
  (try simp only [List.getElem_toArray, List.getElem_cons_succ, List.getElem_cons_zero, Act.put, List.setIfInBounds_toArray, List.set_cons_zero, List.set_cons_succ])
  refine wpAnyH_take (i := 58) (v := ?_) rfl (by kernel_rfl) (by kernel_rfl) (by kernel_rfl) (fun _ _ _ h => h) (Or.inl ⟨by rfl, ?_⟩) (by assumption) ?_
  rotate_left
  · (intro w hSw; (try dsimp only at hSw); go_simp; (try with_reducible rfl))
  (try simp only [List.getElem_toArray, List.getElem_cons_succ, List.getElem_cons_zero, Act.put, List.setIfInBounds_toArray, List.set_cons_zero, List.set_cons_succ])
  refine wpAnyH_take (i := 59) (v := ?_) rfl (by kernel_rfl) (by kernel_rfl) (by kernel_rfl) (fun _ _ _ h => h) (Or.inl ⟨by rfl, ?_⟩) (by assumption) ?_
  rotate_left
  · (intro w hSw; (try dsimp only at hSw); go_simp; (try with_reducible rfl))
  (try simp only [List.getElem_toArray, List.getElem_cons_succ, List.getElem_cons_zero, Act.put, List.setIfInBounds_toArray, List.set_cons_zero, List.set_cons_succ])
  refine wpAnyH_done (by kernel_rfl) ?_ _
  refine NoPanic.normal ?_
  go_wp2_with fail
  go_returns
  exact ⟨rfl, H0⟩
end
end Go.Proofs.YtkhfadfjkmhpgaaGreatDoor
