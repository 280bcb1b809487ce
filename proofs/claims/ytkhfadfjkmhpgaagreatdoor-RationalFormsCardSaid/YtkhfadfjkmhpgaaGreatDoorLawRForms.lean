/-
  The walk of the law RationalForms, out of the contracts of what it calls.
-/
import Derived.Test.YtkhfadfjkmhpgaaGreatDoorRatP
import Derived.Deep.Cut
import Derived.Test.YtkhfadfjkmhpgaaGreatDoorRatS
import Derived.Test.YtkhfadfjkmhpgaaGreatDoorRatO
import Derived.Test.YtkhfadfjkmhpgaaGreatDoorSmallQ
namespace Go.Proofs.YtkhfadfjkmhpgaaGreatDoor
open Go.RowKit

section
variable {A0 A1 A2 A3 D0 D1 D2 D3 : Option Addr} {n0 n1 n2 n3 c0 c1 c2 c3 m0 m1 m2 m3 e0 e1 e2 e3 : Nat} {s0 s1 s2 s3 : Bool} {z z' z0 z1 z2 : Int} {q q' q0 q1 q2 : Rat} {L L0 L1 L2 x x0 x1 y : Nat} {k : Int} {w : World}
theorem sameq_t (h : NQ w s0 (.slice A0 n0 c0) (.slice D0 m0 e0) q L) (h' : NQ w s1 (.slice A1 n1 c1) (.slice D1 m1 e1) q' L0) (he : q = q') :
    Calls Tryz.prog 46 #[.agg #[.bool s0, .slice A0 n0 c0, .slice D0 m0 e0], .agg #[.bool s1, .slice A1 n1 c1, .slice D1 m1 e1]] w fun e w' => e = .returned (.bool true) ∧ Below w.heap.size w w' := sameq_d h h' (decide_eq_true he)
theorem same3_t (h : NQ w s0 (.slice A0 n0 c0) (.slice D0 m0 e0) q L) (h' : PQ w s1 (.slice A1 n1 c1) (.slice D1 m1 e1) q' L0) (hL : L0 ≤ 100000) (he : q = q') :
    Calls Tryz.prog 14 #[.agg #[.bool s0, .slice A0 n0 c0, .slice D0 m0 e0], .agg #[.bool s1, .slice A1 n1 c1, .slice D1 m1 e1]] w fun e w' => e = .returned (.bool true) ∧ Below w.heap.size w w' := same3_d h h' hL (decide_eq_true he)
theorem rnew_b {b : Bool} (h : RI w s0 (.slice A0 n0 c0) z L) (h' : RI w s1 (.slice A1 n1 c1) z' L) (hb : decide (z' ≠ 0) = b) (hL : L ≤ 1000000) :
    Calls Tryz.prog 12 #[.agg #[.bool s0, .slice A0 n0 c0], .agg #[.bool s1, .slice A1 n1 c1]] w fun e w' => ∃ s3 A3 n3 c3 D3 m3 e3, e = .returned (.tuple #[.agg #[.bool s3, .slice A3 n3 c3, .slice D3 m3 e3], .bool b]) ∧ NQ w' s3 (.slice A3 n3 c3) (.slice D3 m3 e3) (Rat.divInt z z') (max L 2) ∧ Below w.heap.size w w' := by
  subst hb
  by_cases h0 : z' = 0
  · subst h0
    have hv := h'.rv
    refine (rnew_zero h hv).mono ?_
    rintro e w' ⟨s3, A3, n3, c3, D3, m3, e3, rfl, h1, h2⟩
    exact ⟨s3, A3, n3, c3, D3, m3, e3, by simp, by rw [Rat.divInt_zero]; exact h1.more (by omega), h2⟩
  · refine (rnew_v h h' h0 hL).mono ?_
    rintro e w' ⟨s3, A3, n3, c3, D3, m3, e3, rfl, h1, h2⟩
    exact ⟨s3, A3, n3, c3, D3, m3, e3, by simp [h0], h1.more (by omega), h2⟩
set_option maxRecDepth 100000 in
set_option maxHeartbeats 16000000 in
theorem rforms_small {a a' : Addr} {ds es : List Nat} (hn0 : n0 ≤ 10) (hm0 : m0 ≤ 10) (hn1 : n1 ≤ 10) (hm1 : m1 ≤ 10) (hl : ds.length ≤ 10) (hl' : es.length ≤ 10) (i0 : RI w s0 (.slice A0 n0 c0) z0 10) (i1 : RI w s1 (.slice A1 n1 c1) z1 10) (r0 : Raw w (.slice A0 n0 c0) ds) (r1 : Raw w (.slice D0 m0 e0) es) (f0 : RQ w s0 (.slice A0 n0 c0) (.slice D0 m0 e0) q0 10) (f1 : RQ w s1 (.slice A1 n1 c1) (.slice D1 m1 e1) q1 10) (z : Int) (hz0 : -9223372036854775808 ≤ z) (hz1 : z ≤ 9223372036854775807) (hS : w.cell? ⟨0, 0, none⟩ = some (.iface 199 (.pointer (some a)))) (hR : w.cell? ⟨1, 0, none⟩ = some (.iface 199 (.pointer (some a')))) (htab : Lib.TabIs Tryz.prog w "internal/strconv.uint64pow10" .u64 Lib.pow10Tab) :
    Calls Tryz.prog 3 #[.agg #[.bool s0, .slice A0 n0 c0, .slice D0 m0 e0], .agg #[.bool s1, .slice A1 n1 c1, .slice D1 m1 e1], .int .i64 z] w fun e w' => e = .returned (.bool true) ∧ Below w.heap.size w w' := by
  have blkS := World.block_lt_of_cell? _ _ hS
  have blkR := World.block_lt_of_cell? _ _ hR
  have HK := Lib.hid (fun (W : World) (h : Below w.heap.size w W) => known3_any ((h.cell (p := ⟨0, 0, none⟩) blkS).trans hS) ((h.cell (p := ⟨1, 0, none⟩) blkR).trans hR) (Go.Joins.tab_stays (show Tryz.prog.globalNamed "internal/strconv.uint64pow10" = some 5 by kernel_rfl) htab h (Nat.le_refl _)))
  clear hS hR htab blkS blkR
  go_enter Tryz.func3, Tryz.ntmps3
  go_wp2_with fail
  obtain ⟨W0, hW, b0, b1, bs, hbW, hszW0⟩ := boxes3 w #[.bool s0, .slice A0 n0 c0, .slice D0 m0 e0] #[.bool s1, .slice A1 n1 c1, .slice D1 m1 e1] #[.bool s0, .slice A0 n0 c0, .slice D0 m0 e0, .bool s1, .slice A1 n1 c1, .slice D1 m1 e1] 27 27 27
  rw [hW]
  clear hW
  replace i0 := i0.below hbW
  replace i1 := i1.below hbW
  replace r0 := r0.below hbW
  replace r1 := r1.below hbW
  replace f0 := f0.below hbW
  replace f1 := f1.below hbW
  have H0 := hbW
  clear hbW
  refine (smallq_yes bs hn0 hm0 hn1 hm1).mono ?_
  rintro e w1 ⟨rfl, hb⟩
  replace i0 := i0.below hb
  replace i1 := i1.below hb
  replace r0 := r0.below hb
  replace r1 := r1.below hb
  replace f0 := f0.below hb
  replace f1 := f1.below hb
  replace b0 := b0.below hb
  replace b1 := b1.below hb
  replace bs := bs.below hb
  replace H0 := H0.trans (hb.mono H0.size)
  clear hb
  clear bs
  have cb00 := b0.cell 0 _ rfl
  have cb01 := b0.cell 1 _ rfl
  have cb02 := b0.cell 2 _ rfl
  have cb10 := b1.cell 0 _ rfl
  have cb11 := b1.cell 1 _ rfl
  have cb12 := b1.cell 2 _ rfl
  go_wp2_with fail
  clear cb00 cb01 cb02 cb10 cb11 cb12
  have lcb0_2 := b0.lt
  have lcb1_2 := b1.lt
  go_cut [7, 8] from 12 (fun u2_0 u2_1 wx => ∃ g2_0 g2_1 s2 A2 n2 c2 D2 m2 e2 s3 A3 n3 c3 D3 m3 e3, u2_0 = .pointer (some ⟨g2_0, 0, none⟩) ∧ u2_1 = .pointer (some ⟨g2_1, 0, none⟩) ∧ PQ wx s2 (.slice A2 n2 c2) (.slice D2 m2 e2) q0 10 ∧ PQ wx s3 (.slice A3 n3 c3) (.slice D3 m3 e3) q1 10 ∧ Box wx g2_0 #[.bool s2, .slice A2 n2 c2, .slice D2 m2 e2] 34 ∧ Box wx g2_1 #[.bool s3, .slice A3 n3 c3, .slice D3 m3 e3] 34 ∧ w1.heap.size ≤ g2_0 ∧ w1.heap.size ≤ g2_1 ∧ g2_0 ≠ g2_1 ∧ Below w1.heap.size w1 wx)
  case first =>
    have hG := drawn_below w1
    refine wp_region_noPanic ?_
    refine wp_region_held_drew (S := (fun V => V.cell? ⟨w.heap.size, 0, none⟩ = some (.bool s0) ∧ V.cell? ⟨w.heap.size, 1, none⟩ = some (.slice A0 n0 c0) ∧ V.cell? ⟨w.heap.size, 2, none⟩ = some (.slice D0 m0 e0) ∧ V.cell? ⟨w.heap.size + 1, 0, none⟩ = some (.bool s1) ∧ V.cell? ⟨w.heap.size + 1, 1, none⟩ = some (.slice A1 n1 c1) ∧ V.cell? ⟨w.heap.size + 1, 2, none⟩ = some (.slice D1 m1 e1))) (by kernel_rfl) ⟨(b0.below hG).cell 0 _ rfl, (b0.below hG).cell 1 _ rfl, (b0.below hG).cell 2 _ rfl, (b1.below hG).cell 0 _ rfl, (b1.below hG).cell 1 _ rfl, (b1.below hG).cell 2 _ rfl⟩ (fun hHeld => ?_)
    generalize w1.drew = v2 at hG hHeld ⊢
    have sG := hG.size
    refine wpAnyH_take (i := 0) (v := ?_) rfl (by kernel_rfl) (by kernel_rfl) (by kernel_rfl) (fun _ _ _ h => h) (Or.inl ⟨by rfl, ?_⟩) (by assumption) ?_
    rotate_left
    · (intro w hSw; (try dsimp only at hSw); go_simp; (try with_reducible rfl))
    (try simp only [List.getElem_toArray, List.getElem_cons_zero, Act.put, List.setIfInBounds_toArray, List.set_cons_zero, List.set_cons_succ])
    refine wpAnyH_take (i := 2) (v := ?_) rfl (by kernel_rfl) (by kernel_rfl) (by kernel_rfl) (fun _ _ _ h => h) (Or.inl ⟨by rfl, ?_⟩) (by assumption) ?_
    rotate_left
    · (intro w hSw; (try dsimp only at hSw); go_simp; (try with_reducible rfl))
    (try simp only [List.getElem_toArray, List.getElem_cons_succ, List.getElem_cons_zero, Act.put, List.setIfInBounds_toArray, List.set_cons_zero, List.set_cons_succ])
    refine wpAnyH_ready (rs := [1, 4, 5]) (by kernel_rfl) (by simp) (AllReadyH.cons (o := _) rfl (fun K hK => ?_) (AllReadyH.cons (o := _) rfl (fun K hK => ?_) (AllReadyH.cons (o := _) rfl (fun K hK => ?_) AllReadyH.nil)))
    · go_simp
      go_at_call 11
      refine (refq_v (f0.below hG) (by omega)).mono ?_
      rintro e y2_1 ⟨s2, A2, n2, c2, D2, m2, e2, rfl, g2, hb9⟩
      have szy2_1 := hb9.size
      replace hG := hG.trans (hb9.mono sG)
      replace sG := hG.size
      clear hb9
      go_wp2_with fail
      refine hK.out _ _ ⟨(b0.below hG).cell 0 _ rfl, (b0.below hG).cell 1 _ rfl, (b0.below hG).cell 2 _ rfl, (b1.below hG).cell 0 _ rfl, (b1.below hG).cell 1 _ rfl, (b1.below hG).cell 2 _ rfl⟩ (fun hHeld => ?_)
      clear hK K
      (try simp only [List.getElem_toArray, List.getElem_cons_succ, List.getElem_cons_zero, Act.put, List.setIfInBounds_toArray, List.set_cons_zero, List.set_cons_succ])
      refine wpAnyH_ready (rs := [3, 4, 5]) (by kernel_rfl) (by simp) (AllReadyH.cons (o := _) rfl (fun K hK => ?_) (AllReadyH.cons (o := _) rfl (fun K hK => ?_) (AllReadyH.cons (o := _) rfl (fun K hK => ?_) AllReadyH.nil)))
      · go_simp
        go_at_call 11
        refine (refq_v (f1.below hG) (by omega)).mono ?_
        rintro e y2_2 ⟨s3, A3, n3, c3, D3, m3, e3, rfl, g3, hb9⟩
        have szy2_2 := hb9.size
        replace g2 := g2.below hb9
        replace hG := hG.trans (hb9.mono sG)
        replace sG := hG.size
        clear hb9
        go_wp2_with fail
        refine hK.out _ _ ⟨(b0.below hG).cell 0 _ rfl, (b0.below hG).cell 1 _ rfl, (b0.below hG).cell 2 _ rfl, (b1.below hG).cell 0 _ rfl, (b1.below hG).cell 1 _ rfl, (b1.below hG).cell 2 _ rfl⟩ (fun hHeld => ?_)
        clear hK K
        (try simp only [List.getElem_toArray, List.getElem_cons_succ, List.getElem_cons_zero, Act.put, List.setIfInBounds_toArray, List.set_cons_zero, List.set_cons_succ])
        refine wpAnyH_ready (rs := [4, 5]) (by kernel_rfl) (by simp) (AllReadyH.cons (o := _) rfl (fun K hK => ?_) (AllReadyH.cons (o := _) rfl (fun K hK => ?_) AllReadyH.nil))
        · go_simp
          obtain ⟨y2_3, hV, b2, hb9, szy2_3⟩ := boxes1 y2_2 #[.bool false, .slice none 0 0, .slice none 0 0] 34
          rw [hV]
          clear hV
          have gly2_3 : w1.heap.size ≤ y2_2.heap.size := sG
          replace szy2_3 : y2_2.heap.size < y2_3.heap.size := by omega
          replace g2 := g2.below hb9
          replace g3 := g3.below hb9
          replace hG := hG.trans (hb9.mono sG)
          replace sG := hG.size
          clear hb9
          refine hK.out _ _ ⟨(b0.below hG).cell 0 _ rfl, (b0.below hG).cell 1 _ rfl, (b0.below hG).cell 2 _ rfl, (b1.below hG).cell 0 _ rfl, (b1.below hG).cell 1 _ rfl, (b1.below hG).cell 2 _ rfl⟩ (fun hHeld => ?_)
          clear hK K
          (try simp only [List.getElem_toArray, List.getElem_cons_succ, List.getElem_cons_zero, Act.put, List.setIfInBounds_toArray, List.set_cons_zero, List.set_cons_succ])
          refine wpAnyH_ready (rs := [5]) (by kernel_rfl) (by simp) (AllReadyH.cons (o := _) rfl (fun K hK => ?_) AllReadyH.nil)
          go_simp
          obtain ⟨y2_4, hV, b3, hb9, szy2_4⟩ := boxes1 y2_3 #[.bool false, .slice none 0 0, .slice none 0 0] 34
          rw [hV]
          clear hV
          have gly2_4 : w1.heap.size ≤ y2_3.heap.size := sG
          replace szy2_4 : y2_3.heap.size < y2_4.heap.size := by omega
          replace g2 := g2.below hb9
          replace g3 := g3.below hb9
          replace b2 := b2.below hb9
          replace hG := hG.trans (hb9.mono sG)
          replace sG := hG.size
          clear hb9
          refine hK.out _ _ ⟨(b0.below hG).cell 0 _ rfl, (b0.below hG).cell 1 _ rfl, (b0.below hG).cell 2 _ rfl, (b1.below hG).cell 0 _ rfl, (b1.below hG).cell 1 _ rfl, (b1.below hG).cell 2 _ rfl⟩ (fun hHeld => ?_)
          clear hK K
          (try simp only [List.getElem_toArray, List.getElem_cons_succ, List.getElem_cons_zero, Act.put, List.setIfInBounds_toArray, List.set_cons_zero, List.set_cons_succ])
          have rb20 := b2.cell 0 _ rfl
          have qb20 := b2.frozen 0
          have rb21 := b2.cell 1 _ rfl
          have qb21 := b2.frozen 1
          have rb22 := b2.cell 2 _ rfl
          have qb22 := b2.frozen 2
          have rb30 := b3.cell 0 _ rfl
          have qb30 := b3.frozen 0
          have rb31 := b3.cell 1 _ rfl
          have qb31 := b3.frozen 1
          have rb32 := b3.cell 2 _ rfl
          have qb32 := b3.frozen 2
          refine wpAnyH_ready (rs := [6]) (by kernel_rfl) (by simp) (AllReadyH.cons (o := _) rfl (fun K hK => ?_) AllReadyH.nil)
          go_simp
          clear rb20 qb20
          clear rb21 qb21
          clear rb22 qb22
          clear rb30 qb30
          clear rb31 qb31
          clear rb32 qb32
          have hg := only_store3 y2_4 (y2_2.heap.size) (.bool s2) (.slice A2 n2 c2) (.slice D2 m2 e2)
          have hB := b2.stored3 (.bool s2) (.slice A2 n2 c2) (.slice D2 m2 e2)
          generalize hX : (((y2_4.setCell ⟨y2_2.heap.size, 0, none⟩ (.bool s2)).setCell ⟨y2_2.heap.size, 1, none⟩ (.slice A2 n2 c2)).setCell ⟨y2_2.heap.size, 2, none⟩ (.slice D2 m2 e2)) = Y2_5 at hg hB ⊢
          clear hX
          replace g2 := g2.kept b2 (by simp [notInt]) hg
          replace g3 := g3.kept b2 (by simp [notInt]) hg
          replace b3 := b3.other hg (by omega)
          replace b2 := hB
          replace hG := below_only hG hg (by omega) sG
          replace sG := hG.size
          clear hg hB
          refine hK.out _ _ ⟨(b0.below hG).cell 0 _ rfl, (b0.below hG).cell 1 _ rfl, (b0.below hG).cell 2 _ rfl, (b1.below hG).cell 0 _ rfl, (b1.below hG).cell 1 _ rfl, (b1.below hG).cell 2 _ rfl⟩ (fun hHeld => ?_)
          clear hK K
          (try simp only [List.getElem_toArray, List.getElem_cons_succ, List.getElem_cons_zero, Act.put, List.setIfInBounds_toArray, List.set_cons_zero, List.set_cons_succ])
          have rb20 := b2.cell 0 _ rfl
          have qb20 := b2.frozen 0
          have rb21 := b2.cell 1 _ rfl
          have qb21 := b2.frozen 1
          have rb22 := b2.cell 2 _ rfl
          have qb22 := b2.frozen 2
          have rb30 := b3.cell 0 _ rfl
          have qb30 := b3.frozen 0
          have rb31 := b3.cell 1 _ rfl
          have qb31 := b3.frozen 1
          have rb32 := b3.cell 2 _ rfl
          have qb32 := b3.frozen 2
          refine wpAnyH_ready (rs := [7]) (by kernel_rfl) (by simp) (AllReadyH.cons (o := _) rfl (fun K hK => ?_) AllReadyH.nil)
          go_simp
          clear rb20 qb20
          clear rb21 qb21
          clear rb22 qb22
          clear rb30 qb30
          clear rb31 qb31
          clear rb32 qb32
          have hg := only_store3 Y2_5 (y2_3.heap.size) (.bool s3) (.slice A3 n3 c3) (.slice D3 m3 e3)
          have hB := b3.stored3 (.bool s3) (.slice A3 n3 c3) (.slice D3 m3 e3)
          generalize hX : (((Y2_5.setCell ⟨y2_3.heap.size, 0, none⟩ (.bool s3)).setCell ⟨y2_3.heap.size, 1, none⟩ (.slice A3 n3 c3)).setCell ⟨y2_3.heap.size, 2, none⟩ (.slice D3 m3 e3)) = Y2_6 at hg hB ⊢
          clear hX
          replace g2 := g2.kept b3 (by simp [notInt]) hg
          replace g3 := g3.kept b3 (by simp [notInt]) hg
          replace b2 := b2.other hg (by omega)
          replace b3 := hB
          replace hG := below_only hG hg (by omega) sG
          replace sG := hG.size
          clear hg hB
          refine hK.out _ _ ⟨(b0.below hG).cell 0 _ rfl, (b0.below hG).cell 1 _ rfl, (b0.below hG).cell 2 _ rfl, (b1.below hG).cell 0 _ rfl, (b1.below hG).cell 1 _ rfl, (b1.below hG).cell 2 _ rfl⟩ (fun hHeld => ?_)
          clear hK K
          (try simp only [List.getElem_toArray, List.getElem_cons_succ, List.getElem_cons_zero, Act.put, List.setIfInBounds_toArray, List.set_cons_zero, List.set_cons_succ])
          refine wpAnyH_done (by kernel_rfl) ?_ _
          refine NoPanic.normal ?_
          go_wp2_with fail
          go_meet
          exact ⟨y2_2.heap.size, y2_3.heap.size, s2, A2, n2, c2, D2, m2, e2, s3, A3, n3, c3, D3, m3, e3, rfl, rfl, g2, g3, b2, b3, (by omega), (by omega), (by omega), hG⟩
        · go_simp
          obtain ⟨y2_7, hV, b3, hb9, szy2_7⟩ := boxes1 y2_2 #[.bool false, .slice none 0 0, .slice none 0 0] 34
          rw [hV]
          clear hV
          have gly2_7 : w1.heap.size ≤ y2_2.heap.size := sG
          replace szy2_7 : y2_2.heap.size < y2_7.heap.size := by omega
          replace g2 := g2.below hb9
          replace g3 := g3.below hb9
          replace hG := hG.trans (hb9.mono sG)
          replace sG := hG.size
          clear hb9
          refine hK.out _ _ ⟨(b0.below hG).cell 0 _ rfl, (b0.below hG).cell 1 _ rfl, (b0.below hG).cell 2 _ rfl, (b1.below hG).cell 0 _ rfl, (b1.below hG).cell 1 _ rfl, (b1.below hG).cell 2 _ rfl⟩ (fun hHeld => ?_)
          clear hK K
          (try simp only [List.getElem_toArray, List.getElem_cons_succ, List.getElem_cons_zero, Act.put, List.setIfInBounds_toArray, List.set_cons_zero, List.set_cons_succ])
          refine wpAnyH_ready (rs := [4]) (by kernel_rfl) (by simp) (AllReadyH.cons (o := _) rfl (fun K hK => ?_) AllReadyH.nil)
          go_simp
          obtain ⟨y2_8, hV, b2, hb9, szy2_8⟩ := boxes1 y2_7 #[.bool false, .slice none 0 0, .slice none 0 0] 34
          rw [hV]
          clear hV
          have gly2_8 : w1.heap.size ≤ y2_7.heap.size := sG
          replace szy2_8 : y2_7.heap.size < y2_8.heap.size := by omega
          replace g2 := g2.below hb9
          replace g3 := g3.below hb9
          replace b3 := b3.below hb9
          replace hG := hG.trans (hb9.mono sG)
          replace sG := hG.size
          clear hb9
          refine hK.out _ _ ⟨(b0.below hG).cell 0 _ rfl, (b0.below hG).cell 1 _ rfl, (b0.below hG).cell 2 _ rfl, (b1.below hG).cell 0 _ rfl, (b1.below hG).cell 1 _ rfl, (b1.below hG).cell 2 _ rfl⟩ (fun hHeld => ?_)
          clear hK K
          (try simp only [List.getElem_toArray, List.getElem_cons_succ, List.getElem_cons_zero, Act.put, List.setIfInBounds_toArray, List.set_cons_zero, List.set_cons_succ])
          have rb30 := b3.cell 0 _ rfl
          have qb30 := b3.frozen 0
          have rb31 := b3.cell 1 _ rfl
          have qb31 := b3.frozen 1
          have rb32 := b3.cell 2 _ rfl
          have qb32 := b3.frozen 2
          have rb20 := b2.cell 0 _ rfl
          have qb20 := b2.frozen 0
          have rb21 := b2.cell 1 _ rfl
          have qb21 := b2.frozen 1
          have rb22 := b2.cell 2 _ rfl
          have qb22 := b2.frozen 2
          refine wpAnyH_ready (rs := [6]) (by kernel_rfl) (by simp) (AllReadyH.cons (o := _) rfl (fun K hK => ?_) AllReadyH.nil)
          go_simp
          clear rb30 qb30
          clear rb31 qb31
          clear rb32 qb32
          clear rb20 qb20
          clear rb21 qb21
          clear rb22 qb22
          have hg := only_store3 y2_8 (y2_7.heap.size) (.bool s2) (.slice A2 n2 c2) (.slice D2 m2 e2)
          have hB := b2.stored3 (.bool s2) (.slice A2 n2 c2) (.slice D2 m2 e2)
          generalize hX : (((y2_8.setCell ⟨y2_7.heap.size, 0, none⟩ (.bool s2)).setCell ⟨y2_7.heap.size, 1, none⟩ (.slice A2 n2 c2)).setCell ⟨y2_7.heap.size, 2, none⟩ (.slice D2 m2 e2)) = Y2_9 at hg hB ⊢
          clear hX
          replace g2 := g2.kept b2 (by simp [notInt]) hg
          replace g3 := g3.kept b2 (by simp [notInt]) hg
          replace b3 := b3.other hg (by omega)
          replace b2 := hB
          replace hG := below_only hG hg (by omega) sG
          replace sG := hG.size
          clear hg hB
          refine hK.out _ _ ⟨(b0.below hG).cell 0 _ rfl, (b0.below hG).cell 1 _ rfl, (b0.below hG).cell 2 _ rfl, (b1.below hG).cell 0 _ rfl, (b1.below hG).cell 1 _ rfl, (b1.below hG).cell 2 _ rfl⟩ (fun hHeld => ?_)
          clear hK K
          (try simp only [List.getElem_toArray, List.getElem_cons_succ, List.getElem_cons_zero, Act.put, List.setIfInBounds_toArray, List.set_cons_zero, List.set_cons_succ])
          have rb30 := b3.cell 0 _ rfl
          have qb30 := b3.frozen 0
          have rb31 := b3.cell 1 _ rfl
          have qb31 := b3.frozen 1
          have rb32 := b3.cell 2 _ rfl
          have qb32 := b3.frozen 2
          have rb20 := b2.cell 0 _ rfl
          have qb20 := b2.frozen 0
          have rb21 := b2.cell 1 _ rfl
          have qb21 := b2.frozen 1
          have rb22 := b2.cell 2 _ rfl
          have qb22 := b2.frozen 2
          refine wpAnyH_ready (rs := [7]) (by kernel_rfl) (by simp) (AllReadyH.cons (o := _) rfl (fun K hK => ?_) AllReadyH.nil)
          go_simp
          clear rb30 qb30
          clear rb31 qb31
          clear rb32 qb32
          clear rb20 qb20
          clear rb21 qb21
          clear rb22 qb22
          have hg := only_store3 Y2_9 (y2_2.heap.size) (.bool s3) (.slice A3 n3 c3) (.slice D3 m3 e3)
          have hB := b3.stored3 (.bool s3) (.slice A3 n3 c3) (.slice D3 m3 e3)
          generalize hX : (((Y2_9.setCell ⟨y2_2.heap.size, 0, none⟩ (.bool s3)).setCell ⟨y2_2.heap.size, 1, none⟩ (.slice A3 n3 c3)).setCell ⟨y2_2.heap.size, 2, none⟩ (.slice D3 m3 e3)) = Y2_10 at hg hB ⊢
          clear hX
          replace g2 := g2.kept b3 (by simp [notInt]) hg
          replace g3 := g3.kept b3 (by simp [notInt]) hg
          replace b2 := b2.other hg (by omega)
          replace b3 := hB
          replace hG := below_only hG hg (by omega) sG
          replace sG := hG.size
          clear hg hB
          refine hK.out _ _ ⟨(b0.below hG).cell 0 _ rfl, (b0.below hG).cell 1 _ rfl, (b0.below hG).cell 2 _ rfl, (b1.below hG).cell 0 _ rfl, (b1.below hG).cell 1 _ rfl, (b1.below hG).cell 2 _ rfl⟩ (fun hHeld => ?_)
          clear hK K
          (try simp only [List.getElem_toArray, List.getElem_cons_succ, List.getElem_cons_zero, Act.put, List.setIfInBounds_toArray, List.set_cons_zero, List.set_cons_succ])
          refine wpAnyH_done (by kernel_rfl) ?_ _
          refine NoPanic.normal ?_
          go_wp2_with fail
          go_meet
          exact ⟨y2_7.heap.size, y2_2.heap.size, s2, A2, n2, c2, D2, m2, e2, s3, A3, n3, c3, D3, m3, e3, rfl, rfl, g2, g3, b2, b3, (by omega), (by omega), (by omega), hG⟩
      · go_simp
        obtain ⟨y2_11, hV, b2, hb9, szy2_11⟩ := boxes1 y2_1 #[.bool false, .slice none 0 0, .slice none 0 0] 34
        rw [hV]
        clear hV
        have gly2_11 : w1.heap.size ≤ y2_1.heap.size := sG
        replace szy2_11 : y2_1.heap.size < y2_11.heap.size := by omega
        replace g2 := g2.below hb9
        replace hG := hG.trans (hb9.mono sG)
        replace sG := hG.size
        clear hb9
        refine hK.out _ _ ⟨(b0.below hG).cell 0 _ rfl, (b0.below hG).cell 1 _ rfl, (b0.below hG).cell 2 _ rfl, (b1.below hG).cell 0 _ rfl, (b1.below hG).cell 1 _ rfl, (b1.below hG).cell 2 _ rfl⟩ (fun hHeld => ?_)
        clear hK K
        (try simp only [List.getElem_toArray, List.getElem_cons_succ, List.getElem_cons_zero, Act.put, List.setIfInBounds_toArray, List.set_cons_zero, List.set_cons_succ])
        refine wpAnyH_ready (rs := [3, 5]) (by kernel_rfl) (by simp) (AllReadyH.cons (o := _) rfl (fun K hK => ?_) (AllReadyH.cons (o := _) rfl (fun K hK => ?_) AllReadyH.nil))
        · go_simp
          go_at_call 11
          refine (refq_v (f1.below hG) (by omega)).mono ?_
          rintro e y2_12 ⟨s3, A3, n3, c3, D3, m3, e3, rfl, g3, hb9⟩
          have szy2_12 := hb9.size
          replace g2 := g2.below hb9
          replace b2 := b2.below hb9
          replace hG := hG.trans (hb9.mono sG)
          replace sG := hG.size
          clear hb9
          go_wp2_with fail
          refine hK.out _ _ ⟨(b0.below hG).cell 0 _ rfl, (b0.below hG).cell 1 _ rfl, (b0.below hG).cell 2 _ rfl, (b1.below hG).cell 0 _ rfl, (b1.below hG).cell 1 _ rfl, (b1.below hG).cell 2 _ rfl⟩ (fun hHeld => ?_)
          clear hK K
          (try simp only [List.getElem_toArray, List.getElem_cons_succ, List.getElem_cons_zero, Act.put, List.setIfInBounds_toArray, List.set_cons_zero, List.set_cons_succ])
          refine wpAnyH_ready (rs := [5]) (by kernel_rfl) (by simp) (AllReadyH.cons (o := _) rfl (fun K hK => ?_) AllReadyH.nil)
          go_simp
          obtain ⟨y2_13, hV, b3, hb9, szy2_13⟩ := boxes1 y2_12 #[.bool false, .slice none 0 0, .slice none 0 0] 34
          rw [hV]
          clear hV
          have gly2_13 : w1.heap.size ≤ y2_12.heap.size := sG
          replace szy2_13 : y2_12.heap.size < y2_13.heap.size := by omega
          replace g2 := g2.below hb9
          replace g3 := g3.below hb9
          replace b2 := b2.below hb9
          replace hG := hG.trans (hb9.mono sG)
          replace sG := hG.size
          clear hb9
          refine hK.out _ _ ⟨(b0.below hG).cell 0 _ rfl, (b0.below hG).cell 1 _ rfl, (b0.below hG).cell 2 _ rfl, (b1.below hG).cell 0 _ rfl, (b1.below hG).cell 1 _ rfl, (b1.below hG).cell 2 _ rfl⟩ (fun hHeld => ?_)
          clear hK K
          (try simp only [List.getElem_toArray, List.getElem_cons_succ, List.getElem_cons_zero, Act.put, List.setIfInBounds_toArray, List.set_cons_zero, List.set_cons_succ])
          have rb20 := b2.cell 0 _ rfl
          have qb20 := b2.frozen 0
          have rb21 := b2.cell 1 _ rfl
          have qb21 := b2.frozen 1
          have rb22 := b2.cell 2 _ rfl
          have qb22 := b2.frozen 2
          have rb30 := b3.cell 0 _ rfl
          have qb30 := b3.frozen 0
          have rb31 := b3.cell 1 _ rfl
          have qb31 := b3.frozen 1
          have rb32 := b3.cell 2 _ rfl
          have qb32 := b3.frozen 2
          refine wpAnyH_ready (rs := [6]) (by kernel_rfl) (by simp) (AllReadyH.cons (o := _) rfl (fun K hK => ?_) AllReadyH.nil)
          go_simp
          clear rb20 qb20
          clear rb21 qb21
          clear rb22 qb22
          clear rb30 qb30
          clear rb31 qb31
          clear rb32 qb32
          have hg := only_store3 y2_13 (y2_1.heap.size) (.bool s2) (.slice A2 n2 c2) (.slice D2 m2 e2)
          have hB := b2.stored3 (.bool s2) (.slice A2 n2 c2) (.slice D2 m2 e2)
          generalize hX : (((y2_13.setCell ⟨y2_1.heap.size, 0, none⟩ (.bool s2)).setCell ⟨y2_1.heap.size, 1, none⟩ (.slice A2 n2 c2)).setCell ⟨y2_1.heap.size, 2, none⟩ (.slice D2 m2 e2)) = Y2_14 at hg hB ⊢
          clear hX
          replace g2 := g2.kept b2 (by simp [notInt]) hg
          replace g3 := g3.kept b2 (by simp [notInt]) hg
          replace b3 := b3.other hg (by omega)
          replace b2 := hB
          replace hG := below_only hG hg (by omega) sG
          replace sG := hG.size
          clear hg hB
          refine hK.out _ _ ⟨(b0.below hG).cell 0 _ rfl, (b0.below hG).cell 1 _ rfl, (b0.below hG).cell 2 _ rfl, (b1.below hG).cell 0 _ rfl, (b1.below hG).cell 1 _ rfl, (b1.below hG).cell 2 _ rfl⟩ (fun hHeld => ?_)
          clear hK K
          (try simp only [List.getElem_toArray, List.getElem_cons_succ, List.getElem_cons_zero, Act.put, List.setIfInBounds_toArray, List.set_cons_zero, List.set_cons_succ])
          have rb20 := b2.cell 0 _ rfl
          have qb20 := b2.frozen 0
          have rb21 := b2.cell 1 _ rfl
          have qb21 := b2.frozen 1
          have rb22 := b2.cell 2 _ rfl
          have qb22 := b2.frozen 2
          have rb30 := b3.cell 0 _ rfl
          have qb30 := b3.frozen 0
          have rb31 := b3.cell 1 _ rfl
          have qb31 := b3.frozen 1
          have rb32 := b3.cell 2 _ rfl
          have qb32 := b3.frozen 2
          refine wpAnyH_ready (rs := [7]) (by kernel_rfl) (by simp) (AllReadyH.cons (o := _) rfl (fun K hK => ?_) AllReadyH.nil)
          go_simp
          clear rb20 qb20
          clear rb21 qb21
          clear rb22 qb22
          clear rb30 qb30
          clear rb31 qb31
          clear rb32 qb32
          have hg := only_store3 Y2_14 (y2_12.heap.size) (.bool s3) (.slice A3 n3 c3) (.slice D3 m3 e3)
          have hB := b3.stored3 (.bool s3) (.slice A3 n3 c3) (.slice D3 m3 e3)
          generalize hX : (((Y2_14.setCell ⟨y2_12.heap.size, 0, none⟩ (.bool s3)).setCell ⟨y2_12.heap.size, 1, none⟩ (.slice A3 n3 c3)).setCell ⟨y2_12.heap.size, 2, none⟩ (.slice D3 m3 e3)) = Y2_15 at hg hB ⊢
          clear hX
          replace g2 := g2.kept b3 (by simp [notInt]) hg
          replace g3 := g3.kept b3 (by simp [notInt]) hg
          replace b2 := b2.other hg (by omega)
          replace b3 := hB
          replace hG := below_only hG hg (by omega) sG
          replace sG := hG.size
          clear hg hB
          refine hK.out _ _ ⟨(b0.below hG).cell 0 _ rfl, (b0.below hG).cell 1 _ rfl, (b0.below hG).cell 2 _ rfl, (b1.below hG).cell 0 _ rfl, (b1.below hG).cell 1 _ rfl, (b1.below hG).cell 2 _ rfl⟩ (fun hHeld => ?_)
          clear hK K
          (try simp only [List.getElem_toArray, List.getElem_cons_succ, List.getElem_cons_zero, Act.put, List.setIfInBounds_toArray, List.set_cons_zero, List.set_cons_succ])
          refine wpAnyH_done (by kernel_rfl) ?_ _
          refine NoPanic.normal ?_
          go_wp2_with fail
          go_meet
          exact ⟨y2_1.heap.size, y2_12.heap.size, s2, A2, n2, c2, D2, m2, e2, s3, A3, n3, c3, D3, m3, e3, rfl, rfl, g2, g3, b2, b3, (by omega), (by omega), (by omega), hG⟩
        · go_simp
          obtain ⟨y2_16, hV, b3, hb9, szy2_16⟩ := boxes1 y2_11 #[.bool false, .slice none 0 0, .slice none 0 0] 34
          rw [hV]
          clear hV
          have gly2_16 : w1.heap.size ≤ y2_11.heap.size := sG
          replace szy2_16 : y2_11.heap.size < y2_16.heap.size := by omega
          replace g2 := g2.below hb9
          replace b2 := b2.below hb9
          replace hG := hG.trans (hb9.mono sG)
          replace sG := hG.size
          clear hb9
          refine hK.out _ _ ⟨(b0.below hG).cell 0 _ rfl, (b0.below hG).cell 1 _ rfl, (b0.below hG).cell 2 _ rfl, (b1.below hG).cell 0 _ rfl, (b1.below hG).cell 1 _ rfl, (b1.below hG).cell 2 _ rfl⟩ (fun hHeld => ?_)
          clear hK K
          (try simp only [List.getElem_toArray, List.getElem_cons_succ, List.getElem_cons_zero, Act.put, List.setIfInBounds_toArray, List.set_cons_zero, List.set_cons_succ])
          refine wpAnyH_ready (rs := [3]) (by kernel_rfl) (by simp) (AllReadyH.cons (o := _) rfl (fun K hK => ?_) AllReadyH.nil)
          go_simp
          go_at_call 11
          refine (refq_v (f1.below hG) (by omega)).mono ?_
          rintro e y2_17 ⟨s3, A3, n3, c3, D3, m3, e3, rfl, g3, hb9⟩
          have szy2_17 := hb9.size
          replace g2 := g2.below hb9
          replace b2 := b2.below hb9
          replace b3 := b3.below hb9
          replace hG := hG.trans (hb9.mono sG)
          replace sG := hG.size
          clear hb9
          go_wp2_with fail
          refine hK.out _ _ ⟨(b0.below hG).cell 0 _ rfl, (b0.below hG).cell 1 _ rfl, (b0.below hG).cell 2 _ rfl, (b1.below hG).cell 0 _ rfl, (b1.below hG).cell 1 _ rfl, (b1.below hG).cell 2 _ rfl⟩ (fun hHeld => ?_)
          clear hK K
          (try simp only [List.getElem_toArray, List.getElem_cons_succ, List.getElem_cons_zero, Act.put, List.setIfInBounds_toArray, List.set_cons_zero, List.set_cons_succ])
          have rb20 := b2.cell 0 _ rfl
          have qb20 := b2.frozen 0
          have rb21 := b2.cell 1 _ rfl
          have qb21 := b2.frozen 1
          have rb22 := b2.cell 2 _ rfl
          have qb22 := b2.frozen 2
          have rb30 := b3.cell 0 _ rfl
          have qb30 := b3.frozen 0
          have rb31 := b3.cell 1 _ rfl
          have qb31 := b3.frozen 1
          have rb32 := b3.cell 2 _ rfl
          have qb32 := b3.frozen 2
          refine wpAnyH_ready (rs := [6]) (by kernel_rfl) (by simp) (AllReadyH.cons (o := _) rfl (fun K hK => ?_) AllReadyH.nil)
          go_simp
          clear rb20 qb20
          clear rb21 qb21
          clear rb22 qb22
          clear rb30 qb30
          clear rb31 qb31
          clear rb32 qb32
          have hg := only_store3 y2_17 (y2_1.heap.size) (.bool s2) (.slice A2 n2 c2) (.slice D2 m2 e2)
          have hB := b2.stored3 (.bool s2) (.slice A2 n2 c2) (.slice D2 m2 e2)
          generalize hX : (((y2_17.setCell ⟨y2_1.heap.size, 0, none⟩ (.bool s2)).setCell ⟨y2_1.heap.size, 1, none⟩ (.slice A2 n2 c2)).setCell ⟨y2_1.heap.size, 2, none⟩ (.slice D2 m2 e2)) = Y2_18 at hg hB ⊢
          clear hX
          replace g2 := g2.kept b2 (by simp [notInt]) hg
          replace g3 := g3.kept b2 (by simp [notInt]) hg
          replace b3 := b3.other hg (by omega)
          replace b2 := hB
          replace hG := below_only hG hg (by omega) sG
          replace sG := hG.size
          clear hg hB
          refine hK.out _ _ ⟨(b0.below hG).cell 0 _ rfl, (b0.below hG).cell 1 _ rfl, (b0.below hG).cell 2 _ rfl, (b1.below hG).cell 0 _ rfl, (b1.below hG).cell 1 _ rfl, (b1.below hG).cell 2 _ rfl⟩ (fun hHeld => ?_)
          clear hK K
          (try simp only [List.getElem_toArray, List.getElem_cons_succ, List.getElem_cons_zero, Act.put, List.setIfInBounds_toArray, List.set_cons_zero, List.set_cons_succ])
          have rb20 := b2.cell 0 _ rfl
          have qb20 := b2.frozen 0
          have rb21 := b2.cell 1 _ rfl
          have qb21 := b2.frozen 1
          have rb22 := b2.cell 2 _ rfl
          have qb22 := b2.frozen 2
          have rb30 := b3.cell 0 _ rfl
          have qb30 := b3.frozen 0
          have rb31 := b3.cell 1 _ rfl
          have qb31 := b3.frozen 1
          have rb32 := b3.cell 2 _ rfl
          have qb32 := b3.frozen 2
          refine wpAnyH_ready (rs := [7]) (by kernel_rfl) (by simp) (AllReadyH.cons (o := _) rfl (fun K hK => ?_) AllReadyH.nil)
          go_simp
          clear rb20 qb20
          clear rb21 qb21
          clear rb22 qb22
          clear rb30 qb30
          clear rb31 qb31
          clear rb32 qb32
          have hg := only_store3 Y2_18 (y2_11.heap.size) (.bool s3) (.slice A3 n3 c3) (.slice D3 m3 e3)
          have hB := b3.stored3 (.bool s3) (.slice A3 n3 c3) (.slice D3 m3 e3)
          generalize hX : (((Y2_18.setCell ⟨y2_11.heap.size, 0, none⟩ (.bool s3)).setCell ⟨y2_11.heap.size, 1, none⟩ (.slice A3 n3 c3)).setCell ⟨y2_11.heap.size, 2, none⟩ (.slice D3 m3 e3)) = Y2_19 at hg hB ⊢
          clear hX
          replace g2 := g2.kept b3 (by simp [notInt]) hg
          replace g3 := g3.kept b3 (by simp [notInt]) hg
          replace b2 := b2.other hg (by omega)
          replace b3 := hB
          replace hG := below_only hG hg (by omega) sG
          replace sG := hG.size
          clear hg hB
          refine hK.out _ _ ⟨(b0.below hG).cell 0 _ rfl, (b0.below hG).cell 1 _ rfl, (b0.below hG).cell 2 _ rfl, (b1.below hG).cell 0 _ rfl, (b1.below hG).cell 1 _ rfl, (b1.below hG).cell 2 _ rfl⟩ (fun hHeld => ?_)
          clear hK K
          (try simp only [List.getElem_toArray, List.getElem_cons_succ, List.getElem_cons_zero, Act.put, List.setIfInBounds_toArray, List.set_cons_zero, List.set_cons_succ])
          refine wpAnyH_done (by kernel_rfl) ?_ _
          refine NoPanic.normal ?_
          go_wp2_with fail
          go_meet
          exact ⟨y2_1.heap.size, y2_11.heap.size, s2, A2, n2, c2, D2, m2, e2, s3, A3, n3, c3, D3, m3, e3, rfl, rfl, g2, g3, b2, b3, (by omega), (by omega), (by omega), hG⟩
      · go_simp
        obtain ⟨y2_20, hV, b3, hb9, szy2_20⟩ := boxes1 y2_1 #[.bool false, .slice none 0 0, .slice none 0 0] 34
        rw [hV]
        clear hV
        have gly2_20 : w1.heap.size ≤ y2_1.heap.size := sG
        replace szy2_20 : y2_1.heap.size < y2_20.heap.size := by omega
        replace g2 := g2.below hb9
        replace hG := hG.trans (hb9.mono sG)
        replace sG := hG.size
        clear hb9
        refine hK.out _ _ ⟨(b0.below hG).cell 0 _ rfl, (b0.below hG).cell 1 _ rfl, (b0.below hG).cell 2 _ rfl, (b1.below hG).cell 0 _ rfl, (b1.below hG).cell 1 _ rfl, (b1.below hG).cell 2 _ rfl⟩ (fun hHeld => ?_)
        clear hK K
        (try simp only [List.getElem_toArray, List.getElem_cons_succ, List.getElem_cons_zero, Act.put, List.setIfInBounds_toArray, List.set_cons_zero, List.set_cons_succ])
        refine wpAnyH_ready (rs := [3, 4]) (by kernel_rfl) (by simp) (AllReadyH.cons (o := _) rfl (fun K hK => ?_) (AllReadyH.cons (o := _) rfl (fun K hK => ?_) AllReadyH.nil))
        · go_simp
          go_at_call 11
          refine (refq_v (f1.below hG) (by omega)).mono ?_
          rintro e y2_21 ⟨s3, A3, n3, c3, D3, m3, e3, rfl, g3, hb9⟩
          have szy2_21 := hb9.size
          replace g2 := g2.below hb9
          replace b3 := b3.below hb9
          replace hG := hG.trans (hb9.mono sG)
          replace sG := hG.size
          clear hb9
          go_wp2_with fail
          refine hK.out _ _ ⟨(b0.below hG).cell 0 _ rfl, (b0.below hG).cell 1 _ rfl, (b0.below hG).cell 2 _ rfl, (b1.below hG).cell 0 _ rfl, (b1.below hG).cell 1 _ rfl, (b1.below hG).cell 2 _ rfl⟩ (fun hHeld => ?_)
          clear hK K
          (try simp only [List.getElem_toArray, List.getElem_cons_succ, List.getElem_cons_zero, Act.put, List.setIfInBounds_toArray, List.set_cons_zero, List.set_cons_succ])
          refine wpAnyH_ready (rs := [4]) (by kernel_rfl) (by simp) (AllReadyH.cons (o := _) rfl (fun K hK => ?_) AllReadyH.nil)
          go_simp
          obtain ⟨y2_22, hV, b2, hb9, szy2_22⟩ := boxes1 y2_21 #[.bool false, .slice none 0 0, .slice none 0 0] 34
          rw [hV]
          clear hV
          have gly2_22 : w1.heap.size ≤ y2_21.heap.size := sG
          replace szy2_22 : y2_21.heap.size < y2_22.heap.size := by omega
          replace g2 := g2.below hb9
          replace g3 := g3.below hb9
          replace b3 := b3.below hb9
          replace hG := hG.trans (hb9.mono sG)
          replace sG := hG.size
          clear hb9
          refine hK.out _ _ ⟨(b0.below hG).cell 0 _ rfl, (b0.below hG).cell 1 _ rfl, (b0.below hG).cell 2 _ rfl, (b1.below hG).cell 0 _ rfl, (b1.below hG).cell 1 _ rfl, (b1.below hG).cell 2 _ rfl⟩ (fun hHeld => ?_)
          clear hK K
          (try simp only [List.getElem_toArray, List.getElem_cons_succ, List.getElem_cons_zero, Act.put, List.setIfInBounds_toArray, List.set_cons_zero, List.set_cons_succ])
          have rb30 := b3.cell 0 _ rfl
          have qb30 := b3.frozen 0
          have rb31 := b3.cell 1 _ rfl
          have qb31 := b3.frozen 1
          have rb32 := b3.cell 2 _ rfl
          have qb32 := b3.frozen 2
          have rb20 := b2.cell 0 _ rfl
          have qb20 := b2.frozen 0
          have rb21 := b2.cell 1 _ rfl
          have qb21 := b2.frozen 1
          have rb22 := b2.cell 2 _ rfl
          have qb22 := b2.frozen 2
          refine wpAnyH_ready (rs := [6]) (by kernel_rfl) (by simp) (AllReadyH.cons (o := _) rfl (fun K hK => ?_) AllReadyH.nil)
          go_simp
          clear rb30 qb30
          clear rb31 qb31
          clear rb32 qb32
          clear rb20 qb20
          clear rb21 qb21
          clear rb22 qb22
          have hg := only_store3 y2_22 (y2_21.heap.size) (.bool s2) (.slice A2 n2 c2) (.slice D2 m2 e2)
          have hB := b2.stored3 (.bool s2) (.slice A2 n2 c2) (.slice D2 m2 e2)
          generalize hX : (((y2_22.setCell ⟨y2_21.heap.size, 0, none⟩ (.bool s2)).setCell ⟨y2_21.heap.size, 1, none⟩ (.slice A2 n2 c2)).setCell ⟨y2_21.heap.size, 2, none⟩ (.slice D2 m2 e2)) = Y2_23 at hg hB ⊢
          clear hX
          replace g2 := g2.kept b2 (by simp [notInt]) hg
          replace g3 := g3.kept b2 (by simp [notInt]) hg
          replace b3 := b3.other hg (by omega)
          replace b2 := hB
          replace hG := below_only hG hg (by omega) sG
          replace sG := hG.size
          clear hg hB
          refine hK.out _ _ ⟨(b0.below hG).cell 0 _ rfl, (b0.below hG).cell 1 _ rfl, (b0.below hG).cell 2 _ rfl, (b1.below hG).cell 0 _ rfl, (b1.below hG).cell 1 _ rfl, (b1.below hG).cell 2 _ rfl⟩ (fun hHeld => ?_)
          clear hK K
          (try simp only [List.getElem_toArray, List.getElem_cons_succ, List.getElem_cons_zero, Act.put, List.setIfInBounds_toArray, List.set_cons_zero, List.set_cons_succ])
          have rb30 := b3.cell 0 _ rfl
          have qb30 := b3.frozen 0
          have rb31 := b3.cell 1 _ rfl
          have qb31 := b3.frozen 1
          have rb32 := b3.cell 2 _ rfl
          have qb32 := b3.frozen 2
          have rb20 := b2.cell 0 _ rfl
          have qb20 := b2.frozen 0
          have rb21 := b2.cell 1 _ rfl
          have qb21 := b2.frozen 1
          have rb22 := b2.cell 2 _ rfl
          have qb22 := b2.frozen 2
          refine wpAnyH_ready (rs := [7]) (by kernel_rfl) (by simp) (AllReadyH.cons (o := _) rfl (fun K hK => ?_) AllReadyH.nil)
          go_simp
          clear rb30 qb30
          clear rb31 qb31
          clear rb32 qb32
          clear rb20 qb20
          clear rb21 qb21
          clear rb22 qb22
          have hg := only_store3 Y2_23 (y2_1.heap.size) (.bool s3) (.slice A3 n3 c3) (.slice D3 m3 e3)
          have hB := b3.stored3 (.bool s3) (.slice A3 n3 c3) (.slice D3 m3 e3)
          generalize hX : (((Y2_23.setCell ⟨y2_1.heap.size, 0, none⟩ (.bool s3)).setCell ⟨y2_1.heap.size, 1, none⟩ (.slice A3 n3 c3)).setCell ⟨y2_1.heap.size, 2, none⟩ (.slice D3 m3 e3)) = Y2_24 at hg hB ⊢
          clear hX
          replace g2 := g2.kept b3 (by simp [notInt]) hg
          replace g3 := g3.kept b3 (by simp [notInt]) hg
          replace b2 := b2.other hg (by omega)
          replace b3 := hB
          replace hG := below_only hG hg (by omega) sG
          replace sG := hG.size
          clear hg hB
          refine hK.out _ _ ⟨(b0.below hG).cell 0 _ rfl, (b0.below hG).cell 1 _ rfl, (b0.below hG).cell 2 _ rfl, (b1.below hG).cell 0 _ rfl, (b1.below hG).cell 1 _ rfl, (b1.below hG).cell 2 _ rfl⟩ (fun hHeld => ?_)
          clear hK K
          (try simp only [List.getElem_toArray, List.getElem_cons_succ, List.getElem_cons_zero, Act.put, List.setIfInBounds_toArray, List.set_cons_zero, List.set_cons_succ])
          refine wpAnyH_done (by kernel_rfl) ?_ _
          refine NoPanic.normal ?_
          go_wp2_with fail
          go_meet
          exact ⟨y2_21.heap.size, y2_1.heap.size, s2, A2, n2, c2, D2, m2, e2, s3, A3, n3, c3, D3, m3, e3, rfl, rfl, g2, g3, b2, b3, (by omega), (by omega), (by omega), hG⟩
        · go_simp
          obtain ⟨y2_25, hV, b2, hb9, szy2_25⟩ := boxes1 y2_20 #[.bool false, .slice none 0 0, .slice none 0 0] 34
          rw [hV]
          clear hV
          have gly2_25 : w1.heap.size ≤ y2_20.heap.size := sG
          replace szy2_25 : y2_20.heap.size < y2_25.heap.size := by omega
          replace g2 := g2.below hb9
          replace b3 := b3.below hb9
          replace hG := hG.trans (hb9.mono sG)
          replace sG := hG.size
          clear hb9
          refine hK.out _ _ ⟨(b0.below hG).cell 0 _ rfl, (b0.below hG).cell 1 _ rfl, (b0.below hG).cell 2 _ rfl, (b1.below hG).cell 0 _ rfl, (b1.below hG).cell 1 _ rfl, (b1.below hG).cell 2 _ rfl⟩ (fun hHeld => ?_)
          clear hK K
          (try simp only [List.getElem_toArray, List.getElem_cons_succ, List.getElem_cons_zero, Act.put, List.setIfInBounds_toArray, List.set_cons_zero, List.set_cons_succ])
          refine wpAnyH_ready (rs := [3]) (by kernel_rfl) (by simp) (AllReadyH.cons (o := _) rfl (fun K hK => ?_) AllReadyH.nil)
          go_simp
          go_at_call 11
          refine (refq_v (f1.below hG) (by omega)).mono ?_
          rintro e y2_26 ⟨s3, A3, n3, c3, D3, m3, e3, rfl, g3, hb9⟩
          have szy2_26 := hb9.size
          replace g2 := g2.below hb9
          replace b3 := b3.below hb9
          replace b2 := b2.below hb9
          replace hG := hG.trans (hb9.mono sG)
          replace sG := hG.size
          clear hb9
          go_wp2_with fail
          refine hK.out _ _ ⟨(b0.below hG).cell 0 _ rfl, (b0.below hG).cell 1 _ rfl, (b0.below hG).cell 2 _ rfl, (b1.below hG).cell 0 _ rfl, (b1.below hG).cell 1 _ rfl, (b1.below hG).cell 2 _ rfl⟩ (fun hHeld => ?_)
          clear hK K
          (try simp only [List.getElem_toArray, List.getElem_cons_succ, List.getElem_cons_zero, Act.put, List.setIfInBounds_toArray, List.set_cons_zero, List.set_cons_succ])
          have rb30 := b3.cell 0 _ rfl
          have qb30 := b3.frozen 0
          have rb31 := b3.cell 1 _ rfl
          have qb31 := b3.frozen 1
          have rb32 := b3.cell 2 _ rfl
          have qb32 := b3.frozen 2
          have rb20 := b2.cell 0 _ rfl
          have qb20 := b2.frozen 0
          have rb21 := b2.cell 1 _ rfl
          have qb21 := b2.frozen 1
          have rb22 := b2.cell 2 _ rfl
          have qb22 := b2.frozen 2
          refine wpAnyH_ready (rs := [6]) (by kernel_rfl) (by simp) (AllReadyH.cons (o := _) rfl (fun K hK => ?_) AllReadyH.nil)
          go_simp
          clear rb30 qb30
          clear rb31 qb31
          clear rb32 qb32
          clear rb20 qb20
          clear rb21 qb21
          clear rb22 qb22
          have hg := only_store3 y2_26 (y2_20.heap.size) (.bool s2) (.slice A2 n2 c2) (.slice D2 m2 e2)
          have hB := b2.stored3 (.bool s2) (.slice A2 n2 c2) (.slice D2 m2 e2)
          generalize hX : (((y2_26.setCell ⟨y2_20.heap.size, 0, none⟩ (.bool s2)).setCell ⟨y2_20.heap.size, 1, none⟩ (.slice A2 n2 c2)).setCell ⟨y2_20.heap.size, 2, none⟩ (.slice D2 m2 e2)) = Y2_27 at hg hB ⊢
          clear hX
          replace g2 := g2.kept b2 (by simp [notInt]) hg
          replace g3 := g3.kept b2 (by simp [notInt]) hg
          replace b3 := b3.other hg (by omega)
          replace b2 := hB
          replace hG := below_only hG hg (by omega) sG
          replace sG := hG.size
          clear hg hB
          refine hK.out _ _ ⟨(b0.below hG).cell 0 _ rfl, (b0.below hG).cell 1 _ rfl, (b0.below hG).cell 2 _ rfl, (b1.below hG).cell 0 _ rfl, (b1.below hG).cell 1 _ rfl, (b1.below hG).cell 2 _ rfl⟩ (fun hHeld => ?_)
          clear hK K
          (try simp only [List.getElem_toArray, List.getElem_cons_succ, List.getElem_cons_zero, Act.put, List.setIfInBounds_toArray, List.set_cons_zero, List.set_cons_succ])
          have rb30 := b3.cell 0 _ rfl
          have qb30 := b3.frozen 0
          have rb31 := b3.cell 1 _ rfl
          have qb31 := b3.frozen 1
          have rb32 := b3.cell 2 _ rfl
          have qb32 := b3.frozen 2
          have rb20 := b2.cell 0 _ rfl
          have qb20 := b2.frozen 0
          have rb21 := b2.cell 1 _ rfl
          have qb21 := b2.frozen 1
          have rb22 := b2.cell 2 _ rfl
          have qb22 := b2.frozen 2
          refine wpAnyH_ready (rs := [7]) (by kernel_rfl) (by simp) (AllReadyH.cons (o := _) rfl (fun K hK => ?_) AllReadyH.nil)
          go_simp
          clear rb30 qb30
          clear rb31 qb31
          clear rb32 qb32
          clear rb20 qb20
          clear rb21 qb21
          clear rb22 qb22
          have hg := only_store3 Y2_27 (y2_1.heap.size) (.bool s3) (.slice A3 n3 c3) (.slice D3 m3 e3)
          have hB := b3.stored3 (.bool s3) (.slice A3 n3 c3) (.slice D3 m3 e3)
          generalize hX : (((Y2_27.setCell ⟨y2_1.heap.size, 0, none⟩ (.bool s3)).setCell ⟨y2_1.heap.size, 1, none⟩ (.slice A3 n3 c3)).setCell ⟨y2_1.heap.size, 2, none⟩ (.slice D3 m3 e3)) = Y2_28 at hg hB ⊢
          clear hX
          replace g2 := g2.kept b3 (by simp [notInt]) hg
          replace g3 := g3.kept b3 (by simp [notInt]) hg
          replace b2 := b2.other hg (by omega)
          replace b3 := hB
          replace hG := below_only hG hg (by omega) sG
          replace sG := hG.size
          clear hg hB
          refine hK.out _ _ ⟨(b0.below hG).cell 0 _ rfl, (b0.below hG).cell 1 _ rfl, (b0.below hG).cell 2 _ rfl, (b1.below hG).cell 0 _ rfl, (b1.below hG).cell 1 _ rfl, (b1.below hG).cell 2 _ rfl⟩ (fun hHeld => ?_)
          clear hK K
          (try simp only [List.getElem_toArray, List.getElem_cons_succ, List.getElem_cons_zero, Act.put, List.setIfInBounds_toArray, List.set_cons_zero, List.set_cons_succ])
          refine wpAnyH_done (by kernel_rfl) ?_ _
          refine NoPanic.normal ?_
          go_wp2_with fail
          go_meet
          exact ⟨y2_20.heap.size, y2_1.heap.size, s2, A2, n2, c2, D2, m2, e2, s3, A3, n3, c3, D3, m3, e3, rfl, rfl, g2, g3, b2, b3, (by omega), (by omega), (by omega), hG⟩
    · go_simp
      obtain ⟨y2_29, hV, b2, hb9, szy2_29⟩ := boxes1 v2 #[.bool false, .slice none 0 0, .slice none 0 0] 34
      rw [hV]
      clear hV
      have gly2_29 : w1.heap.size ≤ v2.heap.size := sG
      replace szy2_29 : v2.heap.size < y2_29.heap.size := by omega
      replace hG := hG.trans (hb9.mono sG)
      replace sG := hG.size
      clear hb9
      refine hK.out _ _ ⟨(b0.below hG).cell 0 _ rfl, (b0.below hG).cell 1 _ rfl, (b0.below hG).cell 2 _ rfl, (b1.below hG).cell 0 _ rfl, (b1.below hG).cell 1 _ rfl, (b1.below hG).cell 2 _ rfl⟩ (fun hHeld => ?_)
      clear hK K
      (try simp only [List.getElem_toArray, List.getElem_cons_succ, List.getElem_cons_zero, Act.put, List.setIfInBounds_toArray, List.set_cons_zero, List.set_cons_succ])
      refine wpAnyH_ready (rs := [1, 5]) (by kernel_rfl) (by simp) (AllReadyH.cons (o := _) rfl (fun K hK => ?_) (AllReadyH.cons (o := _) rfl (fun K hK => ?_) AllReadyH.nil))
      · go_simp
        go_at_call 11
        refine (refq_v (f0.below hG) (by omega)).mono ?_
        rintro e y2_30 ⟨s2, A2, n2, c2, D2, m2, e2, rfl, g2, hb9⟩
        have szy2_30 := hb9.size
        replace b2 := b2.below hb9
        replace hG := hG.trans (hb9.mono sG)
        replace sG := hG.size
        clear hb9
        go_wp2_with fail
        refine hK.out _ _ ⟨(b0.below hG).cell 0 _ rfl, (b0.below hG).cell 1 _ rfl, (b0.below hG).cell 2 _ rfl, (b1.below hG).cell 0 _ rfl, (b1.below hG).cell 1 _ rfl, (b1.below hG).cell 2 _ rfl⟩ (fun hHeld => ?_)
        clear hK K
        (try simp only [List.getElem_toArray, List.getElem_cons_succ, List.getElem_cons_zero, Act.put, List.setIfInBounds_toArray, List.set_cons_zero, List.set_cons_succ])
        refine wpAnyH_ready (rs := [3, 5]) (by kernel_rfl) (by simp) (AllReadyH.cons (o := _) rfl (fun K hK => ?_) (AllReadyH.cons (o := _) rfl (fun K hK => ?_) AllReadyH.nil))
        · go_simp
          go_at_call 11
          refine (refq_v (f1.below hG) (by omega)).mono ?_
          rintro e y2_31 ⟨s3, A3, n3, c3, D3, m3, e3, rfl, g3, hb9⟩
          have szy2_31 := hb9.size
          replace g2 := g2.below hb9
          replace b2 := b2.below hb9
          replace hG := hG.trans (hb9.mono sG)
          replace sG := hG.size
          clear hb9
          go_wp2_with fail
          refine hK.out _ _ ⟨(b0.below hG).cell 0 _ rfl, (b0.below hG).cell 1 _ rfl, (b0.below hG).cell 2 _ rfl, (b1.below hG).cell 0 _ rfl, (b1.below hG).cell 1 _ rfl, (b1.below hG).cell 2 _ rfl⟩ (fun hHeld => ?_)
          clear hK K
          (try simp only [List.getElem_toArray, List.getElem_cons_succ, List.getElem_cons_zero, Act.put, List.setIfInBounds_toArray, List.set_cons_zero, List.set_cons_succ])
          refine wpAnyH_ready (rs := [5]) (by kernel_rfl) (by simp) (AllReadyH.cons (o := _) rfl (fun K hK => ?_) AllReadyH.nil)
          go_simp
          obtain ⟨y2_32, hV, b3, hb9, szy2_32⟩ := boxes1 y2_31 #[.bool false, .slice none 0 0, .slice none 0 0] 34
          rw [hV]
          clear hV
          have gly2_32 : w1.heap.size ≤ y2_31.heap.size := sG
          replace szy2_32 : y2_31.heap.size < y2_32.heap.size := by omega
          replace g2 := g2.below hb9
          replace g3 := g3.below hb9
          replace b2 := b2.below hb9
          replace hG := hG.trans (hb9.mono sG)
          replace sG := hG.size
          clear hb9
          refine hK.out _ _ ⟨(b0.below hG).cell 0 _ rfl, (b0.below hG).cell 1 _ rfl, (b0.below hG).cell 2 _ rfl, (b1.below hG).cell 0 _ rfl, (b1.below hG).cell 1 _ rfl, (b1.below hG).cell 2 _ rfl⟩ (fun hHeld => ?_)
          clear hK K
          (try simp only [List.getElem_toArray, List.getElem_cons_succ, List.getElem_cons_zero, Act.put, List.setIfInBounds_toArray, List.set_cons_zero, List.set_cons_succ])
          have rb20 := b2.cell 0 _ rfl
          have qb20 := b2.frozen 0
          have rb21 := b2.cell 1 _ rfl
          have qb21 := b2.frozen 1
          have rb22 := b2.cell 2 _ rfl
          have qb22 := b2.frozen 2
          have rb30 := b3.cell 0 _ rfl
          have qb30 := b3.frozen 0
          have rb31 := b3.cell 1 _ rfl
          have qb31 := b3.frozen 1
          have rb32 := b3.cell 2 _ rfl
          have qb32 := b3.frozen 2
          refine wpAnyH_ready (rs := [6]) (by kernel_rfl) (by simp) (AllReadyH.cons (o := _) rfl (fun K hK => ?_) AllReadyH.nil)
          go_simp
          clear rb20 qb20
          clear rb21 qb21
          clear rb22 qb22
          clear rb30 qb30
          clear rb31 qb31
          clear rb32 qb32
          have hg := only_store3 y2_32 (v2.heap.size) (.bool s2) (.slice A2 n2 c2) (.slice D2 m2 e2)
          have hB := b2.stored3 (.bool s2) (.slice A2 n2 c2) (.slice D2 m2 e2)
          generalize hX : (((y2_32.setCell ⟨v2.heap.size, 0, none⟩ (.bool s2)).setCell ⟨v2.heap.size, 1, none⟩ (.slice A2 n2 c2)).setCell ⟨v2.heap.size, 2, none⟩ (.slice D2 m2 e2)) = Y2_33 at hg hB ⊢
          clear hX
          replace g2 := g2.kept b2 (by simp [notInt]) hg
          replace g3 := g3.kept b2 (by simp [notInt]) hg
          replace b3 := b3.other hg (by omega)
          replace b2 := hB
          replace hG := below_only hG hg (by omega) sG
          replace sG := hG.size
          clear hg hB
          refine hK.out _ _ ⟨(b0.below hG).cell 0 _ rfl, (b0.below hG).cell 1 _ rfl, (b0.below hG).cell 2 _ rfl, (b1.below hG).cell 0 _ rfl, (b1.below hG).cell 1 _ rfl, (b1.below hG).cell 2 _ rfl⟩ (fun hHeld => ?_)
          clear hK K
          (try simp only [List.getElem_toArray, List.getElem_cons_succ, List.getElem_cons_zero, Act.put, List.setIfInBounds_toArray, List.set_cons_zero, List.set_cons_succ])
          have rb20 := b2.cell 0 _ rfl
          have qb20 := b2.frozen 0
          have rb21 := b2.cell 1 _ rfl
          have qb21 := b2.frozen 1
          have rb22 := b2.cell 2 _ rfl
          have qb22 := b2.frozen 2
          have rb30 := b3.cell 0 _ rfl
          have qb30 := b3.frozen 0
          have rb31 := b3.cell 1 _ rfl
          have qb31 := b3.frozen 1
          have rb32 := b3.cell 2 _ rfl
          have qb32 := b3.frozen 2
          refine wpAnyH_ready (rs := [7]) (by kernel_rfl) (by simp) (AllReadyH.cons (o := _) rfl (fun K hK => ?_) AllReadyH.nil)
          go_simp
          clear rb20 qb20
          clear rb21 qb21
          clear rb22 qb22
          clear rb30 qb30
          clear rb31 qb31
          clear rb32 qb32
          have hg := only_store3 Y2_33 (y2_31.heap.size) (.bool s3) (.slice A3 n3 c3) (.slice D3 m3 e3)
          have hB := b3.stored3 (.bool s3) (.slice A3 n3 c3) (.slice D3 m3 e3)
          generalize hX : (((Y2_33.setCell ⟨y2_31.heap.size, 0, none⟩ (.bool s3)).setCell ⟨y2_31.heap.size, 1, none⟩ (.slice A3 n3 c3)).setCell ⟨y2_31.heap.size, 2, none⟩ (.slice D3 m3 e3)) = Y2_34 at hg hB ⊢
          clear hX
          replace g2 := g2.kept b3 (by simp [notInt]) hg
          replace g3 := g3.kept b3 (by simp [notInt]) hg
          replace b2 := b2.other hg (by omega)
          replace b3 := hB
          replace hG := below_only hG hg (by omega) sG
          replace sG := hG.size
          clear hg hB
          refine hK.out _ _ ⟨(b0.below hG).cell 0 _ rfl, (b0.below hG).cell 1 _ rfl, (b0.below hG).cell 2 _ rfl, (b1.below hG).cell 0 _ rfl, (b1.below hG).cell 1 _ rfl, (b1.below hG).cell 2 _ rfl⟩ (fun hHeld => ?_)
          clear hK K
          (try simp only [List.getElem_toArray, List.getElem_cons_succ, List.getElem_cons_zero, Act.put, List.setIfInBounds_toArray, List.set_cons_zero, List.set_cons_succ])
          refine wpAnyH_done (by kernel_rfl) ?_ _
          refine NoPanic.normal ?_
          go_wp2_with fail
          go_meet
          exact ⟨v2.heap.size, y2_31.heap.size, s2, A2, n2, c2, D2, m2, e2, s3, A3, n3, c3, D3, m3, e3, rfl, rfl, g2, g3, b2, b3, (by omega), (by omega), (by omega), hG⟩
        · go_simp
          obtain ⟨y2_35, hV, b3, hb9, szy2_35⟩ := boxes1 y2_30 #[.bool false, .slice none 0 0, .slice none 0 0] 34
          rw [hV]
          clear hV
          have gly2_35 : w1.heap.size ≤ y2_30.heap.size := sG
          replace szy2_35 : y2_30.heap.size < y2_35.heap.size := by omega
          replace g2 := g2.below hb9
          replace b2 := b2.below hb9
          replace hG := hG.trans (hb9.mono sG)
          replace sG := hG.size
          clear hb9
          refine hK.out _ _ ⟨(b0.below hG).cell 0 _ rfl, (b0.below hG).cell 1 _ rfl, (b0.below hG).cell 2 _ rfl, (b1.below hG).cell 0 _ rfl, (b1.below hG).cell 1 _ rfl, (b1.below hG).cell 2 _ rfl⟩ (fun hHeld => ?_)
          clear hK K
          (try simp only [List.getElem_toArray, List.getElem_cons_succ, List.getElem_cons_zero, Act.put, List.setIfInBounds_toArray, List.set_cons_zero, List.set_cons_succ])
          refine wpAnyH_ready (rs := [3]) (by kernel_rfl) (by simp) (AllReadyH.cons (o := _) rfl (fun K hK => ?_) AllReadyH.nil)
          go_simp
          go_at_call 11
          refine (refq_v (f1.below hG) (by omega)).mono ?_
          rintro e y2_36 ⟨s3, A3, n3, c3, D3, m3, e3, rfl, g3, hb9⟩
          have szy2_36 := hb9.size
          replace g2 := g2.below hb9
          replace b2 := b2.below hb9
          replace b3 := b3.below hb9
          replace hG := hG.trans (hb9.mono sG)
          replace sG := hG.size
          clear hb9
          go_wp2_with fail
          refine hK.out _ _ ⟨(b0.below hG).cell 0 _ rfl, (b0.below hG).cell 1 _ rfl, (b0.below hG).cell 2 _ rfl, (b1.below hG).cell 0 _ rfl, (b1.below hG).cell 1 _ rfl, (b1.below hG).cell 2 _ rfl⟩ (fun hHeld => ?_)
          clear hK K
          (try simp only [List.getElem_toArray, List.getElem_cons_succ, List.getElem_cons_zero, Act.put, List.setIfInBounds_toArray, List.set_cons_zero, List.set_cons_succ])
          have rb20 := b2.cell 0 _ rfl
          have qb20 := b2.frozen 0
          have rb21 := b2.cell 1 _ rfl
          have qb21 := b2.frozen 1
          have rb22 := b2.cell 2 _ rfl
          have qb22 := b2.frozen 2
          have rb30 := b3.cell 0 _ rfl
          have qb30 := b3.frozen 0
          have rb31 := b3.cell 1 _ rfl
          have qb31 := b3.frozen 1
          have rb32 := b3.cell 2 _ rfl
          have qb32 := b3.frozen 2
          refine wpAnyH_ready (rs := [6]) (by kernel_rfl) (by simp) (AllReadyH.cons (o := _) rfl (fun K hK => ?_) AllReadyH.nil)
          go_simp
          clear rb20 qb20
          clear rb21 qb21
          clear rb22 qb22
          clear rb30 qb30
          clear rb31 qb31
          clear rb32 qb32
          have hg := only_store3 y2_36 (v2.heap.size) (.bool s2) (.slice A2 n2 c2) (.slice D2 m2 e2)
          have hB := b2.stored3 (.bool s2) (.slice A2 n2 c2) (.slice D2 m2 e2)
          generalize hX : (((y2_36.setCell ⟨v2.heap.size, 0, none⟩ (.bool s2)).setCell ⟨v2.heap.size, 1, none⟩ (.slice A2 n2 c2)).setCell ⟨v2.heap.size, 2, none⟩ (.slice D2 m2 e2)) = Y2_37 at hg hB ⊢
          clear hX
          replace g2 := g2.kept b2 (by simp [notInt]) hg
          replace g3 := g3.kept b2 (by simp [notInt]) hg
          replace b3 := b3.other hg (by omega)
          replace b2 := hB
          replace hG := below_only hG hg (by omega) sG
          replace sG := hG.size
          clear hg hB
          refine hK.out _ _ ⟨(b0.below hG).cell 0 _ rfl, (b0.below hG).cell 1 _ rfl, (b0.below hG).cell 2 _ rfl, (b1.below hG).cell 0 _ rfl, (b1.below hG).cell 1 _ rfl, (b1.below hG).cell 2 _ rfl⟩ (fun hHeld => ?_)
          clear hK K
          (try simp only [List.getElem_toArray, List.getElem_cons_succ, List.getElem_cons_zero, Act.put, List.setIfInBounds_toArray, List.set_cons_zero, List.set_cons_succ])
          have rb20 := b2.cell 0 _ rfl
          have qb20 := b2.frozen 0
          have rb21 := b2.cell 1 _ rfl
          have qb21 := b2.frozen 1
          have rb22 := b2.cell 2 _ rfl
          have qb22 := b2.frozen 2
          have rb30 := b3.cell 0 _ rfl
          have qb30 := b3.frozen 0
          have rb31 := b3.cell 1 _ rfl
          have qb31 := b3.frozen 1
          have rb32 := b3.cell 2 _ rfl
          have qb32 := b3.frozen 2
          refine wpAnyH_ready (rs := [7]) (by kernel_rfl) (by simp) (AllReadyH.cons (o := _) rfl (fun K hK => ?_) AllReadyH.nil)
          go_simp
          clear rb20 qb20
          clear rb21 qb21
          clear rb22 qb22
          clear rb30 qb30
          clear rb31 qb31
          clear rb32 qb32
          have hg := only_store3 Y2_37 (y2_30.heap.size) (.bool s3) (.slice A3 n3 c3) (.slice D3 m3 e3)
          have hB := b3.stored3 (.bool s3) (.slice A3 n3 c3) (.slice D3 m3 e3)
          generalize hX : (((Y2_37.setCell ⟨y2_30.heap.size, 0, none⟩ (.bool s3)).setCell ⟨y2_30.heap.size, 1, none⟩ (.slice A3 n3 c3)).setCell ⟨y2_30.heap.size, 2, none⟩ (.slice D3 m3 e3)) = Y2_38 at hg hB ⊢
          clear hX
          replace g2 := g2.kept b3 (by simp [notInt]) hg
          replace g3 := g3.kept b3 (by simp [notInt]) hg
          replace b2 := b2.other hg (by omega)
          replace b3 := hB
          replace hG := below_only hG hg (by omega) sG
          replace sG := hG.size
          clear hg hB
          refine hK.out _ _ ⟨(b0.below hG).cell 0 _ rfl, (b0.below hG).cell 1 _ rfl, (b0.below hG).cell 2 _ rfl, (b1.below hG).cell 0 _ rfl, (b1.below hG).cell 1 _ rfl, (b1.below hG).cell 2 _ rfl⟩ (fun hHeld => ?_)
          clear hK K
          (try simp only [List.getElem_toArray, List.getElem_cons_succ, List.getElem_cons_zero, Act.put, List.setIfInBounds_toArray, List.set_cons_zero, List.set_cons_succ])
          refine wpAnyH_done (by kernel_rfl) ?_ _
          refine NoPanic.normal ?_
          go_wp2_with fail
          go_meet
          exact ⟨v2.heap.size, y2_30.heap.size, s2, A2, n2, c2, D2, m2, e2, s3, A3, n3, c3, D3, m3, e3, rfl, rfl, g2, g3, b2, b3, (by omega), (by omega), (by omega), hG⟩
      · go_simp
        obtain ⟨y2_39, hV, b3, hb9, szy2_39⟩ := boxes1 y2_29 #[.bool false, .slice none 0 0, .slice none 0 0] 34
        rw [hV]
        clear hV
        have gly2_39 : w1.heap.size ≤ y2_29.heap.size := sG
        replace szy2_39 : y2_29.heap.size < y2_39.heap.size := by omega
        replace b2 := b2.below hb9
        replace hG := hG.trans (hb9.mono sG)
        replace sG := hG.size
        clear hb9
        refine hK.out _ _ ⟨(b0.below hG).cell 0 _ rfl, (b0.below hG).cell 1 _ rfl, (b0.below hG).cell 2 _ rfl, (b1.below hG).cell 0 _ rfl, (b1.below hG).cell 1 _ rfl, (b1.below hG).cell 2 _ rfl⟩ (fun hHeld => ?_)
        clear hK K
        (try simp only [List.getElem_toArray, List.getElem_cons_succ, List.getElem_cons_zero, Act.put, List.setIfInBounds_toArray, List.set_cons_zero, List.set_cons_succ])
        refine wpAnyH_ready (rs := [1]) (by kernel_rfl) (by simp) (AllReadyH.cons (o := _) rfl (fun K hK => ?_) AllReadyH.nil)
        go_simp
        go_at_call 11
        refine (refq_v (f0.below hG) (by omega)).mono ?_
        rintro e y2_40 ⟨s2, A2, n2, c2, D2, m2, e2, rfl, g2, hb9⟩
        have szy2_40 := hb9.size
        replace b2 := b2.below hb9
        replace b3 := b3.below hb9
        replace hG := hG.trans (hb9.mono sG)
        replace sG := hG.size
        clear hb9
        go_wp2_with fail
        refine hK.out _ _ ⟨(b0.below hG).cell 0 _ rfl, (b0.below hG).cell 1 _ rfl, (b0.below hG).cell 2 _ rfl, (b1.below hG).cell 0 _ rfl, (b1.below hG).cell 1 _ rfl, (b1.below hG).cell 2 _ rfl⟩ (fun hHeld => ?_)
        clear hK K
        (try simp only [List.getElem_toArray, List.getElem_cons_succ, List.getElem_cons_zero, Act.put, List.setIfInBounds_toArray, List.set_cons_zero, List.set_cons_succ])
        refine wpAnyH_ready (rs := [3]) (by kernel_rfl) (by simp) (AllReadyH.cons (o := _) rfl (fun K hK => ?_) AllReadyH.nil)
        go_simp
        go_at_call 11
        refine (refq_v (f1.below hG) (by omega)).mono ?_
        rintro e y2_41 ⟨s3, A3, n3, c3, D3, m3, e3, rfl, g3, hb9⟩
        have szy2_41 := hb9.size
        replace g2 := g2.below hb9
        replace b2 := b2.below hb9
        replace b3 := b3.below hb9
        replace hG := hG.trans (hb9.mono sG)
        replace sG := hG.size
        clear hb9
        go_wp2_with fail
        refine hK.out _ _ ⟨(b0.below hG).cell 0 _ rfl, (b0.below hG).cell 1 _ rfl, (b0.below hG).cell 2 _ rfl, (b1.below hG).cell 0 _ rfl, (b1.below hG).cell 1 _ rfl, (b1.below hG).cell 2 _ rfl⟩ (fun hHeld => ?_)
        clear hK K
        (try simp only [List.getElem_toArray, List.getElem_cons_succ, List.getElem_cons_zero, Act.put, List.setIfInBounds_toArray, List.set_cons_zero, List.set_cons_succ])
        have rb20 := b2.cell 0 _ rfl
        have qb20 := b2.frozen 0
        have rb21 := b2.cell 1 _ rfl
        have qb21 := b2.frozen 1
        have rb22 := b2.cell 2 _ rfl
        have qb22 := b2.frozen 2
        have rb30 := b3.cell 0 _ rfl
        have qb30 := b3.frozen 0
        have rb31 := b3.cell 1 _ rfl
        have qb31 := b3.frozen 1
        have rb32 := b3.cell 2 _ rfl
        have qb32 := b3.frozen 2
        refine wpAnyH_ready (rs := [6]) (by kernel_rfl) (by simp) (AllReadyH.cons (o := _) rfl (fun K hK => ?_) AllReadyH.nil)
        go_simp
        clear rb20 qb20
        clear rb21 qb21
        clear rb22 qb22
        clear rb30 qb30
        clear rb31 qb31
        clear rb32 qb32
        have hg := only_store3 y2_41 (v2.heap.size) (.bool s2) (.slice A2 n2 c2) (.slice D2 m2 e2)
        have hB := b2.stored3 (.bool s2) (.slice A2 n2 c2) (.slice D2 m2 e2)
        generalize hX : (((y2_41.setCell ⟨v2.heap.size, 0, none⟩ (.bool s2)).setCell ⟨v2.heap.size, 1, none⟩ (.slice A2 n2 c2)).setCell ⟨v2.heap.size, 2, none⟩ (.slice D2 m2 e2)) = Y2_42 at hg hB ⊢
        clear hX
        replace g2 := g2.kept b2 (by simp [notInt]) hg
        replace g3 := g3.kept b2 (by simp [notInt]) hg
        replace b3 := b3.other hg (by omega)
        replace b2 := hB
        replace hG := below_only hG hg (by omega) sG
        replace sG := hG.size
        clear hg hB
        refine hK.out _ _ ⟨(b0.below hG).cell 0 _ rfl, (b0.below hG).cell 1 _ rfl, (b0.below hG).cell 2 _ rfl, (b1.below hG).cell 0 _ rfl, (b1.below hG).cell 1 _ rfl, (b1.below hG).cell 2 _ rfl⟩ (fun hHeld => ?_)
        clear hK K
        (try simp only [List.getElem_toArray, List.getElem_cons_succ, List.getElem_cons_zero, Act.put, List.setIfInBounds_toArray, List.set_cons_zero, List.set_cons_succ])
        have rb20 := b2.cell 0 _ rfl
        have qb20 := b2.frozen 0
        have rb21 := b2.cell 1 _ rfl
        have qb21 := b2.frozen 1
        have rb22 := b2.cell 2 _ rfl
        have qb22 := b2.frozen 2
        have rb30 := b3.cell 0 _ rfl
        have qb30 := b3.frozen 0
        have rb31 := b3.cell 1 _ rfl
        have qb31 := b3.frozen 1
        have rb32 := b3.cell 2 _ rfl
        have qb32 := b3.frozen 2
        refine wpAnyH_ready (rs := [7]) (by kernel_rfl) (by simp) (AllReadyH.cons (o := _) rfl (fun K hK => ?_) AllReadyH.nil)
        go_simp
        clear rb20 qb20
        clear rb21 qb21
        clear rb22 qb22
        clear rb30 qb30
        clear rb31 qb31
        clear rb32 qb32
        have hg := only_store3 Y2_42 (y2_29.heap.size) (.bool s3) (.slice A3 n3 c3) (.slice D3 m3 e3)
        have hB := b3.stored3 (.bool s3) (.slice A3 n3 c3) (.slice D3 m3 e3)
        generalize hX : (((Y2_42.setCell ⟨y2_29.heap.size, 0, none⟩ (.bool s3)).setCell ⟨y2_29.heap.size, 1, none⟩ (.slice A3 n3 c3)).setCell ⟨y2_29.heap.size, 2, none⟩ (.slice D3 m3 e3)) = Y2_43 at hg hB ⊢
        clear hX
        replace g2 := g2.kept b3 (by simp [notInt]) hg
        replace g3 := g3.kept b3 (by simp [notInt]) hg
        replace b2 := b2.other hg (by omega)
        replace b3 := hB
        replace hG := below_only hG hg (by omega) sG
        replace sG := hG.size
        clear hg hB
        refine hK.out _ _ ⟨(b0.below hG).cell 0 _ rfl, (b0.below hG).cell 1 _ rfl, (b0.below hG).cell 2 _ rfl, (b1.below hG).cell 0 _ rfl, (b1.below hG).cell 1 _ rfl, (b1.below hG).cell 2 _ rfl⟩ (fun hHeld => ?_)
        clear hK K
        (try simp only [List.getElem_toArray, List.getElem_cons_succ, List.getElem_cons_zero, Act.put, List.setIfInBounds_toArray, List.set_cons_zero, List.set_cons_succ])
        refine wpAnyH_done (by kernel_rfl) ?_ _
        refine NoPanic.normal ?_
        go_wp2_with fail
        go_meet
        exact ⟨v2.heap.size, y2_29.heap.size, s2, A2, n2, c2, D2, m2, e2, s3, A3, n3, c3, D3, m3, e3, rfl, rfl, g2, g3, b2, b3, (by omega), (by omega), (by omega), hG⟩
    · go_simp
      obtain ⟨y2_44, hV, b3, hb9, szy2_44⟩ := boxes1 v2 #[.bool false, .slice none 0 0, .slice none 0 0] 34
      rw [hV]
      clear hV
      have gly2_44 : w1.heap.size ≤ v2.heap.size := sG
      replace szy2_44 : v2.heap.size < y2_44.heap.size := by omega
      replace hG := hG.trans (hb9.mono sG)
      replace sG := hG.size
      clear hb9
      refine hK.out _ _ ⟨(b0.below hG).cell 0 _ rfl, (b0.below hG).cell 1 _ rfl, (b0.below hG).cell 2 _ rfl, (b1.below hG).cell 0 _ rfl, (b1.below hG).cell 1 _ rfl, (b1.below hG).cell 2 _ rfl⟩ (fun hHeld => ?_)
      clear hK K
      (try simp only [List.getElem_toArray, List.getElem_cons_succ, List.getElem_cons_zero, Act.put, List.setIfInBounds_toArray, List.set_cons_zero, List.set_cons_succ])
      refine wpAnyH_ready (rs := [1, 4]) (by kernel_rfl) (by simp) (AllReadyH.cons (o := _) rfl (fun K hK => ?_) (AllReadyH.cons (o := _) rfl (fun K hK => ?_) AllReadyH.nil))
      · go_simp
        go_at_call 11
        refine (refq_v (f0.below hG) (by omega)).mono ?_
        rintro e y2_45 ⟨s2, A2, n2, c2, D2, m2, e2, rfl, g2, hb9⟩
        have szy2_45 := hb9.size
        replace b3 := b3.below hb9
        replace hG := hG.trans (hb9.mono sG)
        replace sG := hG.size
        clear hb9
        go_wp2_with fail
        refine hK.out _ _ ⟨(b0.below hG).cell 0 _ rfl, (b0.below hG).cell 1 _ rfl, (b0.below hG).cell 2 _ rfl, (b1.below hG).cell 0 _ rfl, (b1.below hG).cell 1 _ rfl, (b1.below hG).cell 2 _ rfl⟩ (fun hHeld => ?_)
        clear hK K
        (try simp only [List.getElem_toArray, List.getElem_cons_succ, List.getElem_cons_zero, Act.put, List.setIfInBounds_toArray, List.set_cons_zero, List.set_cons_succ])
        refine wpAnyH_ready (rs := [3, 4]) (by kernel_rfl) (by simp) (AllReadyH.cons (o := _) rfl (fun K hK => ?_) (AllReadyH.cons (o := _) rfl (fun K hK => ?_) AllReadyH.nil))
        · go_simp
          go_at_call 11
          refine (refq_v (f1.below hG) (by omega)).mono ?_
          rintro e y2_46 ⟨s3, A3, n3, c3, D3, m3, e3, rfl, g3, hb9⟩
          have szy2_46 := hb9.size
          replace g2 := g2.below hb9
          replace b3 := b3.below hb9
          replace hG := hG.trans (hb9.mono sG)
          replace sG := hG.size
          clear hb9
          go_wp2_with fail
          refine hK.out _ _ ⟨(b0.below hG).cell 0 _ rfl, (b0.below hG).cell 1 _ rfl, (b0.below hG).cell 2 _ rfl, (b1.below hG).cell 0 _ rfl, (b1.below hG).cell 1 _ rfl, (b1.below hG).cell 2 _ rfl⟩ (fun hHeld => ?_)
          clear hK K
          (try simp only [List.getElem_toArray, List.getElem_cons_succ, List.getElem_cons_zero, Act.put, List.setIfInBounds_toArray, List.set_cons_zero, List.set_cons_succ])
          refine wpAnyH_ready (rs := [4]) (by kernel_rfl) (by simp) (AllReadyH.cons (o := _) rfl (fun K hK => ?_) AllReadyH.nil)
          go_simp
          obtain ⟨y2_47, hV, b2, hb9, szy2_47⟩ := boxes1 y2_46 #[.bool false, .slice none 0 0, .slice none 0 0] 34
          rw [hV]
          clear hV
          have gly2_47 : w1.heap.size ≤ y2_46.heap.size := sG
          replace szy2_47 : y2_46.heap.size < y2_47.heap.size := by omega
          replace g2 := g2.below hb9
          replace g3 := g3.below hb9
          replace b3 := b3.below hb9
          replace hG := hG.trans (hb9.mono sG)
          replace sG := hG.size
          clear hb9
          refine hK.out _ _ ⟨(b0.below hG).cell 0 _ rfl, (b0.below hG).cell 1 _ rfl, (b0.below hG).cell 2 _ rfl, (b1.below hG).cell 0 _ rfl, (b1.below hG).cell 1 _ rfl, (b1.below hG).cell 2 _ rfl⟩ (fun hHeld => ?_)
          clear hK K
          (try simp only [List.getElem_toArray, List.getElem_cons_succ, List.getElem_cons_zero, Act.put, List.setIfInBounds_toArray, List.set_cons_zero, List.set_cons_succ])
          have rb30 := b3.cell 0 _ rfl
          have qb30 := b3.frozen 0
          have rb31 := b3.cell 1 _ rfl
          have qb31 := b3.frozen 1
          have rb32 := b3.cell 2 _ rfl
          have qb32 := b3.frozen 2
          have rb20 := b2.cell 0 _ rfl
          have qb20 := b2.frozen 0
          have rb21 := b2.cell 1 _ rfl
          have qb21 := b2.frozen 1
          have rb22 := b2.cell 2 _ rfl
          have qb22 := b2.frozen 2
          refine wpAnyH_ready (rs := [6]) (by kernel_rfl) (by simp) (AllReadyH.cons (o := _) rfl (fun K hK => ?_) AllReadyH.nil)
          go_simp
          clear rb30 qb30
          clear rb31 qb31
          clear rb32 qb32
          clear rb20 qb20
          clear rb21 qb21
          clear rb22 qb22
          have hg := only_store3 y2_47 (y2_46.heap.size) (.bool s2) (.slice A2 n2 c2) (.slice D2 m2 e2)
          have hB := b2.stored3 (.bool s2) (.slice A2 n2 c2) (.slice D2 m2 e2)
          generalize hX : (((y2_47.setCell ⟨y2_46.heap.size, 0, none⟩ (.bool s2)).setCell ⟨y2_46.heap.size, 1, none⟩ (.slice A2 n2 c2)).setCell ⟨y2_46.heap.size, 2, none⟩ (.slice D2 m2 e2)) = Y2_48 at hg hB ⊢
          clear hX
          replace g2 := g2.kept b2 (by simp [notInt]) hg
          replace g3 := g3.kept b2 (by simp [notInt]) hg
          replace b3 := b3.other hg (by omega)
          replace b2 := hB
          replace hG := below_only hG hg (by omega) sG
          replace sG := hG.size
          clear hg hB
          refine hK.out _ _ ⟨(b0.below hG).cell 0 _ rfl, (b0.below hG).cell 1 _ rfl, (b0.below hG).cell 2 _ rfl, (b1.below hG).cell 0 _ rfl, (b1.below hG).cell 1 _ rfl, (b1.below hG).cell 2 _ rfl⟩ (fun hHeld => ?_)
          clear hK K
          (try simp only [List.getElem_toArray, List.getElem_cons_succ, List.getElem_cons_zero, Act.put, List.setIfInBounds_toArray, List.set_cons_zero, List.set_cons_succ])
          have rb30 := b3.cell 0 _ rfl
          have qb30 := b3.frozen 0
          have rb31 := b3.cell 1 _ rfl
          have qb31 := b3.frozen 1
          have rb32 := b3.cell 2 _ rfl
          have qb32 := b3.frozen 2
          have rb20 := b2.cell 0 _ rfl
          have qb20 := b2.frozen 0
          have rb21 := b2.cell 1 _ rfl
          have qb21 := b2.frozen 1
          have rb22 := b2.cell 2 _ rfl
          have qb22 := b2.frozen 2
          refine wpAnyH_ready (rs := [7]) (by kernel_rfl) (by simp) (AllReadyH.cons (o := _) rfl (fun K hK => ?_) AllReadyH.nil)
          go_simp
          clear rb30 qb30
          clear rb31 qb31
          clear rb32 qb32
          clear rb20 qb20
          clear rb21 qb21
          clear rb22 qb22
          have hg := only_store3 Y2_48 (v2.heap.size) (.bool s3) (.slice A3 n3 c3) (.slice D3 m3 e3)
          have hB := b3.stored3 (.bool s3) (.slice A3 n3 c3) (.slice D3 m3 e3)
          generalize hX : (((Y2_48.setCell ⟨v2.heap.size, 0, none⟩ (.bool s3)).setCell ⟨v2.heap.size, 1, none⟩ (.slice A3 n3 c3)).setCell ⟨v2.heap.size, 2, none⟩ (.slice D3 m3 e3)) = Y2_49 at hg hB ⊢
          clear hX
          replace g2 := g2.kept b3 (by simp [notInt]) hg
          replace g3 := g3.kept b3 (by simp [notInt]) hg
          replace b2 := b2.other hg (by omega)
          replace b3 := hB
          replace hG := below_only hG hg (by omega) sG
          replace sG := hG.size
          clear hg hB
          refine hK.out _ _ ⟨(b0.below hG).cell 0 _ rfl, (b0.below hG).cell 1 _ rfl, (b0.below hG).cell 2 _ rfl, (b1.below hG).cell 0 _ rfl, (b1.below hG).cell 1 _ rfl, (b1.below hG).cell 2 _ rfl⟩ (fun hHeld => ?_)
          clear hK K
          (try simp only [List.getElem_toArray, List.getElem_cons_succ, List.getElem_cons_zero, Act.put, List.setIfInBounds_toArray, List.set_cons_zero, List.set_cons_succ])
          refine wpAnyH_done (by kernel_rfl) ?_ _
          refine NoPanic.normal ?_
          go_wp2_with fail
          go_meet
          exact ⟨y2_46.heap.size, v2.heap.size, s2, A2, n2, c2, D2, m2, e2, s3, A3, n3, c3, D3, m3, e3, rfl, rfl, g2, g3, b2, b3, (by omega), (by omega), (by omega), hG⟩
        · go_simp
          obtain ⟨y2_50, hV, b2, hb9, szy2_50⟩ := boxes1 y2_45 #[.bool false, .slice none 0 0, .slice none 0 0] 34
          rw [hV]
          clear hV
          have gly2_50 : w1.heap.size ≤ y2_45.heap.size := sG
          replace szy2_50 : y2_45.heap.size < y2_50.heap.size := by omega
          replace g2 := g2.below hb9
          replace b3 := b3.below hb9
          replace hG := hG.trans (hb9.mono sG)
          replace sG := hG.size
          clear hb9
          refine hK.out _ _ ⟨(b0.below hG).cell 0 _ rfl, (b0.below hG).cell 1 _ rfl, (b0.below hG).cell 2 _ rfl, (b1.below hG).cell 0 _ rfl, (b1.below hG).cell 1 _ rfl, (b1.below hG).cell 2 _ rfl⟩ (fun hHeld => ?_)
          clear hK K
          (try simp only [List.getElem_toArray, List.getElem_cons_succ, List.getElem_cons_zero, Act.put, List.setIfInBounds_toArray, List.set_cons_zero, List.set_cons_succ])
          refine wpAnyH_ready (rs := [3]) (by kernel_rfl) (by simp) (AllReadyH.cons (o := _) rfl (fun K hK => ?_) AllReadyH.nil)
          go_simp
          go_at_call 11
          refine (refq_v (f1.below hG) (by omega)).mono ?_
          rintro e y2_51 ⟨s3, A3, n3, c3, D3, m3, e3, rfl, g3, hb9⟩
          have szy2_51 := hb9.size
          replace g2 := g2.below hb9
          replace b3 := b3.below hb9
          replace b2 := b2.below hb9
          replace hG := hG.trans (hb9.mono sG)
          replace sG := hG.size
          clear hb9
          go_wp2_with fail
          refine hK.out _ _ ⟨(b0.below hG).cell 0 _ rfl, (b0.below hG).cell 1 _ rfl, (b0.below hG).cell 2 _ rfl, (b1.below hG).cell 0 _ rfl, (b1.below hG).cell 1 _ rfl, (b1.below hG).cell 2 _ rfl⟩ (fun hHeld => ?_)
          clear hK K
          (try simp only [List.getElem_toArray, List.getElem_cons_succ, List.getElem_cons_zero, Act.put, List.setIfInBounds_toArray, List.set_cons_zero, List.set_cons_succ])
          have rb30 := b3.cell 0 _ rfl
          have qb30 := b3.frozen 0
          have rb31 := b3.cell 1 _ rfl
          have qb31 := b3.frozen 1
          have rb32 := b3.cell 2 _ rfl
          have qb32 := b3.frozen 2
          have rb20 := b2.cell 0 _ rfl
          have qb20 := b2.frozen 0
          have rb21 := b2.cell 1 _ rfl
          have qb21 := b2.frozen 1
          have rb22 := b2.cell 2 _ rfl
          have qb22 := b2.frozen 2
          refine wpAnyH_ready (rs := [6]) (by kernel_rfl) (by simp) (AllReadyH.cons (o := _) rfl (fun K hK => ?_) AllReadyH.nil)
          go_simp
          clear rb30 qb30
          clear rb31 qb31
          clear rb32 qb32
          clear rb20 qb20
          clear rb21 qb21
          clear rb22 qb22
          have hg := only_store3 y2_51 (y2_45.heap.size) (.bool s2) (.slice A2 n2 c2) (.slice D2 m2 e2)
          have hB := b2.stored3 (.bool s2) (.slice A2 n2 c2) (.slice D2 m2 e2)
          generalize hX : (((y2_51.setCell ⟨y2_45.heap.size, 0, none⟩ (.bool s2)).setCell ⟨y2_45.heap.size, 1, none⟩ (.slice A2 n2 c2)).setCell ⟨y2_45.heap.size, 2, none⟩ (.slice D2 m2 e2)) = Y2_52 at hg hB ⊢
          clear hX
          replace g2 := g2.kept b2 (by simp [notInt]) hg
          replace g3 := g3.kept b2 (by simp [notInt]) hg
          replace b3 := b3.other hg (by omega)
          replace b2 := hB
          replace hG := below_only hG hg (by omega) sG
          replace sG := hG.size
          clear hg hB
          refine hK.out _ _ ⟨(b0.below hG).cell 0 _ rfl, (b0.below hG).cell 1 _ rfl, (b0.below hG).cell 2 _ rfl, (b1.below hG).cell 0 _ rfl, (b1.below hG).cell 1 _ rfl, (b1.below hG).cell 2 _ rfl⟩ (fun hHeld => ?_)
          clear hK K
          (try simp only [List.getElem_toArray, List.getElem_cons_succ, List.getElem_cons_zero, Act.put, List.setIfInBounds_toArray, List.set_cons_zero, List.set_cons_succ])
          have rb30 := b3.cell 0 _ rfl
          have qb30 := b3.frozen 0
          have rb31 := b3.cell 1 _ rfl
          have qb31 := b3.frozen 1
          have rb32 := b3.cell 2 _ rfl
          have qb32 := b3.frozen 2
          have rb20 := b2.cell 0 _ rfl
          have qb20 := b2.frozen 0
          have rb21 := b2.cell 1 _ rfl
          have qb21 := b2.frozen 1
          have rb22 := b2.cell 2 _ rfl
          have qb22 := b2.frozen 2
          refine wpAnyH_ready (rs := [7]) (by kernel_rfl) (by simp) (AllReadyH.cons (o := _) rfl (fun K hK => ?_) AllReadyH.nil)
          go_simp
          clear rb30 qb30
          clear rb31 qb31
          clear rb32 qb32
          clear rb20 qb20
          clear rb21 qb21
          clear rb22 qb22
          have hg := only_store3 Y2_52 (v2.heap.size) (.bool s3) (.slice A3 n3 c3) (.slice D3 m3 e3)
          have hB := b3.stored3 (.bool s3) (.slice A3 n3 c3) (.slice D3 m3 e3)
          generalize hX : (((Y2_52.setCell ⟨v2.heap.size, 0, none⟩ (.bool s3)).setCell ⟨v2.heap.size, 1, none⟩ (.slice A3 n3 c3)).setCell ⟨v2.heap.size, 2, none⟩ (.slice D3 m3 e3)) = Y2_53 at hg hB ⊢
          clear hX
          replace g2 := g2.kept b3 (by simp [notInt]) hg
          replace g3 := g3.kept b3 (by simp [notInt]) hg
          replace b2 := b2.other hg (by omega)
          replace b3 := hB
          replace hG := below_only hG hg (by omega) sG
          replace sG := hG.size
          clear hg hB
          refine hK.out _ _ ⟨(b0.below hG).cell 0 _ rfl, (b0.below hG).cell 1 _ rfl, (b0.below hG).cell 2 _ rfl, (b1.below hG).cell 0 _ rfl, (b1.below hG).cell 1 _ rfl, (b1.below hG).cell 2 _ rfl⟩ (fun hHeld => ?_)
          clear hK K
          (try simp only [List.getElem_toArray, List.getElem_cons_succ, List.getElem_cons_zero, Act.put, List.setIfInBounds_toArray, List.set_cons_zero, List.set_cons_succ])
          refine wpAnyH_done (by kernel_rfl) ?_ _
          refine NoPanic.normal ?_
          go_wp2_with fail
          go_meet
          exact ⟨y2_45.heap.size, v2.heap.size, s2, A2, n2, c2, D2, m2, e2, s3, A3, n3, c3, D3, m3, e3, rfl, rfl, g2, g3, b2, b3, (by omega), (by omega), (by omega), hG⟩
      · go_simp
        obtain ⟨y2_54, hV, b2, hb9, szy2_54⟩ := boxes1 y2_44 #[.bool false, .slice none 0 0, .slice none 0 0] 34
        rw [hV]
        clear hV
        have gly2_54 : w1.heap.size ≤ y2_44.heap.size := sG
        replace szy2_54 : y2_44.heap.size < y2_54.heap.size := by omega
        replace b3 := b3.below hb9
        replace hG := hG.trans (hb9.mono sG)
        replace sG := hG.size
        clear hb9
        refine hK.out _ _ ⟨(b0.below hG).cell 0 _ rfl, (b0.below hG).cell 1 _ rfl, (b0.below hG).cell 2 _ rfl, (b1.below hG).cell 0 _ rfl, (b1.below hG).cell 1 _ rfl, (b1.below hG).cell 2 _ rfl⟩ (fun hHeld => ?_)
        clear hK K
        (try simp only [List.getElem_toArray, List.getElem_cons_succ, List.getElem_cons_zero, Act.put, List.setIfInBounds_toArray, List.set_cons_zero, List.set_cons_succ])
        refine wpAnyH_ready (rs := [1]) (by kernel_rfl) (by simp) (AllReadyH.cons (o := _) rfl (fun K hK => ?_) AllReadyH.nil)
        go_simp
        go_at_call 11
        refine (refq_v (f0.below hG) (by omega)).mono ?_
        rintro e y2_55 ⟨s2, A2, n2, c2, D2, m2, e2, rfl, g2, hb9⟩
        have szy2_55 := hb9.size
        replace b3 := b3.below hb9
        replace b2 := b2.below hb9
        replace hG := hG.trans (hb9.mono sG)
        replace sG := hG.size
        clear hb9
        go_wp2_with fail
        refine hK.out _ _ ⟨(b0.below hG).cell 0 _ rfl, (b0.below hG).cell 1 _ rfl, (b0.below hG).cell 2 _ rfl, (b1.below hG).cell 0 _ rfl, (b1.below hG).cell 1 _ rfl, (b1.below hG).cell 2 _ rfl⟩ (fun hHeld => ?_)
        clear hK K
        (try simp only [List.getElem_toArray, List.getElem_cons_succ, List.getElem_cons_zero, Act.put, List.setIfInBounds_toArray, List.set_cons_zero, List.set_cons_succ])
        refine wpAnyH_ready (rs := [3]) (by kernel_rfl) (by simp) (AllReadyH.cons (o := _) rfl (fun K hK => ?_) AllReadyH.nil)
        go_simp
        go_at_call 11
        refine (refq_v (f1.below hG) (by omega)).mono ?_
        rintro e y2_56 ⟨s3, A3, n3, c3, D3, m3, e3, rfl, g3, hb9⟩
        have szy2_56 := hb9.size
        replace g2 := g2.below hb9
        replace b3 := b3.below hb9
        replace b2 := b2.below hb9
        replace hG := hG.trans (hb9.mono sG)
        replace sG := hG.size
        clear hb9
        go_wp2_with fail
        refine hK.out _ _ ⟨(b0.below hG).cell 0 _ rfl, (b0.below hG).cell 1 _ rfl, (b0.below hG).cell 2 _ rfl, (b1.below hG).cell 0 _ rfl, (b1.below hG).cell 1 _ rfl, (b1.below hG).cell 2 _ rfl⟩ (fun hHeld => ?_)
        clear hK K
        (try simp only [List.getElem_toArray, List.getElem_cons_succ, List.getElem_cons_zero, Act.put, List.setIfInBounds_toArray, List.set_cons_zero, List.set_cons_succ])
        have rb30 := b3.cell 0 _ rfl
        have qb30 := b3.frozen 0
        have rb31 := b3.cell 1 _ rfl
        have qb31 := b3.frozen 1
        have rb32 := b3.cell 2 _ rfl
        have qb32 := b3.frozen 2
        have rb20 := b2.cell 0 _ rfl
        have qb20 := b2.frozen 0
        have rb21 := b2.cell 1 _ rfl
        have qb21 := b2.frozen 1
        have rb22 := b2.cell 2 _ rfl
        have qb22 := b2.frozen 2
        refine wpAnyH_ready (rs := [6]) (by kernel_rfl) (by simp) (AllReadyH.cons (o := _) rfl (fun K hK => ?_) AllReadyH.nil)
        go_simp
        clear rb30 qb30
        clear rb31 qb31
        clear rb32 qb32
        clear rb20 qb20
        clear rb21 qb21
        clear rb22 qb22
        have hg := only_store3 y2_56 (y2_44.heap.size) (.bool s2) (.slice A2 n2 c2) (.slice D2 m2 e2)
        have hB := b2.stored3 (.bool s2) (.slice A2 n2 c2) (.slice D2 m2 e2)
        generalize hX : (((y2_56.setCell ⟨y2_44.heap.size, 0, none⟩ (.bool s2)).setCell ⟨y2_44.heap.size, 1, none⟩ (.slice A2 n2 c2)).setCell ⟨y2_44.heap.size, 2, none⟩ (.slice D2 m2 e2)) = Y2_57 at hg hB ⊢
        clear hX
        replace g2 := g2.kept b2 (by simp [notInt]) hg
        replace g3 := g3.kept b2 (by simp [notInt]) hg
        replace b3 := b3.other hg (by omega)
        replace b2 := hB
        replace hG := below_only hG hg (by omega) sG
        replace sG := hG.size
        clear hg hB
        refine hK.out _ _ ⟨(b0.below hG).cell 0 _ rfl, (b0.below hG).cell 1 _ rfl, (b0.below hG).cell 2 _ rfl, (b1.below hG).cell 0 _ rfl, (b1.below hG).cell 1 _ rfl, (b1.below hG).cell 2 _ rfl⟩ (fun hHeld => ?_)
        clear hK K
        (try simp only [List.getElem_toArray, List.getElem_cons_succ, List.getElem_cons_zero, Act.put, List.setIfInBounds_toArray, List.set_cons_zero, List.set_cons_succ])
        have rb30 := b3.cell 0 _ rfl
        have qb30 := b3.frozen 0
        have rb31 := b3.cell 1 _ rfl
        have qb31 := b3.frozen 1
        have rb32 := b3.cell 2 _ rfl
        have qb32 := b3.frozen 2
        have rb20 := b2.cell 0 _ rfl
        have qb20 := b2.frozen 0
        have rb21 := b2.cell 1 _ rfl
        have qb21 := b2.frozen 1
        have rb22 := b2.cell 2 _ rfl
        have qb22 := b2.frozen 2
        refine wpAnyH_ready (rs := [7]) (by kernel_rfl) (by simp) (AllReadyH.cons (o := _) rfl (fun K hK => ?_) AllReadyH.nil)
        go_simp
        clear rb30 qb30
        clear rb31 qb31
        clear rb32 qb32
        clear rb20 qb20
        clear rb21 qb21
        clear rb22 qb22
        have hg := only_store3 Y2_57 (v2.heap.size) (.bool s3) (.slice A3 n3 c3) (.slice D3 m3 e3)
        have hB := b3.stored3 (.bool s3) (.slice A3 n3 c3) (.slice D3 m3 e3)
        generalize hX : (((Y2_57.setCell ⟨v2.heap.size, 0, none⟩ (.bool s3)).setCell ⟨v2.heap.size, 1, none⟩ (.slice A3 n3 c3)).setCell ⟨v2.heap.size, 2, none⟩ (.slice D3 m3 e3)) = Y2_58 at hg hB ⊢
        clear hX
        replace g2 := g2.kept b3 (by simp [notInt]) hg
        replace g3 := g3.kept b3 (by simp [notInt]) hg
        replace b2 := b2.other hg (by omega)
        replace b3 := hB
        replace hG := below_only hG hg (by omega) sG
        replace sG := hG.size
        clear hg hB
        refine hK.out _ _ ⟨(b0.below hG).cell 0 _ rfl, (b0.below hG).cell 1 _ rfl, (b0.below hG).cell 2 _ rfl, (b1.below hG).cell 0 _ rfl, (b1.below hG).cell 1 _ rfl, (b1.below hG).cell 2 _ rfl⟩ (fun hHeld => ?_)
        clear hK K
        (try simp only [List.getElem_toArray, List.getElem_cons_succ, List.getElem_cons_zero, Act.put, List.setIfInBounds_toArray, List.set_cons_zero, List.set_cons_succ])
        refine wpAnyH_done (by kernel_rfl) ?_ _
        refine NoPanic.normal ?_
        go_wp2_with fail
        go_meet
        exact ⟨y2_44.heap.size, v2.heap.size, s2, A2, n2, c2, D2, m2, e2, s3, A3, n3, c3, D3, m3, e3, rfl, rfl, g2, g3, b2, b3, (by omega), (by omega), (by omega), hG⟩
  obtain ⟨g2_0, g2_1, s2, A2, n2, c2, D2, m2, e2, s3, A3, n3, c3, D3, m3, e3, rfl, rfl, g2, g3, b2, b3, glg2_0, glg2_1, gn2, hG⟩ := hcut
  replace i0 := i0.below hG
  replace i1 := i1.below hG
  replace r0 := r0.below hG
  replace r1 := r1.below hG
  replace f0 := f0.below hG
  replace f1 := f1.below hG
  replace b0 := b0.below hG
  replace b1 := b1.below hG
  replace H0 := H0.trans (hG.mono H0.size)
  clear hG
  have cb00 := b0.cell 0 _ rfl
  have cb01 := b0.cell 1 _ rfl
  have cb02 := b0.cell 2 _ rfl
  have cb10 := b1.cell 0 _ rfl
  have cb11 := b1.cell 1 _ rfl
  have cb12 := b1.cell 2 _ rfl
  go_wp2_with fail
  obtain ⟨bb, hbb⟩ : ∃ b, decide (z1 ≠ 0) = b := ⟨_, rfl⟩
  have HBB := Lib.hid hbb
  clear hbb
  clear cb00 cb01 cb02 cb10 cb11 cb12
  refine (rnew_b i0 i1 HBB.out (by omega)).mono ?_
  rintro e w4 ⟨s9, A9, n9, c9, D9, m9, e9, rfl, g9, hb⟩
  replace i0 := i0.below hb
  replace i1 := i1.below hb
  replace r0 := r0.below hb
  replace r1 := r1.below hb
  replace f0 := f0.below hb
  replace f1 := f1.below hb
  replace g2 := g2.below hb
  replace g3 := g3.below hb
  replace b0 := b0.below hb
  replace b1 := b1.below hb
  replace b2 := b2.below hb
  replace b3 := b3.below hb
  replace H0 := H0.trans (hb.mono H0.size)
  clear hb
  have lb0_5 := b0.lt
  have lb1_5 := b1.lt
  have lb2_5 := b2.lt
  have lb3_5 := b3.lt
  obtain ⟨W5, hW, b9, hbW, hszW5⟩ := boxes1 w4 #[.bool s9, .slice A9 n9 c9, .slice D9 m9 e9] 27
  skip
  skip
  replace i0 := i0.below hbW
  replace i1 := i1.below hbW
  replace r0 := r0.below hbW
  replace r1 := r1.below hbW
  replace f0 := f0.below hbW
  replace f1 := f1.below hbW
  replace g2 := g2.below hbW
  replace g3 := g3.below hbW
  replace g9 := g9.below hbW
  replace b0 := b0.below hbW
  replace b1 := b1.below hbW
  replace b2 := b2.below hbW
  replace b3 := b3.below hbW
  replace H0 := H0.trans (hbW.mono H0.size)
  clear hbW
  have cb10 := b1.cell 0 _ rfl
  have cb11 := b1.cell 1 _ rfl
  have cb12 := b1.cell 2 _ rfl
  go_wp2_with fail
  clear hW
  clear cb10 cb11 cb12
  refine (refI_v i1).mono ?_
  rintro e w6 ⟨s7, A7, n7, c7, rfl, g7, hb⟩
  replace i0 := i0.below hb
  replace i1 := i1.below hb
  replace r0 := r0.below hb
  replace r1 := r1.below hb
  replace f0 := f0.below hb
  replace f1 := f1.below hb
  replace g2 := g2.below hb
  replace g3 := g3.below hb
  replace g9 := g9.below hb
  replace b0 := b0.below hb
  replace b1 := b1.below hb
  replace b2 := b2.below hb
  replace b3 := b3.below hb
  replace b9 := b9.below hb
  replace H0 := H0.trans (hb.mono H0.size)
  clear hb
  have lb0_7 := b0.lt
  have lb1_7 := b1.lt
  have lb2_7 := b2.lt
  have lb3_7 := b3.lt
  have lb9_7 := b9.lt
  obtain ⟨W7, hW, b7, hbW, hszW7⟩ := boxes1 w6 #[.bool s7, .slice A7 n7 c7] 32
  skip
  skip
  replace i0 := i0.below hbW
  replace i1 := i1.below hbW
  replace r0 := r0.below hbW
  replace r1 := r1.below hbW
  replace f0 := f0.below hbW
  replace f1 := f1.below hbW
  replace g2 := g2.below hbW
  replace g3 := g3.below hbW
  replace g9 := g9.below hbW
  replace g7 := g7.below hbW
  replace b0 := b0.below hbW
  replace b1 := b1.below hbW
  replace b2 := b2.below hbW
  replace b3 := b3.below hbW
  replace b9 := b9.below hbW
  replace H0 := H0.trans (hbW.mono H0.size)
  clear hbW
  have cb00 := b0.cell 0 _ rfl
  have cb01 := b0.cell 1 _ rfl
  have cb02 := b0.cell 2 _ rfl
  have cb10 := b1.cell 0 _ rfl
  have cb11 := b1.cell 1 _ rfl
  have cb12 := b1.cell 2 _ rfl
  have cb90 := b9.cell 0 _ rfl
  have cb91 := b9.cell 1 _ rfl
  have cb92 := b9.cell 2 _ rfl
  have cb70 := b7.cell 0 _ rfl
  have cb71 := b7.cell 1 _ rfl
  go_wp2_with fail
  clear hW
  clear cb00 cb01 cb02 cb10 cb11 cb12 cb90 cb91 cb92 cb70 cb71
  go_cut [9, 63] from 12 (fun s9 s63 wx => s9 = .pointer (some ⟨w4.heap.size, 0, none⟩) ∧ s63 = .bool false ∧ Below W7.heap.size W7 wx)
  case first =>
    have H0 : Below W7.heap.size W7 W7 := Below.refl _ _
    rcases Decidable.em (z1 = 0) with h0 | h0
    · subst h0
      have hb1 : bb = false := HBB.out.symm.trans (by simp)
      subst hb1
      rw [Rat.divInt_zero] at g9
      have hl := nv_zero g7.1
      subst hl
      have hD := drawn_below W7
      replace i0 := i0.below hD
      replace i1 := i1.below hD
      replace r0 := r0.below hD
      replace r1 := r1.below hD
      replace f0 := f0.below hD
      replace f1 := f1.below hD
      replace g2 := g2.below hD
      replace g3 := g3.below hD
      replace g9 := g9.below hD
      replace g7 := g7.below hD
      replace b0 := b0.below hD
      replace b1 := b1.below hD
      replace b2 := b2.below hD
      replace b3 := b3.below hD
      replace b9 := b9.below hD
      replace b7 := b7.below hD
      replace H0 := H0.trans (hD.mono H0.size)
      clear hD
      refine wp_region_noPanic ?_
      refine wp_region_held_drew (S := (fun V => V.cell? ⟨w4.heap.size, 0, none⟩ = some (.bool s9) ∧ V.cell? ⟨w4.heap.size, 1, none⟩ = some (.slice A9 n9 c9) ∧ V.cell? ⟨w4.heap.size, 2, none⟩ = some (.slice D9 m9 e9) ∧ V.cell? ⟨w6.heap.size, 0, none⟩ = some (.bool s7) ∧ V.cell? ⟨w6.heap.size, 1, none⟩ = some (.slice A7 0 c7))) (by kernel_rfl) ⟨b9.cell 0 _ rfl, b9.cell 1 _ rfl, b9.cell 2 _ rfl, b7.cell 0 _ rfl, b7.cell 1 _ rfl⟩ (fun hHeld => ?_)
      generalize W7.drew = v8 at H0 hHeld i0 i1 r0 r1 f0 f1 g2 g3 g9 g7 b0 b1 b2 b3 b9 b7 ⊢
      refine wpAnyH_take (i := 0) (v := ?_) rfl (by kernel_rfl) (by kernel_rfl) (by kernel_rfl) (fun _ _ _ h => h) (Or.inl ⟨by rfl, ?_⟩) (by assumption) ?_
      rotate_left
      · (intro w hSw; (try dsimp only at hSw); go_simp; (try with_reducible rfl))
      (try simp only [List.getElem_toArray, List.getElem_cons_zero, Act.put, List.setIfInBounds_toArray, List.set_cons_zero, List.set_cons_succ])
      refine wpAnyH_take (i := 1) (v := ?_) rfl (by kernel_rfl) (by kernel_rfl) (by kernel_rfl) (fun _ _ _ h => h) (Or.inl ⟨by rfl, ?_⟩) (by assumption) ?_
      rotate_left
      · (intro w hSw; (try dsimp only at hSw); go_simp; (try with_reducible rfl))
      (try simp only [List.getElem_toArray, List.getElem_cons_succ, List.getElem_cons_zero, Act.put, List.setIfInBounds_toArray, List.set_cons_zero, List.set_cons_succ])
      refine wpAnyH_take (i := 2) (v := ?_) rfl (by kernel_rfl) (by kernel_rfl) (by kernel_rfl) (fun _ _ _ h => h) (Or.inl ⟨by rfl, ?_⟩) (by assumption) ?_
      rotate_left
      · (intro w hSw; (try dsimp only at hSw); go_simp; (try with_reducible rfl))
      (try simp only [List.getElem_toArray, List.getElem_cons_succ, List.getElem_cons_zero, Act.put, List.setIfInBounds_toArray, List.set_cons_zero, List.set_cons_succ])
      refine wpAnyH_take (i := 3) (v := ?_) rfl (by kernel_rfl) (by kernel_rfl) (by kernel_rfl) (fun _ _ _ h => h) (Or.inl ⟨by rfl, ?_⟩) (by assumption) ?_
      rotate_left
      · (intro w hSw; (try dsimp only at hSw); go_simp; (try with_reducible rfl))
      (try simp only [List.getElem_toArray, List.getElem_cons_succ, List.getElem_cons_zero, Act.put, List.setIfInBounds_toArray, List.set_cons_zero, List.set_cons_succ])
      refine wpAnyH_take (i := 4) (v := ?_) rfl (by kernel_rfl) (by kernel_rfl) (by kernel_rfl) (fun _ _ _ h => h) (Or.inl ⟨by rfl, ?_⟩) (by assumption) ?_
      rotate_left
      · (intro w hSw; (try dsimp only at hSw); go_simp; (try with_reducible rfl))
      (try simp only [List.getElem_toArray, List.getElem_cons_succ, List.getElem_cons_zero, Act.put, List.setIfInBounds_toArray, List.set_cons_zero, List.set_cons_succ])
      refine wpAnyH_take (i := 5) (v := ?_) rfl (by kernel_rfl) (by kernel_rfl) (by kernel_rfl) (fun _ _ _ h => h) (Or.inl ⟨by rfl, ?_⟩) (by assumption) ?_
      rotate_left
      · (intro w hSw; (try dsimp only at hSw); go_simp; (try with_reducible rfl))
      (try simp only [List.getElem_toArray, List.getElem_cons_succ, List.getElem_cons_zero, Act.put, List.setIfInBounds_toArray, List.set_cons_zero, List.set_cons_succ])
      refine wpAnyH_take (i := 6) (v := ?_) rfl (by kernel_rfl) (by kernel_rfl) (by kernel_rfl) (fun _ _ _ h => h) (Or.inl ⟨by rfl, ?_⟩) (by assumption) ?_
      rotate_left
      · (intro w hSw; (try dsimp only at hSw); go_simp; (try with_reducible rfl))
      (try simp only [List.getElem_toArray, List.getElem_cons_succ, List.getElem_cons_zero, Act.put, List.setIfInBounds_toArray, List.set_cons_zero, List.set_cons_succ])
      refine wpAnyH_take (i := 7) (v := ?_) rfl (by kernel_rfl) (by kernel_rfl) (by kernel_rfl) (fun _ _ _ h => h) (Or.inl ⟨by rfl, ?_⟩) (by assumption) ?_
      rotate_left
      · (intro w hSw; (try dsimp only at hSw); go_simp; (try with_reducible rfl))
      (try simp only [List.getElem_toArray, List.getElem_cons_succ, List.getElem_cons_zero, Act.put, List.setIfInBounds_toArray, List.set_cons_zero, List.set_cons_succ])
      refine wpAnyH_take (i := 8) (v := ?_) rfl (by kernel_rfl) (by kernel_rfl) (by kernel_rfl) (fun _ _ _ h => h) (Or.inl ⟨by rfl, ?_⟩) (by assumption) ?_
      rotate_left
      · (intro w hSw; (try dsimp only at hSw); go_simp; (try with_reducible rfl))
      (try simp only [List.getElem_toArray, List.getElem_cons_succ, List.getElem_cons_zero, Act.put, List.setIfInBounds_toArray, List.set_cons_zero, List.set_cons_succ])
      refine wpAnyH_take (i := 9) (v := ?_) rfl (by kernel_rfl) (by kernel_rfl) (by kernel_rfl) (fun _ _ _ h => h) (Or.inl ⟨by rfl, ?_⟩) (by assumption) ?_
      rotate_left
      · (intro w hSw; (try dsimp only at hSw); go_simp; (try with_reducible rfl))
      (try simp only [List.getElem_toArray, List.getElem_cons_succ, List.getElem_cons_zero, Act.put, List.setIfInBounds_toArray, List.set_cons_zero, List.set_cons_succ])
      refine wpAnyH_take (i := 10) (v := ?_) rfl (by kernel_rfl) (by kernel_rfl) (by kernel_rfl) (fun _ _ _ h => h) (Or.inl ⟨by rfl, ?_⟩) (by assumption) ?_
      rotate_left
      · (intro w hSw; (try dsimp only at hSw); go_simp; (try with_reducible rfl))
      (try simp only [List.getElem_toArray, List.getElem_cons_succ, List.getElem_cons_zero, Act.put, List.setIfInBounds_toArray, List.set_cons_zero, List.set_cons_succ])
      refine wpAnyH_take (i := 11) (v := ?_) rfl (by kernel_rfl) (by kernel_rfl) (by kernel_rfl) (fun _ _ _ h => h) (Or.inl ⟨by rfl, ?_⟩) (by assumption) ?_
      rotate_left
      · (intro w hSw; (try dsimp only at hSw); go_simp; (try with_reducible rfl))
      (try simp only [List.getElem_toArray, List.getElem_cons_succ, List.getElem_cons_zero, Act.put, List.setIfInBounds_toArray, List.set_cons_zero, List.set_cons_succ])
      refine wpAnyH_ready (rs := [12]) (by kernel_rfl) (by simp) (AllReadyH.cons (o := _) rfl (fun K hK => ?_) AllReadyH.nil)
      go_simp
      go_at_call 14
      refine (same3_t g9 (PQ.zero (L := 1) _) (by omega) rfl).mono ?_
      rintro e w9 ⟨rfl, hb⟩
      replace i0 := i0.below hb
      replace i1 := i1.below hb
      replace r0 := r0.below hb
      replace r1 := r1.below hb
      replace f0 := f0.below hb
      replace f1 := f1.below hb
      replace g2 := g2.below hb
      replace g3 := g3.below hb
      replace g9 := g9.below hb
      replace g7 := g7.below hb
      replace b0 := b0.below hb
      replace b1 := b1.below hb
      replace b2 := b2.below hb
      replace b3 := b3.below hb
      replace b9 := b9.below hb
      replace b7 := b7.below hb
      replace H0 := H0.trans (hb.mono H0.size)
      clear hb
      clear g9
      go_wp2_with fail
      refine hK.out _ _ ⟨b9.cell 0 _ rfl, b9.cell 1 _ rfl, b9.cell 2 _ rfl, b7.cell 0 _ rfl, b7.cell 1 _ rfl⟩ (fun hHeld => ?_)
      clear hK K
      (try simp only [List.getElem_toArray, List.getElem_cons_succ, List.getElem_cons_zero, Act.put, List.setIfInBounds_toArray, List.set_cons_zero, List.set_cons_succ])
      refine wpAnyH_take (i := 13) (v := ?_) rfl (by kernel_rfl) (by kernel_rfl) (by kernel_rfl) (fun _ _ _ h => h) (Or.inl ⟨by rfl, ?_⟩) (by assumption) ?_
      rotate_left
      · (intro w hSw; (try dsimp only at hSw); go_simp; (try with_reducible rfl))
      (try simp only [List.getElem_toArray, List.getElem_cons_succ, List.getElem_cons_zero, Act.put, List.setIfInBounds_toArray, List.set_cons_zero, List.set_cons_succ])
      refine wpAnyH_take (i := 14) (v := ?_) rfl (by kernel_rfl) (by kernel_rfl) (by kernel_rfl) (fun _ _ _ h => h) (Or.inl ⟨by rfl, ?_⟩) (by assumption) ?_
      rotate_left
      · (intro w hSw; (try dsimp only at hSw); go_simp; (try with_reducible rfl))
      (try simp only [List.getElem_toArray, List.getElem_cons_succ, List.getElem_cons_zero, Act.put, List.setIfInBounds_toArray, List.set_cons_zero, List.set_cons_succ])
      refine wpAnyH_take (i := 15) (v := ?_) rfl (by kernel_rfl) (by kernel_rfl) (by kernel_rfl) (fun _ _ _ h => h) (Or.inl ⟨by rfl, ?_⟩) (by assumption) ?_
      rotate_left
      · (intro w hSw; (try dsimp only at hSw); go_simp; (try with_reducible rfl))
      (try simp only [List.getElem_toArray, List.getElem_cons_succ, List.getElem_cons_zero, Act.put, List.setIfInBounds_toArray, List.set_cons_zero, List.set_cons_succ])
      refine wpAnyH_take (i := 16) (v := ?_) rfl (by kernel_rfl) (by kernel_rfl) (by kernel_rfl) (fun _ _ _ h => h) (Or.inl ⟨by rfl, ?_⟩) (by assumption) ?_
      rotate_left
      · (intro w hSw; (try dsimp only at hSw); go_simp; (try with_reducible rfl))
      (try simp only [List.getElem_toArray, List.getElem_cons_succ, List.getElem_cons_zero, Act.put, List.setIfInBounds_toArray, List.set_cons_zero, List.set_cons_succ])
      refine wpAnyH_take (i := 17) (v := ?_) rfl (by kernel_rfl) (by kernel_rfl) (by kernel_rfl) (fun _ _ _ h => h) (Or.inl ⟨by rfl, ?_⟩) (by assumption) ?_
      rotate_left
      · (intro w hSw; (try dsimp only at hSw); go_simp; (try with_reducible rfl))
      (try simp only [List.getElem_toArray, List.getElem_cons_succ, List.getElem_cons_zero, Act.put, List.setIfInBounds_toArray, List.set_cons_zero, List.set_cons_succ])
      refine wpAnyH_take (i := 18) (v := ?_) rfl (by kernel_rfl) (by kernel_rfl) (by kernel_rfl) (fun _ _ _ h => h) (Or.inl ⟨by rfl, ?_⟩) (by assumption) ?_
      rotate_left
      · (intro w hSw; (try dsimp only at hSw); go_simp; (try with_reducible rfl))
      (try simp only [List.getElem_toArray, List.getElem_cons_succ, List.getElem_cons_zero, Act.put, List.setIfInBounds_toArray, List.set_cons_zero, List.set_cons_succ])
      refine wpAnyH_take (i := 19) (v := undef) rfl (by kernel_rfl) (by kernel_rfl) (by kernel_rfl) (fun _ _ _ h => h) (Or.inr ⟨by rfl, rfl⟩) (by assumption) ?_
      (try simp only [List.getElem_toArray, List.getElem_cons_succ, List.getElem_cons_zero, Act.put, List.setIfInBounds_toArray, List.set_cons_zero, List.set_cons_succ])
      refine wpAnyH_take (i := 20) (v := undef) rfl (by kernel_rfl) (by kernel_rfl) (by kernel_rfl) (fun _ _ _ h => h) (Or.inr ⟨by rfl, rfl⟩) (by assumption) ?_
      (try simp only [List.getElem_toArray, List.getElem_cons_succ, List.getElem_cons_zero, Act.put, List.setIfInBounds_toArray, List.set_cons_zero, List.set_cons_succ])
      refine wpAnyH_take (i := 21) (v := undef) rfl (by kernel_rfl) (by kernel_rfl) (by kernel_rfl) (fun _ _ _ h => h) (Or.inr ⟨by rfl, rfl⟩) (by assumption) ?_
      (try simp only [List.getElem_toArray, List.getElem_cons_succ, List.getElem_cons_zero, Act.put, List.setIfInBounds_toArray, List.set_cons_zero, List.set_cons_succ])
      refine wpAnyH_take (i := 22) (v := undef) rfl (by kernel_rfl) (by kernel_rfl) (by kernel_rfl) (fun _ _ _ h => h) (Or.inr ⟨by rfl, rfl⟩) (by assumption) ?_
      (try simp only [List.getElem_toArray, List.getElem_cons_succ, List.getElem_cons_zero, Act.put, List.setIfInBounds_toArray, List.set_cons_zero, List.set_cons_succ])
      refine wpAnyH_take (i := 23) (v := undef) rfl (by kernel_rfl) (by kernel_rfl) (by kernel_rfl) (fun _ _ _ h => h) (Or.inr ⟨by rfl, rfl⟩) (by assumption) ?_
      (try simp only [List.getElem_toArray, List.getElem_cons_succ, List.getElem_cons_zero, Act.put, List.setIfInBounds_toArray, List.set_cons_zero, List.set_cons_succ])
      refine wpAnyH_take (i := 24) (v := undef) rfl (by kernel_rfl) (by kernel_rfl) (by kernel_rfl) (fun _ _ _ h => h) (Or.inr ⟨by rfl, rfl⟩) (by assumption) ?_
      (try simp only [List.getElem_toArray, List.getElem_cons_succ, List.getElem_cons_zero, Act.put, List.setIfInBounds_toArray, List.set_cons_zero, List.set_cons_succ])
      refine wpAnyH_take (i := 25) (v := undef) rfl (by kernel_rfl) (by kernel_rfl) (by kernel_rfl) (fun _ _ _ h => h) (Or.inr ⟨by rfl, rfl⟩) (by assumption) ?_
      (try simp only [List.getElem_toArray, List.getElem_cons_succ, List.getElem_cons_zero, Act.put, List.setIfInBounds_toArray, List.set_cons_zero, List.set_cons_succ])
      refine wpAnyH_take (i := 26) (v := undef) rfl (by kernel_rfl) (by kernel_rfl) (by kernel_rfl) (fun _ _ _ h => h) (Or.inr ⟨by rfl, rfl⟩) (by assumption) ?_
      (try simp only [List.getElem_toArray, List.getElem_cons_succ, List.getElem_cons_zero, Act.put, List.setIfInBounds_toArray, List.set_cons_zero, List.set_cons_succ])
      refine wpAnyH_take (i := 27) (v := undef) rfl (by kernel_rfl) (by kernel_rfl) (by kernel_rfl) (fun _ _ _ h => h) (Or.inr ⟨by rfl, rfl⟩) (by assumption) ?_
      (try simp only [List.getElem_toArray, List.getElem_cons_succ, List.getElem_cons_zero, Act.put, List.setIfInBounds_toArray, List.set_cons_zero, List.set_cons_succ])
      refine wpAnyH_take (i := 28) (v := undef) rfl (by kernel_rfl) (by kernel_rfl) (by kernel_rfl) (fun _ _ _ h => h) (Or.inr ⟨by rfl, rfl⟩) (by assumption) ?_
      (try simp only [List.getElem_toArray, List.getElem_cons_succ, List.getElem_cons_zero, Act.put, List.setIfInBounds_toArray, List.set_cons_zero, List.set_cons_succ])
      refine wpAnyH_take (i := 29) (v := ?_) rfl (by kernel_rfl) (by kernel_rfl) (by kernel_rfl) (fun _ _ _ h => h) (Or.inl ⟨by rfl, ?_⟩) (by assumption) ?_
      rotate_left
      · (intro w hSw; (try dsimp only at hSw); go_simp; (try with_reducible rfl))
      (try simp only [List.getElem_toArray, List.getElem_cons_succ, List.getElem_cons_zero, Act.put, List.setIfInBounds_toArray, List.set_cons_zero, List.set_cons_succ])
      refine wpAnyH_take (i := 30) (v := ?_) rfl (by kernel_rfl) (by kernel_rfl) (by kernel_rfl) (fun _ _ _ h => h) (Or.inl ⟨by rfl, ?_⟩) (by assumption) ?_
      rotate_left
      · (intro w hSw; (try dsimp only at hSw); go_simp; (try with_reducible rfl))
      (try simp only [List.getElem_toArray, List.getElem_cons_succ, List.getElem_cons_zero, Act.put, List.setIfInBounds_toArray, List.set_cons_zero, List.set_cons_succ])
      refine wpAnyH_done (by kernel_rfl) ?_ _
      refine NoPanic.normal ?_
      go_wp2_with fail
      go_meet
      exact ⟨rfl, rfl, H0⟩
    · have hb1 : bb = true := HBB.out.symm.trans (by simp [h0])
      subst hb1
      have hl := nv_pos g7.1 (by omega)
      have hl1 : decide (0 < n7) = true := decide_eq_true hl
      have H0q : Hid ((z1 : Rat) ≠ 0) := Lib.hid (by intro h; exact h0 (by exact_mod_cast h))
      have HD : Hid (Rat.divInt z0 z1 = (z0 : Rat) / (z1 : Rat)) := Lib.hid (Rat.divInt_eq_div _ _)
      clear h0 hl
      have hD := drawn_below W7
      replace i0 := i0.below hD
      replace i1 := i1.below hD
      replace r0 := r0.below hD
      replace r1 := r1.below hD
      replace f0 := f0.below hD
      replace f1 := f1.below hD
      replace g2 := g2.below hD
      replace g3 := g3.below hD
      replace g9 := g9.below hD
      replace g7 := g7.below hD
      replace b0 := b0.below hD
      replace b1 := b1.below hD
      replace b2 := b2.below hD
      replace b3 := b3.below hD
      replace b9 := b9.below hD
      replace b7 := b7.below hD
      replace H0 := H0.trans (hD.mono H0.size)
      clear hD
      refine wp_region_noPanic ?_
      refine wp_region_held_drew (S := (fun V => V.cell? ⟨w.heap.size, 0, none⟩ = some (.bool s0) ∧ V.cell? ⟨w.heap.size, 1, none⟩ = some (.slice A0 n0 c0) ∧ V.cell? ⟨w.heap.size, 2, none⟩ = some (.slice D0 m0 e0) ∧ V.cell? ⟨w4.heap.size, 0, none⟩ = some (.bool s9) ∧ V.cell? ⟨w4.heap.size, 1, none⟩ = some (.slice A9 n9 c9) ∧ V.cell? ⟨w4.heap.size, 2, none⟩ = some (.slice D9 m9 e9) ∧ V.cell? ⟨w6.heap.size, 0, none⟩ = some (.bool s7) ∧ V.cell? ⟨w6.heap.size, 1, none⟩ = some (.slice A7 n7 c7))) (by kernel_rfl) ⟨b0.cell 0 _ rfl, b0.cell 1 _ rfl, b0.cell 2 _ rfl, b9.cell 0 _ rfl, b9.cell 1 _ rfl, b9.cell 2 _ rfl, b7.cell 0 _ rfl, b7.cell 1 _ rfl⟩ (fun hHeld => ?_)
      generalize W7.drew = v8 at H0 hHeld i0 i1 r0 r1 f0 f1 g2 g3 g9 g7 b0 b1 b2 b3 b9 b7 ⊢
      refine wpAnyH_take (i := 0) (v := ?_) rfl (by kernel_rfl) (by kernel_rfl) (by kernel_rfl) (fun _ _ _ h => h) (Or.inl ⟨by rfl, ?_⟩) (by assumption) ?_
      rotate_left
      · (intro w hSw; (try dsimp only at hSw); go_simp; (try with_reducible rfl))
      (try simp only [List.getElem_toArray, List.getElem_cons_zero, Act.put, List.setIfInBounds_toArray, List.set_cons_zero, List.set_cons_succ])
      refine wpAnyH_take (i := 1) (v := ?_) rfl (by kernel_rfl) (by kernel_rfl) (by kernel_rfl) (fun _ _ _ h => h) (Or.inl ⟨by rfl, ?_⟩) (by assumption) ?_
      rotate_left
      · (intro w hSw; (try dsimp only at hSw); go_simp; (try with_reducible rfl))
      (try simp only [List.getElem_toArray, List.getElem_cons_succ, List.getElem_cons_zero, Act.put, List.setIfInBounds_toArray, List.set_cons_zero, List.set_cons_succ])
      refine wpAnyH_take (i := 2) (v := ?_) rfl (by kernel_rfl) (by kernel_rfl) (by kernel_rfl) (fun _ _ _ h => h) (Or.inl ⟨by rfl, ?_⟩) (by assumption) ?_
      rotate_left
      · (intro w hSw; (try dsimp only at hSw); go_simp; (try with_reducible rfl))
      (try simp only [List.getElem_toArray, List.getElem_cons_succ, List.getElem_cons_zero, Act.put, List.setIfInBounds_toArray, List.set_cons_zero, List.set_cons_succ])
      refine wpAnyH_take (i := 3) (v := ?_) rfl (by kernel_rfl) (by kernel_rfl) (by kernel_rfl) (fun _ _ _ h => h) (Or.inl ⟨by rfl, ?_⟩) (by assumption) ?_
      rotate_left
      · (intro w hSw; (try dsimp only at hSw); go_simp; (try with_reducible rfl))
      (try simp only [List.getElem_toArray, List.getElem_cons_succ, List.getElem_cons_zero, Act.put, List.setIfInBounds_toArray, List.set_cons_zero, List.set_cons_succ])
      refine wpAnyH_take (i := 4) (v := ?_) rfl (by kernel_rfl) (by kernel_rfl) (by kernel_rfl) (fun _ _ _ h => h) (Or.inl ⟨by rfl, ?_⟩) (by assumption) ?_
      rotate_left
      · (intro w hSw; (try dsimp only at hSw); go_simp; (try with_reducible rfl))
      (try simp only [List.getElem_toArray, List.getElem_cons_succ, List.getElem_cons_zero, Act.put, List.setIfInBounds_toArray, List.set_cons_zero, List.set_cons_succ])
      refine wpAnyH_take (i := 5) (v := ?_) rfl (by kernel_rfl) (by kernel_rfl) (by kernel_rfl) (fun _ _ _ h => h) (Or.inl ⟨by rfl, ?_⟩) (by assumption) ?_
      rotate_left
      · (intro w hSw; (try dsimp only at hSw); go_simp; (try with_reducible rfl))
      (try simp only [List.getElem_toArray, List.getElem_cons_succ, List.getElem_cons_zero, Act.put, List.setIfInBounds_toArray, List.set_cons_zero, List.set_cons_succ])
      refine wpAnyH_take (i := 6) (v := ?_) rfl (by kernel_rfl) (by kernel_rfl) (by kernel_rfl) (fun _ _ _ h => h) (Or.inl ⟨by rfl, ?_⟩) (by assumption) ?_
      rotate_left
      · (intro w hSw; (try dsimp only at hSw); go_simp; (try with_reducible rfl))
      (try simp only [List.getElem_toArray, List.getElem_cons_succ, List.getElem_cons_zero, Act.put, List.setIfInBounds_toArray, List.set_cons_zero, List.set_cons_succ])
      refine wpAnyH_take (i := 7) (v := ?_) rfl (by kernel_rfl) (by kernel_rfl) (by kernel_rfl) (fun _ _ _ h => h) (Or.inl ⟨by rfl, ?_⟩) (by assumption) ?_
      rotate_left
      · (intro w hSw; (try dsimp only at hSw); go_simp; (try with_reducible rfl))
      (try simp only [List.getElem_toArray, List.getElem_cons_succ, List.getElem_cons_zero, Act.put, List.setIfInBounds_toArray, List.set_cons_zero, List.set_cons_succ])
      refine wpAnyH_take (i := 8) (v := ?_) rfl (by kernel_rfl) (by kernel_rfl) (by kernel_rfl) (fun _ _ _ h => h) (Or.inl ⟨by rfl, ?_⟩) (by assumption) ?_
      rotate_left
      · (intro w hSw; (try dsimp only at hSw); go_simp; (try with_reducible rfl))
      (try simp only [List.getElem_toArray, List.getElem_cons_succ, List.getElem_cons_zero, Act.put, List.setIfInBounds_toArray, List.set_cons_zero, List.set_cons_succ])
      refine wpAnyH_take (i := 9) (v := ?_) rfl (by kernel_rfl) (by kernel_rfl) (by kernel_rfl) (fun _ _ _ h => h) (Or.inl ⟨by rfl, ?_⟩) (by assumption) ?_
      rotate_left
      · (intro w hSw; (try dsimp only at hSw); go_simp; (try with_reducible rfl))
      (try simp only [List.getElem_toArray, List.getElem_cons_succ, List.getElem_cons_zero, Act.put, List.setIfInBounds_toArray, List.set_cons_zero, List.set_cons_succ])
      refine wpAnyH_take (i := 10) (v := undef) rfl (by kernel_rfl) (by kernel_rfl) (by kernel_rfl) (fun _ _ _ h => h) (Or.inr ⟨by rfl, rfl⟩) (by assumption) ?_
      (try simp only [List.getElem_toArray, List.getElem_cons_succ, List.getElem_cons_zero, Act.put, List.setIfInBounds_toArray, List.set_cons_zero, List.set_cons_succ])
      refine wpAnyH_take (i := 11) (v := undef) rfl (by kernel_rfl) (by kernel_rfl) (by kernel_rfl) (fun _ _ _ h => h) (Or.inr ⟨by rfl, rfl⟩) (by assumption) ?_
      (try simp only [List.getElem_toArray, List.getElem_cons_succ, List.getElem_cons_zero, Act.put, List.setIfInBounds_toArray, List.set_cons_zero, List.set_cons_succ])
      refine wpAnyH_take (i := 12) (v := undef) rfl (by kernel_rfl) (by kernel_rfl) (by kernel_rfl) (fun _ _ _ h => h) (Or.inr ⟨by rfl, rfl⟩) (by assumption) ?_
      (try simp only [List.getElem_toArray, List.getElem_cons_succ, List.getElem_cons_zero, Act.put, List.setIfInBounds_toArray, List.set_cons_zero, List.set_cons_succ])
      refine wpAnyH_take (i := 13) (v := undef) rfl (by kernel_rfl) (by kernel_rfl) (by kernel_rfl) (fun _ _ _ h => h) (Or.inr ⟨by rfl, rfl⟩) (by assumption) ?_
      (try simp only [List.getElem_toArray, List.getElem_cons_succ, List.getElem_cons_zero, Act.put, List.setIfInBounds_toArray, List.set_cons_zero, List.set_cons_succ])
      refine wpAnyH_take (i := 14) (v := ?_) rfl (by kernel_rfl) (by kernel_rfl) (by kernel_rfl) (fun _ _ _ h => h) (Or.inl ⟨by rfl, ?_⟩) (by assumption) ?_
      rotate_left
      · (intro w hSw; (try dsimp only at hSw); go_simp; (try with_reducible rfl))
      (try simp only [List.getElem_toArray, List.getElem_cons_succ, List.getElem_cons_zero, Act.put, List.setIfInBounds_toArray, List.set_cons_zero, List.set_cons_succ])
      refine wpAnyH_take (i := 15) (v := ?_) rfl (by kernel_rfl) (by kernel_rfl) (by kernel_rfl) (fun _ _ _ h => h) (Or.inl ⟨by rfl, ?_⟩) (by assumption) ?_
      rotate_left
      · (intro w hSw; (try dsimp only at hSw); go_simp; (try with_reducible rfl))
      (try simp only [List.getElem_toArray, List.getElem_cons_succ, List.getElem_cons_zero, Act.put, List.setIfInBounds_toArray, List.set_cons_zero, List.set_cons_succ])
      refine wpAnyH_take (i := 16) (v := ?_) rfl (by kernel_rfl) (by kernel_rfl) (by kernel_rfl) (fun _ _ _ h => h) (Or.inl ⟨by rfl, ?_⟩) (by assumption) ?_
      rotate_left
      · (intro w hSw; (try dsimp only at hSw); go_simp; (try with_reducible rfl))
      (try simp only [List.getElem_toArray, List.getElem_cons_succ, List.getElem_cons_zero, Act.put, List.setIfInBounds_toArray, List.set_cons_zero, List.set_cons_succ])
      refine wpAnyH_take (i := 17) (v := ?_) rfl (by kernel_rfl) (by kernel_rfl) (by kernel_rfl) (fun _ _ _ h => h) (Or.inl ⟨by rfl, ?_⟩) (by assumption) ?_
      rotate_left
      · (intro w hSw; (try dsimp only at hSw); go_simp; (try with_reducible rfl))
      (try simp only [List.getElem_toArray, List.getElem_cons_succ, List.getElem_cons_zero, Act.put, List.setIfInBounds_toArray, List.set_cons_zero, List.set_cons_succ])
      refine wpAnyH_take (i := 18) (v := ?_) rfl (by kernel_rfl) (by kernel_rfl) (by kernel_rfl) (fun _ _ _ h => h) (Or.inl ⟨by rfl, ?_⟩) (by assumption) ?_
      rotate_left
      · (intro w hSw; (try dsimp only at hSw); go_simp; (try with_reducible rfl))
      (try simp only [List.getElem_toArray, List.getElem_cons_succ, List.getElem_cons_zero, Act.put, List.setIfInBounds_toArray, List.set_cons_zero, List.set_cons_succ])
      refine wpAnyH_take (i := 19) (v := ?_) rfl (by kernel_rfl) (by kernel_rfl) (by kernel_rfl) (fun _ _ _ h => h) (Or.inl ⟨by rfl, ?_⟩) (by assumption) ?_
      rotate_left
      · (intro w hSw; (try dsimp only at hSw); go_simp; (try with_reducible rfl))
      (try simp only [List.getElem_toArray, List.getElem_cons_succ, List.getElem_cons_zero, Act.put, List.setIfInBounds_toArray, List.set_cons_zero, List.set_cons_succ])
      refine wpAnyH_take (i := 20) (v := ?_) rfl (by kernel_rfl) (by kernel_rfl) (by kernel_rfl) (fun _ _ _ h => h) (Or.inl ⟨by rfl, ?_⟩) (by assumption) ?_
      rotate_left
      · (intro w hSw; (try dsimp only at hSw); go_simp; (try with_reducible rfl))
      (try simp only [List.getElem_toArray, List.getElem_cons_succ, List.getElem_cons_zero, Act.put, List.setIfInBounds_toArray, List.set_cons_zero, List.set_cons_succ])
      refine wpAnyH_take (i := 21) (v := ?_) rfl (by kernel_rfl) (by kernel_rfl) (by kernel_rfl) (fun _ _ _ h => h) (Or.inl ⟨by rfl, ?_⟩) (by assumption) ?_
      rotate_left
      · (intro w hSw; (try dsimp only at hSw); go_simp; (try with_reducible rfl))
      (try simp only [List.getElem_toArray, List.getElem_cons_succ, List.getElem_cons_zero, Act.put, List.setIfInBounds_toArray, List.set_cons_zero, List.set_cons_succ])
      refine wpAnyH_take (i := 24) (v := ?_) rfl (by kernel_rfl) (by kernel_rfl) (by kernel_rfl) (fun _ _ _ h => h) (Or.inl ⟨by rfl, ?_⟩) (by assumption) ?_
      rotate_left
      · (intro w hSw; (try dsimp only at hSw); go_simp; (try with_reducible rfl))
      (try simp only [List.getElem_toArray, List.getElem_cons_succ, List.getElem_cons_zero, Act.put, List.setIfInBounds_toArray, List.set_cons_zero, List.set_cons_succ])
      refine wpAnyH_take (i := 25) (v := ?_) rfl (by kernel_rfl) (by kernel_rfl) (by kernel_rfl) (fun _ _ _ h => h) (Or.inl ⟨by rfl, ?_⟩) (by assumption) ?_
      rotate_left
      · (intro w hSw; (try dsimp only at hSw); go_simp; (try with_reducible rfl))
      (try simp only [List.getElem_toArray, List.getElem_cons_succ, List.getElem_cons_zero, Act.put, List.setIfInBounds_toArray, List.set_cons_zero, List.set_cons_succ])
      refine wpAnyH_ready (rs := [22]) (by kernel_rfl) (by simp) (AllReadyH.cons (o := _) rfl (fun K hK => ?_) AllReadyH.nil)
      go_simp
      go_at_call 13
      refine (refI_v i0).mono ?_
      rintro e w9 ⟨s8, A8, n8, c8, rfl, g8, hb⟩
      replace i0 := i0.below hb
      replace i1 := i1.below hb
      replace r0 := r0.below hb
      replace r1 := r1.below hb
      replace f0 := f0.below hb
      replace f1 := f1.below hb
      replace g2 := g2.below hb
      replace g3 := g3.below hb
      replace g9 := g9.below hb
      replace g7 := g7.below hb
      replace b0 := b0.below hb
      replace b1 := b1.below hb
      replace b2 := b2.below hb
      replace b3 := b3.below hb
      replace b9 := b9.below hb
      replace b7 := b7.below hb
      replace H0 := H0.trans (hb.mono H0.size)
      clear hb
      go_wp2_with fail
      refine hK.out _ _ ⟨b0.cell 0 _ rfl, b0.cell 1 _ rfl, b0.cell 2 _ rfl, b9.cell 0 _ rfl, b9.cell 1 _ rfl, b9.cell 2 _ rfl, b7.cell 0 _ rfl, b7.cell 1 _ rfl⟩ (fun hHeld => ?_)
      clear hK K
      (try simp only [List.getElem_toArray, List.getElem_cons_succ, List.getElem_cons_zero, Act.put, List.setIfInBounds_toArray, List.set_cons_zero, List.set_cons_succ])
      refine wpAnyH_take (i := 23) (v := ?_) rfl (by kernel_rfl) (by kernel_rfl) (by kernel_rfl) (fun _ _ _ h => h) (Or.inl ⟨by rfl, ?_⟩) (by assumption) ?_
      rotate_left
      · (intro w hSw; (try dsimp only at hSw); go_simp; (try with_reducible rfl))
      (try simp only [List.getElem_toArray, List.getElem_cons_succ, List.getElem_cons_zero, Act.put, List.setIfInBounds_toArray, List.set_cons_zero, List.set_cons_succ])
      refine wpAnyH_ready (rs := [26]) (by kernel_rfl) (by simp) (AllReadyH.cons (o := _) rfl (fun K hK => ?_) AllReadyH.nil)
      go_simp
      go_at_call 15
      refine (nover_v (PQ.int g8) (PQ.int g7) (by omega) (by omega) H0q.out).mono ?_
      rintro e w10 ⟨s6, A6, n6, c6, D6, m6, e6, rfl, g6, hb⟩
      replace i0 := i0.below hb
      replace i1 := i1.below hb
      replace r0 := r0.below hb
      replace r1 := r1.below hb
      replace f0 := f0.below hb
      replace f1 := f1.below hb
      replace g2 := g2.below hb
      replace g3 := g3.below hb
      replace g9 := g9.below hb
      replace g7 := g7.below hb
      replace g8 := g8.below hb
      replace b0 := b0.below hb
      replace b1 := b1.below hb
      replace b2 := b2.below hb
      replace b3 := b3.below hb
      replace b9 := b9.below hb
      replace b7 := b7.below hb
      replace H0 := H0.trans (hb.mono H0.size)
      clear hb
      clear g8
      go_wp2_with fail
      refine hK.out _ _ ⟨b0.cell 0 _ rfl, b0.cell 1 _ rfl, b0.cell 2 _ rfl, b9.cell 0 _ rfl, b9.cell 1 _ rfl, b9.cell 2 _ rfl, b7.cell 0 _ rfl, b7.cell 1 _ rfl⟩ (fun hHeld => ?_)
      clear hK K
      (try simp only [List.getElem_toArray, List.getElem_cons_succ, List.getElem_cons_zero, Act.put, List.setIfInBounds_toArray, List.set_cons_zero, List.set_cons_succ])
      refine wpAnyH_ready (rs := [27]) (by kernel_rfl) (by simp) (AllReadyH.cons (o := _) rfl (fun K hK => ?_) AllReadyH.nil)
      go_simp
      go_at_call 14
      refine (same3_t g9 g6 (by omega) HD.out).mono ?_
      rintro e w11 ⟨rfl, hb⟩
      replace i0 := i0.below hb
      replace i1 := i1.below hb
      replace r0 := r0.below hb
      replace r1 := r1.below hb
      replace f0 := f0.below hb
      replace f1 := f1.below hb
      replace g2 := g2.below hb
      replace g3 := g3.below hb
      replace g9 := g9.below hb
      replace g7 := g7.below hb
      replace g6 := g6.below hb
      replace b0 := b0.below hb
      replace b1 := b1.below hb
      replace b2 := b2.below hb
      replace b3 := b3.below hb
      replace b9 := b9.below hb
      replace b7 := b7.below hb
      replace H0 := H0.trans (hb.mono H0.size)
      clear hb
      clear g9
      clear g6
      go_wp2_with fail
      refine hK.out _ _ ⟨b0.cell 0 _ rfl, b0.cell 1 _ rfl, b0.cell 2 _ rfl, b9.cell 0 _ rfl, b9.cell 1 _ rfl, b9.cell 2 _ rfl, b7.cell 0 _ rfl, b7.cell 1 _ rfl⟩ (fun hHeld => ?_)
      clear hK K
      (try simp only [List.getElem_toArray, List.getElem_cons_succ, List.getElem_cons_zero, Act.put, List.setIfInBounds_toArray, List.set_cons_zero, List.set_cons_succ])
      refine wpAnyH_take (i := 28) (v := ?_) rfl (by kernel_rfl) (by kernel_rfl) (by kernel_rfl) (fun _ _ _ h => h) (Or.inl ⟨by rfl, ?_⟩) (by assumption) ?_
      rotate_left
      · (intro w hSw; (try dsimp only at hSw); go_simp; (try with_reducible rfl))
      (try simp only [List.getElem_toArray, List.getElem_cons_succ, List.getElem_cons_zero, Act.put, List.setIfInBounds_toArray, List.set_cons_zero, List.set_cons_succ])
      refine wpAnyH_take (i := 29) (v := ?_) rfl (by kernel_rfl) (by kernel_rfl) (by kernel_rfl) (fun _ _ _ h => h) (Or.inl ⟨by rfl, ?_⟩) (by assumption) ?_
      rotate_left
      · (intro w hSw; (try dsimp only at hSw); go_simp; (try with_reducible rfl))
      (try simp only [List.getElem_toArray, List.getElem_cons_succ, List.getElem_cons_zero, Act.put, List.setIfInBounds_toArray, List.set_cons_zero, List.set_cons_succ])
      refine wpAnyH_take (i := 30) (v := ?_) rfl (by kernel_rfl) (by kernel_rfl) (by kernel_rfl) (fun _ _ _ h => h) (Or.inl ⟨by rfl, ?_⟩) (by assumption) ?_
      rotate_left
      · (intro w hSw; (try dsimp only at hSw); go_simp; (try with_reducible rfl))
      (try simp only [List.getElem_toArray, List.getElem_cons_succ, List.getElem_cons_zero, Act.put, List.setIfInBounds_toArray, List.set_cons_zero, List.set_cons_succ])
      refine wpAnyH_done (by kernel_rfl) ?_ _
      refine NoPanic.normal ?_
      go_wp2_with fail
      go_meet
      exact ⟨rfl, rfl, H0⟩
  obtain ⟨rfl, rfl, hG⟩ := hcut
  clear g9 b9 g7 b7 i0 i1
  replace r0 := r0.below hG
  replace r1 := r1.below hG
  replace f0 := f0.below hG
  replace f1 := f1.below hG
  replace g2 := g2.below hG
  replace g3 := g3.below hG
  replace b0 := b0.below hG
  replace b1 := b1.below hG
  replace b2 := b2.below hG
  replace b3 := b3.below hG
  replace H0 := H0.trans (hG.mono H0.size)
  clear hG
  obtain ⟨k0, hk0⟩ : ∃ k, rsg q0 = k := ⟨_, rfl⟩
  obtain ⟨k1, hk1⟩ : ∃ k, rsg (q0 - q1) = k := ⟨_, rfl⟩
  have HK0 := Lib.hid hk0
  have HK1 := Lib.hid hk1
  clear hk0 hk1
  have cb00 := b0.cell 0 _ rfl
  have cb01 := b0.cell 1 _ rfl
  have cb02 := b0.cell 2 _ rfl
  have cb10 := b1.cell 0 _ rfl
  have cb11 := b1.cell 1 _ rfl
  have cb12 := b1.cell 2 _ rfl
  have cb20 := b2.cell 0 _ rfl
  have cb21 := b2.cell 1 _ rfl
  have cb22 := b2.cell 2 _ rfl
  have cb30 := b3.cell 0 _ rfl
  have cb31 := b3.cell 1 _ rfl
  have cb32 := b3.cell 2 _ rfl
  go_wp2_with fail
  clear cb00 cb01 cb02 cb10 cb11 cb12 cb20 cb21 cb22 cb30 cb31 cb32
  have hD := drawn_below wc
  replace r0 := r0.below hD
  replace r1 := r1.below hD
  replace f0 := f0.below hD
  replace f1 := f1.below hD
  replace g2 := g2.below hD
  replace g3 := g3.below hD
  replace b0 := b0.below hD
  replace b1 := b1.below hD
  replace b2 := b2.below hD
  replace b3 := b3.below hD
  replace H0 := H0.trans (hD.mono H0.size)
  clear hD
  have K0 := (And.intro (b0.cell 0 _ rfl) (And.intro (b0.cell 1 _ rfl) (And.intro (b0.cell 2 _ rfl) (And.intro (b1.cell 0 _ rfl) (And.intro (b1.cell 1 _ rfl) (And.intro (b1.cell 2 _ rfl) (And.intro (b2.cell 0 _ rfl) (And.intro (b2.cell 1 _ rfl) (And.intro (b2.cell 2 _ rfl) (And.intro (b3.cell 0 _ rfl) (And.intro (b3.cell 1 _ rfl) (b3.cell 2 _ rfl))))))))))))
  go_region_held3 (fun V => V.cell? ⟨w.heap.size, 0, none⟩ = some (.bool s0) ∧ V.cell? ⟨w.heap.size, 1, none⟩ = some (.slice A0 n0 c0) ∧ V.cell? ⟨w.heap.size, 2, none⟩ = some (.slice D0 m0 e0) ∧ V.cell? ⟨w.heap.size + 1, 0, none⟩ = some (.bool s1) ∧ V.cell? ⟨w.heap.size + 1, 1, none⟩ = some (.slice A1 n1 c1) ∧ V.cell? ⟨w.heap.size + 1, 2, none⟩ = some (.slice D1 m1 e1) ∧ V.cell? ⟨g2_0, 0, none⟩ = some (.bool s2) ∧ V.cell? ⟨g2_0, 1, none⟩ = some (.slice A2 n2 c2) ∧ V.cell? ⟨g2_0, 2, none⟩ = some (.slice D2 m2 e2) ∧ V.cell? ⟨g2_1, 0, none⟩ = some (.bool s3) ∧ V.cell? ⟨g2_1, 1, none⟩ = some (.slice A3 n3 c3) ∧ V.cell? ⟨g2_1, 2, none⟩ = some (.slice D3 m3 e3)) (first | exact K12 | exact K11 | exact K10 | exact K9 | exact K8 | exact K7 | exact K6 | exact K5 | exact K4 | exact K3 | exact K2 | exact K1 | exact K0 | go_keep)
    (first
      | (go_at_call 24; have hK9 := K11; clear hK9; with_reducible refine (nqc_v g2 g3 (by omega) (by omega) HK1.out).mono ?_; rintro e v19 ⟨rfl, hb⟩; have r0 := r0.below hb; have r1 := r1.below hb; have f0 := f0.below hb; have f1 := f1.below hb; have g2 := g2.below hb; have g3 := g3.below hb; have b0 := b0.below hb; have b1 := b1.below hb; have b2 := b2.below hb; have b3 := b3.below hb; have H0 := H0.trans (hb.mono H0.size); have K12 := (And.intro (b0.cell 0 _ rfl) (And.intro (b0.cell 1 _ rfl) (And.intro (b0.cell 2 _ rfl) (And.intro (b1.cell 0 _ rfl) (And.intro (b1.cell 1 _ rfl) (And.intro (b1.cell 2 _ rfl) (And.intro (b2.cell 0 _ rfl) (And.intro (b2.cell 1 _ rfl) (And.intro (b2.cell 2 _ rfl) (And.intro (b3.cell 0 _ rfl) (And.intro (b3.cell 1 _ rfl) (b3.cell 2 _ rfl)))))))))))); clear hb)
      | (go_at_call 23; have hK9 := K10; clear hK9; with_reducible refine (rcmp_v f0 f1 (by omega) (by omega) HK1.out).mono ?_; rintro e v18 ⟨rfl, hb⟩; have r0 := r0.below hb; have r1 := r1.below hb; have f0 := f0.below hb; have f1 := f1.below hb; have g2 := g2.below hb; have g3 := g3.below hb; have b0 := b0.below hb; have b1 := b1.below hb; have b2 := b2.below hb; have b3 := b3.below hb; have H0 := H0.trans (hb.mono H0.size); have K11 := (And.intro (b0.cell 0 _ rfl) (And.intro (b0.cell 1 _ rfl) (And.intro (b0.cell 2 _ rfl) (And.intro (b1.cell 0 _ rfl) (And.intro (b1.cell 1 _ rfl) (And.intro (b1.cell 2 _ rfl) (And.intro (b2.cell 0 _ rfl) (And.intro (b2.cell 1 _ rfl) (And.intro (b2.cell 2 _ rfl) (And.intro (b3.cell 0 _ rfl) (And.intro (b3.cell 1 _ rfl) (b3.cell 2 _ rfl)))))))))))); clear hb)
      | (go_at_call 22; have hK9 := K9; clear hK9; with_reducible refine (nqs_v g2 HK0.out).mono ?_; rintro e v17 ⟨rfl, hb⟩; have r0 := r0.below hb; have r1 := r1.below hb; have f0 := f0.below hb; have f1 := f1.below hb; have g2 := g2.below hb; have g3 := g3.below hb; have b0 := b0.below hb; have b1 := b1.below hb; have b2 := b2.below hb; have b3 := b3.below hb; have H0 := H0.trans (hb.mono H0.size); have K10 := (And.intro (b0.cell 0 _ rfl) (And.intro (b0.cell 1 _ rfl) (And.intro (b0.cell 2 _ rfl) (And.intro (b1.cell 0 _ rfl) (And.intro (b1.cell 1 _ rfl) (And.intro (b1.cell 2 _ rfl) (And.intro (b2.cell 0 _ rfl) (And.intro (b2.cell 1 _ rfl) (And.intro (b2.cell 2 _ rfl) (And.intro (b3.cell 0 _ rfl) (And.intro (b3.cell 1 _ rfl) (b3.cell 2 _ rfl)))))))))))); clear hb)
      | (go_at_call 21; have hK9 := K8; clear hK9; with_reducible refine (rsign_v f0 HK0.out).mono ?_; rintro e v16 ⟨rfl, hb⟩; have r0 := r0.below hb; have r1 := r1.below hb; have f0 := f0.below hb; have f1 := f1.below hb; have g2 := g2.below hb; have g3 := g3.below hb; have b0 := b0.below hb; have b1 := b1.below hb; have b2 := b2.below hb; have b3 := b3.below hb; have H0 := H0.trans (hb.mono H0.size); have K9 := (And.intro (b0.cell 0 _ rfl) (And.intro (b0.cell 1 _ rfl) (And.intro (b0.cell 2 _ rfl) (And.intro (b1.cell 0 _ rfl) (And.intro (b1.cell 1 _ rfl) (And.intro (b1.cell 2 _ rfl) (And.intro (b2.cell 0 _ rfl) (And.intro (b2.cell 1 _ rfl) (And.intro (b2.cell 2 _ rfl) (And.intro (b3.cell 0 _ rfl) (And.intro (b3.cell 1 _ rfl) (b3.cell 2 _ rfl)))))))))))); clear hb)
      | (go_at_call 14; have hK9 := K7; clear hK9; with_reducible refine (same3_t g5 g6 (by omega) rfl).mono ?_; rintro e v15 ⟨rfl, hb⟩; have r0 := r0.below hb; have r1 := r1.below hb; have f0 := f0.below hb; have f1 := f1.below hb; have g2 := g2.below hb; have g3 := g3.below hb; have g5 := g5.below hb; have g6 := g6.below hb; have b0 := b0.below hb; have b1 := b1.below hb; have b2 := b2.below hb; have b3 := b3.below hb; have H0 := H0.trans (hb.mono H0.size); clear g5; clear g6; have K8 := (And.intro (b0.cell 0 _ rfl) (And.intro (b0.cell 1 _ rfl) (And.intro (b0.cell 2 _ rfl) (And.intro (b1.cell 0 _ rfl) (And.intro (b1.cell 1 _ rfl) (And.intro (b1.cell 2 _ rfl) (And.intro (b2.cell 0 _ rfl) (And.intro (b2.cell 1 _ rfl) (And.intro (b2.cell 2 _ rfl) (And.intro (b3.cell 0 _ rfl) (And.intro (b3.cell 1 _ rfl) (b3.cell 2 _ rfl)))))))))))); clear hb)
      | (go_at_call 20; have hK9 := K6; clear hK9; with_reducible refine (nof_v z hz0 hz1 _).mono ?_; rintro e v14 ⟨s6, A6, n6, c6, D6, m6, e6, rfl, g6, hb⟩; have r0 := r0.below hb; have r1 := r1.below hb; have f0 := f0.below hb; have f1 := f1.below hb; have g2 := g2.below hb; have g3 := g3.below hb; have g5 := g5.below hb; have b0 := b0.below hb; have b1 := b1.below hb; have b2 := b2.below hb; have b3 := b3.below hb; have H0 := H0.trans (hb.mono H0.size); have K7 := (And.intro (b0.cell 0 _ rfl) (And.intro (b0.cell 1 _ rfl) (And.intro (b0.cell 2 _ rfl) (And.intro (b1.cell 0 _ rfl) (And.intro (b1.cell 1 _ rfl) (And.intro (b1.cell 2 _ rfl) (And.intro (b2.cell 0 _ rfl) (And.intro (b2.cell 1 _ rfl) (And.intro (b2.cell 2 _ rfl) (And.intro (b3.cell 0 _ rfl) (And.intro (b3.cell 1 _ rfl) (b3.cell 2 _ rfl)))))))))))); clear hb)
      | (go_at_call 19; have hK9 := K5; clear hK9; with_reducible refine (rfromint_v z hz0 hz1 _).mono ?_; rintro e v13 ⟨s5, A5, n5, c5, D5, m5, e5, rfl, g5, hb⟩; have r0 := r0.below hb; have r1 := r1.below hb; have f0 := f0.below hb; have f1 := f1.below hb; have g2 := g2.below hb; have g3 := g3.below hb; have b0 := b0.below hb; have b1 := b1.below hb; have b2 := b2.below hb; have b3 := b3.below hb; have H0 := H0.trans (hb.mono H0.size); have K6 := (And.intro (b0.cell 0 _ rfl) (And.intro (b0.cell 1 _ rfl) (And.intro (b0.cell 2 _ rfl) (And.intro (b1.cell 0 _ rfl) (And.intro (b1.cell 1 _ rfl) (And.intro (b1.cell 2 _ rfl) (And.intro (b2.cell 0 _ rfl) (And.intro (b2.cell 1 _ rfl) (And.intro (b2.cell 2 _ rfl) (And.intro (b3.cell 0 _ rfl) (And.intro (b3.cell 1 _ rfl) (b3.cell 2 _ rfl)))))))))))); clear hb)
      | (go_at_call 18; have hK9 := K4; clear hK9; with_reducible refine (normalq_r r0 r1 (by omega) (by omega)).mono ?_; rintro e v12 ⟨rfl, hb⟩; have r0 := r0.below hb; have r1 := r1.below hb; have f0 := f0.below hb; have f1 := f1.below hb; have g2 := g2.below hb; have g3 := g3.below hb; have b0 := b0.below hb; have b1 := b1.below hb; have b2 := b2.below hb; have b3 := b3.below hb; have H0 := H0.trans (hb.mono H0.size); have K5 := (And.intro (b0.cell 0 _ rfl) (And.intro (b0.cell 1 _ rfl) (And.intro (b0.cell 2 _ rfl) (And.intro (b1.cell 0 _ rfl) (And.intro (b1.cell 1 _ rfl) (And.intro (b1.cell 2 _ rfl) (And.intro (b2.cell 0 _ rfl) (And.intro (b2.cell 1 _ rfl) (And.intro (b2.cell 2 _ rfl) (And.intro (b3.cell 0 _ rfl) (And.intro (b3.cell 1 _ rfl) (b3.cell 2 _ rfl)))))))))))); clear hb)
      | (go_at_call 17; have hK9 := K3; clear hK9; with_reducible refine (rnormal_r r0 r1 (by omega) (by omega)).mono ?_; rintro e v11 ⟨rfl, hb⟩; have r0 := r0.below hb; have r1 := r1.below hb; have f0 := f0.below hb; have f1 := f1.below hb; have g2 := g2.below hb; have g3 := g3.below hb; have b0 := b0.below hb; have b1 := b1.below hb; have b2 := b2.below hb; have b3 := b3.below hb; have H0 := H0.trans (hb.mono H0.size); have K4 := (And.intro (b0.cell 0 _ rfl) (And.intro (b0.cell 1 _ rfl) (And.intro (b0.cell 2 _ rfl) (And.intro (b1.cell 0 _ rfl) (And.intro (b1.cell 1 _ rfl) (And.intro (b1.cell 2 _ rfl) (And.intro (b2.cell 0 _ rfl) (And.intro (b2.cell 1 _ rfl) (And.intro (b2.cell 2 _ rfl) (And.intro (b3.cell 0 _ rfl) (And.intro (b3.cell 1 _ rfl) (b3.cell 2 _ rfl)))))))))))); clear hb)
      | (go_at_call 14; have hK9 := K2; clear hK9; with_reducible refine (same3_t g4 g2 (by omega) rfl).mono ?_; rintro e v10 ⟨rfl, hb⟩; have r0 := r0.below hb; have r1 := r1.below hb; have f0 := f0.below hb; have f1 := f1.below hb; have g2 := g2.below hb; have g3 := g3.below hb; have g4 := g4.below hb; have b0 := b0.below hb; have b1 := b1.below hb; have b2 := b2.below hb; have b3 := b3.below hb; have H0 := H0.trans (hb.mono H0.size); clear g4; have K3 := (And.intro (b0.cell 0 _ rfl) (And.intro (b0.cell 1 _ rfl) (And.intro (b0.cell 2 _ rfl) (And.intro (b1.cell 0 _ rfl) (And.intro (b1.cell 1 _ rfl) (And.intro (b1.cell 2 _ rfl) (And.intro (b2.cell 0 _ rfl) (And.intro (b2.cell 1 _ rfl) (And.intro (b2.cell 2 _ rfl) (And.intro (b3.cell 0 _ rfl) (And.intro (b3.cell 1 _ rfl) (b3.cell 2 _ rfl)))))))))))); clear hb)
      | (go_at_call 16; have hK9 := K1; clear hK9; with_reducible refine (rnorm_v f0 (by omega)).mono ?_; rintro e v9 ⟨s4, A4, n4, c4, D4, m4, e4, rfl, g4, hb⟩; have r0 := r0.below hb; have r1 := r1.below hb; have f0 := f0.below hb; have f1 := f1.below hb; have g2 := g2.below hb; have g3 := g3.below hb; have b0 := b0.below hb; have b1 := b1.below hb; have b2 := b2.below hb; have b3 := b3.below hb; have H0 := H0.trans (hb.mono H0.size); have K2 := (And.intro (b0.cell 0 _ rfl) (And.intro (b0.cell 1 _ rfl) (And.intro (b0.cell 2 _ rfl) (And.intro (b1.cell 0 _ rfl) (And.intro (b1.cell 1 _ rfl) (And.intro (b1.cell 2 _ rfl) (And.intro (b2.cell 0 _ rfl) (And.intro (b2.cell 1 _ rfl) (And.intro (b2.cell 2 _ rfl) (And.intro (b3.cell 0 _ rfl) (And.intro (b3.cell 1 _ rfl) (b3.cell 2 _ rfl)))))))))))); clear hb)
      | (go_at_call 10; have hK9 := K0; clear hK9; with_reducible refine (HK.out _ H0).mono ?_; rintro e v8 ⟨rfl, hb⟩; have r0 := r0.below hb; have r1 := r1.below hb; have f0 := f0.below hb; have f1 := f1.below hb; have g2 := g2.below hb; have g3 := g3.below hb; have b0 := b0.below hb; have b1 := b1.below hb; have b2 := b2.below hb; have b3 := b3.below hb; have H0 := H0.trans (hb.mono H0.size); have K1 := (And.intro (b0.cell 0 _ rfl) (And.intro (b0.cell 1 _ rfl) (And.intro (b0.cell 2 _ rfl) (And.intro (b1.cell 0 _ rfl) (And.intro (b1.cell 1 _ rfl) (And.intro (b1.cell 2 _ rfl) (And.intro (b2.cell 0 _ rfl) (And.intro (b2.cell 1 _ rfl) (And.intro (b2.cell 2 _ rfl) (And.intro (b3.cell 0 _ rfl) (And.intro (b3.cell 1 _ rfl) (b3.cell 2 _ rfl)))))))))))); clear hb)
    )
  go_wp2_with fail
  go_returns
  exact ⟨rfl, H0⟩
set_option maxRecDepth 100000 in
set_option maxHeartbeats 16000000 in
theorem rationalforms_any {a a' : Addr} (HA : n0 ≤ 10 → ∃ ds, Raw w (.slice A0 n0 c0) ds) (HD : m0 ≤ 10 → ∃ ds, Raw w (.slice D0 m0 e0) ds) (HA' : n1 ≤ 10 → ∃ ds, Raw w (.slice A1 n1 c1) ds) (HD' : m1 ≤ 10 → ∃ ds, Raw w (.slice D1 m1 e1) ds) (z : Int) (hz0 : -9223372036854775808 ≤ z) (hz1 : z ≤ 9223372036854775807) (hS : w.cell? ⟨0, 0, none⟩ = some (.iface 199 (.pointer (some a)))) (hR : w.cell? ⟨1, 0, none⟩ = some (.iface 199 (.pointer (some a')))) (htab : Lib.TabIs Tryz.prog w "internal/strconv.uint64pow10" .u64 Lib.pow10Tab) :
    Calls Tryz.prog 3 #[.agg #[.bool s0, .slice A0 n0 c0, .slice D0 m0 e0], .agg #[.bool s1, .slice A1 n1 c1, .slice D1 m1 e1], .int .i64 z] w fun e w' => e = .returned (.bool true) ∧ Below w.heap.size w w' := by
  by_cases hsm : n0 ≤ 10 ∧ m0 ≤ 10 ∧ n1 ≤ 10 ∧ m1 ≤ 10
  · obtain ⟨hn0, hm0, hn1, hm1⟩ := hsm
    obtain ⟨ds, r0⟩ := HA hn0
    obtain ⟨es, r1⟩ := HD hm0
    obtain ⟨ds', r0'⟩ := HA' hn1
    obtain ⟨es', r1'⟩ := HD' hm1
    have l0 := r0.cap.1
    have l1 := r1.cap.1
    have l2 := r0'.cap.1
    have l3 := r1'.cap.1
    have i0 : RI w s0 (.slice A0 n0 c0) (sg s0 (val ds)) 10 := ⟨_, ⟨ds, r0, rfl, by omega⟩, rfl⟩
    have i1 : RI w s1 (.slice A1 n1 c1) (sg s1 (val ds')) 10 := ⟨_, ⟨ds', r0', rfl, by omega⟩, rfl⟩
    exact rforms_small hn0 hm0 hn1 hm1 (by omega) (by omega) i0 i1 r0 r1 ⟨_, _, i0, ⟨es, r1, rfl, by omega⟩, rfl⟩ ⟨_, _, i1, ⟨es', r1', rfl, by omega⟩, rfl⟩ z hz0 hz1 hS hR htab
  · clear HA HD HA' HD'
    have blkS := World.block_lt_of_cell? _ _ hS
    have blkR := World.block_lt_of_cell? _ _ hR
    have HK := Lib.hid (fun (W : World) (h : Below w.heap.size w W) => known3_any ((h.cell (p := ⟨0, 0, none⟩) blkS).trans hS) ((h.cell (p := ⟨1, 0, none⟩) blkR).trans hR) (Go.Joins.tab_stays (show Tryz.prog.globalNamed "internal/strconv.uint64pow10" = some 5 by kernel_rfl) htab h (Nat.le_refl _)))
    clear hS hR htab blkS blkR
    rcases Nat.lt_or_ge 10 n0 with h | h
    · skip
      go_enter Tryz.func3, Tryz.ntmps3
      go_wp2_with fail
      obtain ⟨W0, hW, b0, b1, bs, hbW, hszW0⟩ := boxes3 w #[.bool s0, .slice A0 n0 c0, .slice D0 m0 e0] #[.bool s1, .slice A1 n1 c1, .slice D1 m1 e1] #[.bool s0, .slice A0 n0 c0, .slice D0 m0 e0, .bool s1, .slice A1 n1 c1, .slice D1 m1 e1] 27 27 27
      rw [hW]
      clear hW
      have H0 := hbW
      clear hbW
      refine (smallq_n0 bs h).mono ?_
      rintro e w1 ⟨rfl, hb⟩
      replace b0 := b0.below hb
      replace b1 := b1.below hb
      replace bs := bs.below hb
      replace H0 := H0.trans (hb.mono H0.size)
      clear hb
      go_wp2_with fail
      refine (HK.out _ H0).mono ?_
      rintro e w2 ⟨rfl, hb⟩
      replace b0 := b0.below hb
      replace b1 := b1.below hb
      replace bs := bs.below hb
      replace H0 := H0.trans (hb.mono H0.size)
      clear hb
      go_wp2_with fail
      go_returns
      exact ⟨rfl, H0⟩
    · rcases Nat.lt_or_ge 10 m0 with h' | h'
      · skip
        go_enter Tryz.func3, Tryz.ntmps3
        go_wp2_with fail
        obtain ⟨W0, hW, b0, b1, bs, hbW, hszW0⟩ := boxes3 w #[.bool s0, .slice A0 n0 c0, .slice D0 m0 e0] #[.bool s1, .slice A1 n1 c1, .slice D1 m1 e1] #[.bool s0, .slice A0 n0 c0, .slice D0 m0 e0, .bool s1, .slice A1 n1 c1, .slice D1 m1 e1] 27 27 27
        rw [hW]
        clear hW
        have H0 := hbW
        clear hbW
        refine (smallq_m0 bs h h').mono ?_
        rintro e w1 ⟨rfl, hb⟩
        replace b0 := b0.below hb
        replace b1 := b1.below hb
        replace bs := bs.below hb
        replace H0 := H0.trans (hb.mono H0.size)
        clear hb
        go_wp2_with fail
        refine (HK.out _ H0).mono ?_
        rintro e w2 ⟨rfl, hb⟩
        replace b0 := b0.below hb
        replace b1 := b1.below hb
        replace bs := bs.below hb
        replace H0 := H0.trans (hb.mono H0.size)
        clear hb
        go_wp2_with fail
        go_returns
        exact ⟨rfl, H0⟩
      · rcases Nat.lt_or_ge 10 n1 with h2 | h2
        · skip
          go_enter Tryz.func3, Tryz.ntmps3
          go_wp2_with fail
          obtain ⟨W0, hW, b0, b1, bs, hbW, hszW0⟩ := boxes3 w #[.bool s0, .slice A0 n0 c0, .slice D0 m0 e0] #[.bool s1, .slice A1 n1 c1, .slice D1 m1 e1] #[.bool s0, .slice A0 n0 c0, .slice D0 m0 e0, .bool s1, .slice A1 n1 c1, .slice D1 m1 e1] 27 27 27
          rw [hW]
          clear hW
          have H0 := hbW
          clear hbW
          refine (smallq_n1 bs h h' h2).mono ?_
          rintro e w1 ⟨rfl, hb⟩
          replace b0 := b0.below hb
          replace b1 := b1.below hb
          replace bs := bs.below hb
          replace H0 := H0.trans (hb.mono H0.size)
          clear hb
          go_wp2_with fail
          refine (HK.out _ H0).mono ?_
          rintro e w2 ⟨rfl, hb⟩
          replace b0 := b0.below hb
          replace b1 := b1.below hb
          replace bs := bs.below hb
          replace H0 := H0.trans (hb.mono H0.size)
          clear hb
          go_wp2_with fail
          go_returns
          exact ⟨rfl, H0⟩
        · have h3 : 10 < m1 := by omega
          go_enter Tryz.func3, Tryz.ntmps3
          go_wp2_with fail
          obtain ⟨W0, hW, b0, b1, bs, hbW, hszW0⟩ := boxes3 w #[.bool s0, .slice A0 n0 c0, .slice D0 m0 e0] #[.bool s1, .slice A1 n1 c1, .slice D1 m1 e1] #[.bool s0, .slice A0 n0 c0, .slice D0 m0 e0, .bool s1, .slice A1 n1 c1, .slice D1 m1 e1] 27 27 27
          rw [hW]
          clear hW
          have H0 := hbW
          clear hbW
          refine (smallq_m1 bs h h' h2 h3).mono ?_
          rintro e w1 ⟨rfl, hb⟩
          replace b0 := b0.below hb
          replace b1 := b1.below hb
          replace bs := bs.below hb
          replace H0 := H0.trans (hb.mono H0.size)
          clear hb
          go_wp2_with fail
          refine (HK.out _ H0).mono ?_
          rintro e w2 ⟨rfl, hb⟩
          replace b0 := b0.below hb
          replace b1 := b1.below hb
          replace bs := bs.below hb
          replace H0 := H0.trans (hb.mono H0.size)
          clear hb
          go_wp2_with fail
          go_returns
          exact ⟨rfl, H0⟩
end
end Go.Proofs.YtkhfadfjkmhpgaaGreatDoor
