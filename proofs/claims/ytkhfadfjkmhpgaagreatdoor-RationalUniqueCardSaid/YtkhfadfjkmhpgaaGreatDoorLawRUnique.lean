/-
  The walk of the law RationalUnique, out of the contracts of what it calls.
-/
import Derived.Test.YtkhfadfjkmhpgaaGreatDoorRatP
import Derived.Deep.Cut
import Derived.Test.YtkhfadfjkmhpgaaGreatDoorRatT
import Derived.Test.YtkhfadfjkmhpgaaGreatDoorRatS
namespace Go.Proofs.YtkhfadfjkmhpgaaGreatDoor
open Go.RowKit

section
variable {A0 A1 A2 A3 D0 D1 D2 D3 : Option Addr} {n0 n1 n2 n3 c0 c1 c2 c3 m0 m1 m2 m3 e0 e1 e2 e3 : Nat} {s0 s1 s2 s3 : Bool} {z z' z0 z1 z2 : Int} {q q' q0 q1 q2 : Rat} {L L0 L1 L2 x x0 x1 y : Nat} {k : Int} {w : World}
theorem sameq_t (h : NQ w s0 (.slice A0 n0 c0) (.slice D0 m0 e0) q L) (h' : NQ w s1 (.slice A1 n1 c1) (.slice D1 m1 e1) q' L0) (he : q = q') :
    Calls Tryz.prog 46 #[.agg #[.bool s0, .slice A0 n0 c0, .slice D0 m0 e0], .agg #[.bool s1, .slice A1 n1 c1, .slice D1 m1 e1]] w fun e w' => e = .returned (.bool true) ∧ Below w.heap.size w w' := sameq_d h h' (decide_eq_true he)
theorem same3_t (h : NQ w s0 (.slice A0 n0 c0) (.slice D0 m0 e0) q L) (h' : PQ w s1 (.slice A1 n1 c1) (.slice D1 m1 e1) q' L0) (hL : L0 ≤ 100000) (he : q = q') :
    Calls Tryz.prog 14 #[.agg #[.bool s0, .slice A0 n0 c0, .slice D0 m0 e0], .agg #[.bool s1, .slice A1 n1 c1, .slice D1 m1 e1]] w fun e w' => e = .returned (.bool true) ∧ Below w.heap.size w w' := same3_d h h' hL (decide_eq_true he)
theorem sub_zero {q q' : Rat} (h : q - q' = 0) : q = q' := by grind
theorem rsg_half (q : Rat) : rsg (q / 2) = rsg q := by
  rw [← mid_mk (q := q) (z := q.num) (d := q.den) (Rat.mkRat_self q).symm, rsg_mk (by have := q.den_nz; omega)]; rfl
theorem rsg_self (q : Rat) : rsg (q - q) = 0 := by rw [Rat.sub_self]; rfl
theorem rsg_of {q q' : Rat} (h : q = q') : rsg (q - q') = 0 := by rw [h]; exact rsg_self q'
set_option maxRecDepth 100000 in
set_option maxHeartbeats 8000000 in
theorem rationalunique_any {v : Value} {a a' : Addr} (HI : Ints w v) (hS : w.cell? ⟨0, 0, none⟩ = some (.iface 199 (.pointer (some a)))) (hR : w.cell? ⟨1, 0, none⟩ = some (.iface 199 (.pointer (some a')))) (htab : Lib.TabIs Tryz.prog w "internal/strconv.uint64pow10" .u64 Lib.pow10Tab) :
    Calls Tryz.prog 6 #[v] w fun e w' => e = .returned (.bool true) ∧ Below w.heap.size w w' := by
  have blkS := World.block_lt_of_cell? _ _ hS
  have blkR := World.block_lt_of_cell? _ _ hR
  have HK := Lib.hid (fun (W : World) (h : Below w.heap.size w W) => known3_any ((h.cell (p := ⟨0, 0, none⟩) blkS).trans hS) ((h.cell (p := ⟨1, 0, none⟩) blkR).trans hR) (Go.Joins.tab_stays (show Tryz.prog.globalNamed "internal/strconv.uint64pow10" = some 5 by kernel_rfl) htab h (Nat.le_refl _)))
  clear hS hR htab blkS blkR
  go_enter Tryz.func6, Tryz.ntmps6
  go_wp2_with fail
  refine (new_any HI).mono ?_
  rintro e w1 ⟨rfl, hT, H0, hsz⟩
  have hlt : w.heap.size < w1.heap.size := by omega
  clear hsz HI
  go_wp2_with fail
  refine (rmade_v hT hlt).mono ?_
  rintro e w2 ⟨q0, s0, A0, n0, c0, D0, m0, e0, rfl, f0, hT', hg⟩
  clear hT
  have hT := hT'
  clear hT'
  replace hlt := Nat.lt_of_lt_of_le hlt hg.size
  replace H0 := H0.grown hg H0.size (by rintro k hk; injection hk with hk; omega)
  clear hg
  go_wp2_with fail
  refine (rmade_v hT hlt).mono ?_
  rintro e w3 ⟨q1, s1, A1, n1, c1, D1, m1, e1, rfl, f1, hT', hg⟩
  replace f0 := f0.tape hT hg
  clear hT
  have hT := hT'
  clear hT'
  replace hlt := Nat.lt_of_lt_of_le hlt hg.size
  replace H0 := H0.grown hg H0.size (by rintro k hk; injection hk with hk; omega)
  clear hg
  have hl2 := hlt
  obtain ⟨W4, hW, b0, b1, hbW, hszW4⟩ := boxes2 w3 #[.bool s0, .slice A0 n0 c0, .slice D0 m0 e0] #[.bool s1, .slice A1 n1 c1, .slice D1 m1 e1] 27 27
  skip
  skip
  replace f0 := f0.below hbW
  replace f1 := f1.below hbW
  replace H0 := H0.trans (hbW.mono H0.size)
  replace hT := hT.keep hbW hlt
  replace hlt := Nat.lt_of_lt_of_le hlt hbW.size
  clear hbW
  have cb00 := b0.cell 0 _ rfl
  have cb01 := b0.cell 1 _ rfl
  have cb02 := b0.cell 2 _ rfl
  have cb10 := b1.cell 0 _ rfl
  have cb11 := b1.cell 1 _ rfl
  have cb12 := b1.cell 2 _ rfl
  go_wp2_with fail
  clear hW
  clear cb00 cb01 cb02 cb10 cb11 cb12
  refine (next_any 2 (by omega) (by omega) hT).mono ?_
  rintro e w5 ⟨r, rfl, hr, hT', hg⟩
  replace f0 := f0.tape hT hg
  replace f1 := f1.tape hT hg
  replace b0 := b0.other hg (by omega)
  replace b1 := b1.other hg (by omega)
  replace hlt := Nat.lt_of_lt_of_le hlt hg.size
  replace H0 := H0.grown hg H0.size (by rintro k hk; injection hk with hk; omega)
  clear hT hT' hlt hg
  go_upto_if 16 with fail
  have lt0 := b0.lt
  have lt1 := b1.lt
  go_cut [5] from 8 (fun s5 wx => ∃ s9 A9 n9 c9 D9 m9 e9 q9, s5 = .pointer (some ⟨w3.heap.size + 1, 0, none⟩) ∧ RQ wx s9 (.slice A9 n9 c9) (.slice D9 m9 e9) q9 40 ∧ RQ wx s0 (.slice A0 n0 c0) (.slice D0 m0 e0) q0 6 ∧ Box wx (w3.heap.size) #[.bool s0, .slice A0 n0 c0, .slice D0 m0 e0] 27 ∧ Box wx (w3.heap.size + 1) #[.bool s9, .slice A9 n9 c9, .slice D9 m9 e9] 27 ∧ Below w.heap.size w wx)
  case first =>
    rcases Decidable.em (r = 0) with h1 | h1
    · have hr0 : ((r : Int) == 0) = true := by rw [beq_iff_eq]; omega
      clear h1
      have cb00 := b0.cell 0 _ rfl
      have cb01 := b0.cell 1 _ rfl
      have cb02 := b0.cell 2 _ rfl
      have cb10 := b1.cell 0 _ rfl
      have cb11 := b1.cell 1 _ rfl
      have cb12 := b1.cell 2 _ rfl
      go_wp2_with fail
      clear hr0
      clear cb00 cb01 cb02 cb10 cb11 cb12
      have hD := drawn_below w5
      replace f0 := f0.below hD
      replace f1 := f1.below hD
      replace b0 := b0.below hD
      replace b1 := b1.below hD
      replace H0 := H0.trans (hD.mono H0.size)
      clear hD
      refine wp_region_noPanic ?_
      refine wp_region_F (S := (fun V => V.cell? ⟨w3.heap.size, 0, none⟩ = some (.bool s0) ∧ V.cell? ⟨w3.heap.size, 1, none⟩ = some (.slice A0 n0 c0) ∧ V.cell? ⟨w3.heap.size, 2, none⟩ = some (.slice D0 m0 e0) ∧ V.cell? ⟨w3.heap.size + 1, 0, none⟩ = some (.bool s1) ∧ V.cell? ⟨w3.heap.size + 1, 1, none⟩ = some (.slice A1 n1 c1) ∧ V.cell? ⟨w3.heap.size + 1, 2, none⟩ = some (.slice D1 m1 e1))) (F := (fun j => j == 5)) (by kernel_rfl) ?_
      generalize w5.drew = v6 at H0 f0 f1 b0 b1 ⊢
      refine wpAnyF_take (i := 0) (v := ?_) (fun j => j == 2 || j == 4 || j == 5) rfl (by kernel_rfl) (by kernel_rfl) (by kernel_rfl) (by kernel_rfl) (fun j hj => by have h6 : 6 ≤ j := hj; simp; omega) (fun _ _ _ h => h) (Or.inl ⟨by rfl, ?_⟩) ⟨b0.cell 0 _ rfl, b0.cell 1 _ rfl, b0.cell 2 _ rfl, b1.cell 0 _ rfl, b1.cell 1 _ rfl, b1.cell 2 _ rfl⟩ ?_
      rotate_left
      · (intro w hSw; (try dsimp only at hSw); go_simp; (try with_reducible rfl))
      (try simp only [List.getElem_toArray, List.getElem_cons_zero, Act.put, List.setIfInBounds_toArray, List.set_cons_zero, List.set_cons_succ])
      refine wpAnyF_take (i := 1) (v := ?_) (fun j => j == 2 || j == 4 || j == 5) rfl (by kernel_rfl) (by kernel_rfl) (by kernel_rfl) (by kernel_rfl) (fun j hj => by have h6 : 6 ≤ j := hj; simp; omega) (fun _ _ _ h => h) (Or.inl ⟨by rfl, ?_⟩) ⟨b0.cell 0 _ rfl, b0.cell 1 _ rfl, b0.cell 2 _ rfl, b1.cell 0 _ rfl, b1.cell 1 _ rfl, b1.cell 2 _ rfl⟩ ?_
      rotate_left
      · (intro w hSw; (try dsimp only at hSw); go_simp; (try with_reducible rfl))
      (try simp only [List.getElem_toArray, List.getElem_cons_succ, List.getElem_cons_zero, Act.put, List.setIfInBounds_toArray, List.set_cons_zero, List.set_cons_succ])
      refine wpAnyF_take (i := 3) (v := ?_) (fun j => j == 4 || j == 5) rfl (by kernel_rfl) (by kernel_rfl) (by kernel_rfl) (by kernel_rfl) (fun j hj => by have h6 : 6 ≤ j := hj; simp; omega) (fun _ _ _ h => h) (Or.inl ⟨by rfl, ?_⟩) ⟨b0.cell 0 _ rfl, b0.cell 1 _ rfl, b0.cell 2 _ rfl, b1.cell 0 _ rfl, b1.cell 1 _ rfl, b1.cell 2 _ rfl⟩ ?_
      rotate_left
      · (intro w hSw; (try dsimp only at hSw); go_simp; (try with_reducible rfl))
      (try simp only [List.getElem_toArray, List.getElem_cons_succ, List.getElem_cons_zero, Act.put, List.setIfInBounds_toArray, List.set_cons_zero, List.set_cons_succ])
      refine wpAnyF_one (i := 2) (by kernel_rfl) rfl rfl (fun K hK => ?_)
      go_simp
      go_at_call 34
      refine (rsub_v f0 f1 (by omega) (by omega)).mono ?_
      rintro e w7 ⟨s5, A5, n5, c5, D5, m5, e5, rfl, g5, hb⟩
      replace f0 := f0.below hb
      replace f1 := f1.below hb
      replace b0 := b0.below hb
      replace b1 := b1.below hb
      replace H0 := H0.trans (hb.mono H0.size)
      clear hb
      go_wp2_with fail
      refine hK.out _ _ ⟨b0.cell 0 _ rfl, b0.cell 1 _ rfl, b0.cell 2 _ rfl, b1.cell 0 _ rfl, b1.cell 1 _ rfl, b1.cell 2 _ rfl⟩ ?_
      clear hK K
      (try simp only [List.getElem_toArray, List.getElem_cons_succ, List.getElem_cons_zero, Act.put, List.setIfInBounds_toArray, List.set_cons_zero, List.set_cons_succ])
      refine wpAnyF_one (i := 4) (by kernel_rfl) rfl rfl (fun K hK => ?_)
      go_simp
      go_at_call 32
      refine (radd_v g5.rq f1 (by omega) (by omega)).mono ?_
      rintro e w8 ⟨s6, A6, n6, c6, D6, m6, e6, rfl, g6, hb⟩
      replace f0 := f0.below hb
      replace f1 := f1.below hb
      replace g5 := g5.below hb
      replace b0 := b0.below hb
      replace b1 := b1.below hb
      replace H0 := H0.trans (hb.mono H0.size)
      clear hb
      clear g5
      go_wp2_with fail
      refine hK.out _ _ ⟨b0.cell 0 _ rfl, b0.cell 1 _ rfl, b0.cell 2 _ rfl, b1.cell 0 _ rfl, b1.cell 1 _ rfl, b1.cell 2 _ rfl⟩ ?_
      clear hK K
      (try simp only [List.getElem_toArray, List.getElem_cons_succ, List.getElem_cons_zero, Act.put, List.setIfInBounds_toArray, List.set_cons_zero, List.set_cons_succ])
      have cb10 := b1.cell 0 _ rfl
      have yb10 := b1.frozen 0
      have cb11 := b1.cell 1 _ rfl
      have yb11 := b1.frozen 1
      have cb12 := b1.cell 2 _ rfl
      have yb12 := b1.frozen 2
      refine wpAnyF_last (i := 5) (by kernel_rfl) rfl rfl (fun K hK => ?_)
      go_simp
      refine hK.out _ _ ?_
      clear hK K
      (try simp only [List.getElem_toArray, List.getElem_cons_succ, List.getElem_cons_zero, Act.put, List.setIfInBounds_toArray, List.set_cons_zero, List.set_cons_succ])
      clear cb10 yb10 cb11 yb11 cb12 yb12
      have hg := only_store3 w8 (w3.heap.size + 1) (.bool s6) (.slice A6 n6 c6) (.slice D6 m6 e6)
      have hB := b1.stored3 (.bool s6) (.slice A6 n6 c6) (.slice D6 m6 e6)
      generalize hX : (((w8.setCell ⟨w3.heap.size + 1, 0, none⟩ (.bool s6)).setCell ⟨w3.heap.size + 1, 1, none⟩ (.slice A6 n6 c6)).setCell ⟨w3.heap.size + 1, 2, none⟩ (.slice D6 m6 e6)) = X9 at hg hB ⊢
      clear hX
      replace f0 := f0.kept b1 (by simp [notInt]) hg
      replace f1 := f1.kept b1 (by simp [notInt]) hg
      replace g6 := g6.kept b1 (by simp [notInt]) hg
      replace b0 := b0.other hg (by omega)
      replace b1 := hB
      replace H0 := below_only H0 hg (by omega) H0.size
      clear hg hB
      refine wpAny_done (by kernel_rfl) ?_ _
      refine NoPanic.normal ?_
      go_wp2_with fail
      go_meet
      exact ⟨s6, A6, n6, c6, D6, m6, e6, _, rfl, g6.rq.more (by omega), f0, b0, b1, H0⟩
    · have hr0 : ((r : Int) == 0) = false := by rw [beq_eq_false_iff_ne]; omega
      clear h1
      go_wp2_with fail
      go_meet
      exact ⟨s1, A1, n1, c1, D1, m1, e1, _, rfl, f1.more (by omega), f0, b0, b1, H0⟩
  clear f0 f1 b0 b1 H0
  obtain ⟨s9, A9, n9, c9, D9, m9, e9, q9, rfl, f9, f0, b0, b1, H0⟩ := hcut
  have cb00 := b0.cell 0 _ rfl
  have cb01 := b0.cell 1 _ rfl
  have cb02 := b0.cell 2 _ rfl
  have cb10 := b1.cell 0 _ rfl
  have cb11 := b1.cell 1 _ rfl
  have cb12 := b1.cell 2 _ rfl
  go_wp2_with fail
  clear cb00 cb01 cb02 cb10 cb11 cb12
  have lcb0_6 := b0.lt
  have lcb1_6 := b1.lt
  go_cut [6, 7] from 22 (fun u6_0 u6_1 wx => ∃ g6_0 g6_1 s3 A3 n3 c3 D3 m3 e3 s4 A4 n4 c4 D4 m4 e4, u6_0 = .pointer (some ⟨g6_0, 0, none⟩) ∧ u6_1 = .pointer (some ⟨g6_1, 0, none⟩) ∧ NQ wx s3 (.slice A3 n3 c3) (.slice D3 m3 e3) q0 (max 6 2) ∧ NQ wx s4 (.slice A4 n4 c4) (.slice D4 m4 e4) q9 (max 40 2) ∧ Box wx g6_0 #[.bool s3, .slice A3 n3 c3, .slice D3 m3 e3] 27 ∧ Box wx g6_1 #[.bool s4, .slice A4 n4 c4, .slice D4 m4 e4] 27 ∧ wc.heap.size ≤ g6_0 ∧ wc.heap.size ≤ g6_1 ∧ g6_0 ≠ g6_1 ∧ Below wc.heap.size wc wx)
  case first =>
    have hG := drawn_below wc
    refine wp_region_noPanic ?_
    refine wp_region_held_drew (S := (fun V => V.cell? ⟨w3.heap.size, 0, none⟩ = some (.bool s0) ∧ V.cell? ⟨w3.heap.size, 1, none⟩ = some (.slice A0 n0 c0) ∧ V.cell? ⟨w3.heap.size, 2, none⟩ = some (.slice D0 m0 e0) ∧ V.cell? ⟨w3.heap.size + 1, 0, none⟩ = some (.bool s9) ∧ V.cell? ⟨w3.heap.size + 1, 1, none⟩ = some (.slice A9 n9 c9) ∧ V.cell? ⟨w3.heap.size + 1, 2, none⟩ = some (.slice D9 m9 e9))) (by kernel_rfl) ⟨(b0.below hG).cell 0 _ rfl, (b0.below hG).cell 1 _ rfl, (b0.below hG).cell 2 _ rfl, (b1.below hG).cell 0 _ rfl, (b1.below hG).cell 1 _ rfl, (b1.below hG).cell 2 _ rfl⟩ (fun hHeld => ?_)
    generalize wc.drew = v6 at hG hHeld ⊢
    have sG := hG.size
    refine wpAnyH_take (i := 0) (v := ?_) rfl (by kernel_rfl) (by kernel_rfl) (by kernel_rfl) (fun _ _ _ h => h) (Or.inl ⟨by rfl, ?_⟩) (by assumption) ?_
    rotate_left
    · (intro w hSw; (try dsimp only at hSw); go_simp; (try with_reducible rfl))
    (try simp only [List.getElem_toArray, List.getElem_cons_zero, Act.put, List.setIfInBounds_toArray, List.set_cons_zero, List.set_cons_succ])
    refine wpAnyH_take (i := 2) (v := ?_) rfl (by kernel_rfl) (by kernel_rfl) (by kernel_rfl) (fun _ _ _ h => h) (Or.inl ⟨by rfl, ?_⟩) (by assumption) ?_
    rotate_left
    · (intro w hSw; (try dsimp only at hSw); go_simp; (try with_reducible rfl))
    (try simp only [List.getElem_toArray, List.getElem_cons_succ, List.getElem_cons_zero, Act.put, List.setIfInBounds_toArray, List.set_cons_zero, List.set_cons_succ])
    refine wpAnyH_ready (rs := [1, 4, 5]) (by kernel_rfl) (by simp) (AllReadyH.cons (o := _) rfl (fun K hK => ?_) (AllReadyH.cons (o := _) rfl (fun K hK => ?_) (AllReadyH.cons (o := _) rfl (fun K hK => ?_) AllReadyH.nil)))
    · go_simp
      go_at_call 16
      refine (rnorm_v (f0.below hG) (by omega)).mono ?_
      rintro e y6_1 ⟨s3, A3, n3, c3, D3, m3, e3, rfl, g3, hb9⟩
      have szy6_1 := hb9.size
      replace hG := hG.trans (hb9.mono sG)
      replace sG := hG.size
      clear hb9
      go_wp2_with fail
      refine hK.out _ _ ⟨(b0.below hG).cell 0 _ rfl, (b0.below hG).cell 1 _ rfl, (b0.below hG).cell 2 _ rfl, (b1.below hG).cell 0 _ rfl, (b1.below hG).cell 1 _ rfl, (b1.below hG).cell 2 _ rfl⟩ (fun hHeld => ?_)
      clear hK K
      (try simp only [List.getElem_toArray, List.getElem_cons_succ, List.getElem_cons_zero, Act.put, List.setIfInBounds_toArray, List.set_cons_zero, List.set_cons_succ])
      refine wpAnyH_ready (rs := [3, 4, 5]) (by kernel_rfl) (by simp) (AllReadyH.cons (o := _) rfl (fun K hK => ?_) (AllReadyH.cons (o := _) rfl (fun K hK => ?_) (AllReadyH.cons (o := _) rfl (fun K hK => ?_) AllReadyH.nil)))
      · go_simp
        go_at_call 16
        refine (rnorm_v (f9.below hG) (by omega)).mono ?_
        rintro e y6_2 ⟨s4, A4, n4, c4, D4, m4, e4, rfl, g4, hb9⟩
        have szy6_2 := hb9.size
        replace g3 := g3.below hb9
        replace hG := hG.trans (hb9.mono sG)
        replace sG := hG.size
        clear hb9
        go_wp2_with fail
        refine hK.out _ _ ⟨(b0.below hG).cell 0 _ rfl, (b0.below hG).cell 1 _ rfl, (b0.below hG).cell 2 _ rfl, (b1.below hG).cell 0 _ rfl, (b1.below hG).cell 1 _ rfl, (b1.below hG).cell 2 _ rfl⟩ (fun hHeld => ?_)
        clear hK K
        (try simp only [List.getElem_toArray, List.getElem_cons_succ, List.getElem_cons_zero, Act.put, List.setIfInBounds_toArray, List.set_cons_zero, List.set_cons_succ])
        refine wpAnyH_ready (rs := [4, 5]) (by kernel_rfl) (by simp) (AllReadyH.cons (o := _) rfl (fun K hK => ?_) (AllReadyH.cons (o := _) rfl (fun K hK => ?_) AllReadyH.nil))
        · go_simp
          obtain ⟨y6_3, hV, b3, hb9, szy6_3⟩ := boxes1 y6_2 #[.bool false, .slice none 0 0, .slice none 0 0] 27
          rw [hV]
          clear hV
          have gly6_3 : wc.heap.size ≤ y6_2.heap.size := sG
          replace szy6_3 : y6_2.heap.size < y6_3.heap.size := by omega
          replace g3 := g3.below hb9
          replace g4 := g4.below hb9
          replace hG := hG.trans (hb9.mono sG)
          replace sG := hG.size
          clear hb9
          refine hK.out _ _ ⟨(b0.below hG).cell 0 _ rfl, (b0.below hG).cell 1 _ rfl, (b0.below hG).cell 2 _ rfl, (b1.below hG).cell 0 _ rfl, (b1.below hG).cell 1 _ rfl, (b1.below hG).cell 2 _ rfl⟩ (fun hHeld => ?_)
          clear hK K
          (try simp only [List.getElem_toArray, List.getElem_cons_succ, List.getElem_cons_zero, Act.put, List.setIfInBounds_toArray, List.set_cons_zero, List.set_cons_succ])
          refine wpAnyH_ready (rs := [5]) (by kernel_rfl) (by simp) (AllReadyH.cons (o := _) rfl (fun K hK => ?_) AllReadyH.nil)
          go_simp
          obtain ⟨y6_4, hV, b4, hb9, szy6_4⟩ := boxes1 y6_3 #[.bool false, .slice none 0 0, .slice none 0 0] 27
          rw [hV]
          clear hV
          have gly6_4 : wc.heap.size ≤ y6_3.heap.size := sG
          replace szy6_4 : y6_3.heap.size < y6_4.heap.size := by omega
          replace g3 := g3.below hb9
          replace g4 := g4.below hb9
          replace b3 := b3.below hb9
          replace hG := hG.trans (hb9.mono sG)
          replace sG := hG.size
          clear hb9
          refine hK.out _ _ ⟨(b0.below hG).cell 0 _ rfl, (b0.below hG).cell 1 _ rfl, (b0.below hG).cell 2 _ rfl, (b1.below hG).cell 0 _ rfl, (b1.below hG).cell 1 _ rfl, (b1.below hG).cell 2 _ rfl⟩ (fun hHeld => ?_)
          clear hK K
          (try simp only [List.getElem_toArray, List.getElem_cons_succ, List.getElem_cons_zero, Act.put, List.setIfInBounds_toArray, List.set_cons_zero, List.set_cons_succ])
          have rb30 := b3.cell 0 _ rfl
          have qb30 := b3.frozen 0
          have rb31 := b3.cell 1 _ rfl
          have qb31 := b3.frozen 1
          have rb32 := b3.cell 2 _ rfl
          have qb32 := b3.frozen 2
          have rb40 := b4.cell 0 _ rfl
          have qb40 := b4.frozen 0
          have rb41 := b4.cell 1 _ rfl
          have qb41 := b4.frozen 1
          have rb42 := b4.cell 2 _ rfl
          have qb42 := b4.frozen 2
          refine wpAnyH_ready (rs := [6]) (by kernel_rfl) (by simp) (AllReadyH.cons (o := _) rfl (fun K hK => ?_) AllReadyH.nil)
          go_simp
          clear rb30 qb30
          clear rb31 qb31
          clear rb32 qb32
          clear rb40 qb40
          clear rb41 qb41
          clear rb42 qb42
          have hg := only_store3 y6_4 (y6_2.heap.size) (.bool s3) (.slice A3 n3 c3) (.slice D3 m3 e3)
          have hB := b3.stored3 (.bool s3) (.slice A3 n3 c3) (.slice D3 m3 e3)
          generalize hX : (((y6_4.setCell ⟨y6_2.heap.size, 0, none⟩ (.bool s3)).setCell ⟨y6_2.heap.size, 1, none⟩ (.slice A3 n3 c3)).setCell ⟨y6_2.heap.size, 2, none⟩ (.slice D3 m3 e3)) = Y6_5 at hg hB ⊢
          clear hX
          replace g3 := g3.kept b3 (by simp [notInt]) hg
          replace g4 := g4.kept b3 (by simp [notInt]) hg
          replace b4 := b4.other hg (by omega)
          replace b3 := hB
          replace hG := below_only hG hg (by omega) sG
          replace sG := hG.size
          clear hg hB
          refine hK.out _ _ ⟨(b0.below hG).cell 0 _ rfl, (b0.below hG).cell 1 _ rfl, (b0.below hG).cell 2 _ rfl, (b1.below hG).cell 0 _ rfl, (b1.below hG).cell 1 _ rfl, (b1.below hG).cell 2 _ rfl⟩ (fun hHeld => ?_)
          clear hK K
          (try simp only [List.getElem_toArray, List.getElem_cons_succ, List.getElem_cons_zero, Act.put, List.setIfInBounds_toArray, List.set_cons_zero, List.set_cons_succ])
          have rb30 := b3.cell 0 _ rfl
          have qb30 := b3.frozen 0
          have rb31 := b3.cell 1 _ rfl
          have qb31 := b3.frozen 1
          have rb32 := b3.cell 2 _ rfl
          have qb32 := b3.frozen 2
          have rb40 := b4.cell 0 _ rfl
          have qb40 := b4.frozen 0
          have rb41 := b4.cell 1 _ rfl
          have qb41 := b4.frozen 1
          have rb42 := b4.cell 2 _ rfl
          have qb42 := b4.frozen 2
          refine wpAnyH_ready (rs := [7]) (by kernel_rfl) (by simp) (AllReadyH.cons (o := _) rfl (fun K hK => ?_) AllReadyH.nil)
          go_simp
          clear rb30 qb30
          clear rb31 qb31
          clear rb32 qb32
          clear rb40 qb40
          clear rb41 qb41
          clear rb42 qb42
          have hg := only_store3 Y6_5 (y6_3.heap.size) (.bool s4) (.slice A4 n4 c4) (.slice D4 m4 e4)
          have hB := b4.stored3 (.bool s4) (.slice A4 n4 c4) (.slice D4 m4 e4)
          generalize hX : (((Y6_5.setCell ⟨y6_3.heap.size, 0, none⟩ (.bool s4)).setCell ⟨y6_3.heap.size, 1, none⟩ (.slice A4 n4 c4)).setCell ⟨y6_3.heap.size, 2, none⟩ (.slice D4 m4 e4)) = Y6_6 at hg hB ⊢
          clear hX
          replace g3 := g3.kept b4 (by simp [notInt]) hg
          replace g4 := g4.kept b4 (by simp [notInt]) hg
          replace b3 := b3.other hg (by omega)
          replace b4 := hB
          replace hG := below_only hG hg (by omega) sG
          replace sG := hG.size
          clear hg hB
          refine hK.out _ _ ⟨(b0.below hG).cell 0 _ rfl, (b0.below hG).cell 1 _ rfl, (b0.below hG).cell 2 _ rfl, (b1.below hG).cell 0 _ rfl, (b1.below hG).cell 1 _ rfl, (b1.below hG).cell 2 _ rfl⟩ (fun hHeld => ?_)
          clear hK K
          (try simp only [List.getElem_toArray, List.getElem_cons_succ, List.getElem_cons_zero, Act.put, List.setIfInBounds_toArray, List.set_cons_zero, List.set_cons_succ])
          refine wpAnyH_done (by kernel_rfl) ?_ _
          refine NoPanic.normal ?_
          go_wp2_with fail
          go_meet
          exact ⟨y6_2.heap.size, y6_3.heap.size, s3, A3, n3, c3, D3, m3, e3, s4, A4, n4, c4, D4, m4, e4, rfl, rfl, g3, g4, b3, b4, (by omega), (by omega), (by omega), hG⟩
        · go_simp
          obtain ⟨y6_7, hV, b4, hb9, szy6_7⟩ := boxes1 y6_2 #[.bool false, .slice none 0 0, .slice none 0 0] 27
          rw [hV]
          clear hV
          have gly6_7 : wc.heap.size ≤ y6_2.heap.size := sG
          replace szy6_7 : y6_2.heap.size < y6_7.heap.size := by omega
          replace g3 := g3.below hb9
          replace g4 := g4.below hb9
          replace hG := hG.trans (hb9.mono sG)
          replace sG := hG.size
          clear hb9
          refine hK.out _ _ ⟨(b0.below hG).cell 0 _ rfl, (b0.below hG).cell 1 _ rfl, (b0.below hG).cell 2 _ rfl, (b1.below hG).cell 0 _ rfl, (b1.below hG).cell 1 _ rfl, (b1.below hG).cell 2 _ rfl⟩ (fun hHeld => ?_)
          clear hK K
          (try simp only [List.getElem_toArray, List.getElem_cons_succ, List.getElem_cons_zero, Act.put, List.setIfInBounds_toArray, List.set_cons_zero, List.set_cons_succ])
          refine wpAnyH_ready (rs := [4]) (by kernel_rfl) (by simp) (AllReadyH.cons (o := _) rfl (fun K hK => ?_) AllReadyH.nil)
          go_simp
          obtain ⟨y6_8, hV, b3, hb9, szy6_8⟩ := boxes1 y6_7 #[.bool false, .slice none 0 0, .slice none 0 0] 27
          rw [hV]
          clear hV
          have gly6_8 : wc.heap.size ≤ y6_7.heap.size := sG
          replace szy6_8 : y6_7.heap.size < y6_8.heap.size := by omega
          replace g3 := g3.below hb9
          replace g4 := g4.below hb9
          replace b4 := b4.below hb9
          replace hG := hG.trans (hb9.mono sG)
          replace sG := hG.size
          clear hb9
          refine hK.out _ _ ⟨(b0.below hG).cell 0 _ rfl, (b0.below hG).cell 1 _ rfl, (b0.below hG).cell 2 _ rfl, (b1.below hG).cell 0 _ rfl, (b1.below hG).cell 1 _ rfl, (b1.below hG).cell 2 _ rfl⟩ (fun hHeld => ?_)
          clear hK K
          (try simp only [List.getElem_toArray, List.getElem_cons_succ, List.getElem_cons_zero, Act.put, List.setIfInBounds_toArray, List.set_cons_zero, List.set_cons_succ])
          have rb40 := b4.cell 0 _ rfl
          have qb40 := b4.frozen 0
          have rb41 := b4.cell 1 _ rfl
          have qb41 := b4.frozen 1
          have rb42 := b4.cell 2 _ rfl
          have qb42 := b4.frozen 2
          have rb30 := b3.cell 0 _ rfl
          have qb30 := b3.frozen 0
          have rb31 := b3.cell 1 _ rfl
          have qb31 := b3.frozen 1
          have rb32 := b3.cell 2 _ rfl
          have qb32 := b3.frozen 2
          refine wpAnyH_ready (rs := [6]) (by kernel_rfl) (by simp) (AllReadyH.cons (o := _) rfl (fun K hK => ?_) AllReadyH.nil)
          go_simp
          clear rb40 qb40
          clear rb41 qb41
          clear rb42 qb42
          clear rb30 qb30
          clear rb31 qb31
          clear rb32 qb32
          have hg := only_store3 y6_8 (y6_7.heap.size) (.bool s3) (.slice A3 n3 c3) (.slice D3 m3 e3)
          have hB := b3.stored3 (.bool s3) (.slice A3 n3 c3) (.slice D3 m3 e3)
          generalize hX : (((y6_8.setCell ⟨y6_7.heap.size, 0, none⟩ (.bool s3)).setCell ⟨y6_7.heap.size, 1, none⟩ (.slice A3 n3 c3)).setCell ⟨y6_7.heap.size, 2, none⟩ (.slice D3 m3 e3)) = Y6_9 at hg hB ⊢
          clear hX
          replace g3 := g3.kept b3 (by simp [notInt]) hg
          replace g4 := g4.kept b3 (by simp [notInt]) hg
          replace b4 := b4.other hg (by omega)
          replace b3 := hB
          replace hG := below_only hG hg (by omega) sG
          replace sG := hG.size
          clear hg hB
          refine hK.out _ _ ⟨(b0.below hG).cell 0 _ rfl, (b0.below hG).cell 1 _ rfl, (b0.below hG).cell 2 _ rfl, (b1.below hG).cell 0 _ rfl, (b1.below hG).cell 1 _ rfl, (b1.below hG).cell 2 _ rfl⟩ (fun hHeld => ?_)
          clear hK K
          (try simp only [List.getElem_toArray, List.getElem_cons_succ, List.getElem_cons_zero, Act.put, List.setIfInBounds_toArray, List.set_cons_zero, List.set_cons_succ])
          have rb40 := b4.cell 0 _ rfl
          have qb40 := b4.frozen 0
          have rb41 := b4.cell 1 _ rfl
          have qb41 := b4.frozen 1
          have rb42 := b4.cell 2 _ rfl
          have qb42 := b4.frozen 2
          have rb30 := b3.cell 0 _ rfl
          have qb30 := b3.frozen 0
          have rb31 := b3.cell 1 _ rfl
          have qb31 := b3.frozen 1
          have rb32 := b3.cell 2 _ rfl
          have qb32 := b3.frozen 2
          refine wpAnyH_ready (rs := [7]) (by kernel_rfl) (by simp) (AllReadyH.cons (o := _) rfl (fun K hK => ?_) AllReadyH.nil)
          go_simp
          clear rb40 qb40
          clear rb41 qb41
          clear rb42 qb42
          clear rb30 qb30
          clear rb31 qb31
          clear rb32 qb32
          have hg := only_store3 Y6_9 (y6_2.heap.size) (.bool s4) (.slice A4 n4 c4) (.slice D4 m4 e4)
          have hB := b4.stored3 (.bool s4) (.slice A4 n4 c4) (.slice D4 m4 e4)
          generalize hX : (((Y6_9.setCell ⟨y6_2.heap.size, 0, none⟩ (.bool s4)).setCell ⟨y6_2.heap.size, 1, none⟩ (.slice A4 n4 c4)).setCell ⟨y6_2.heap.size, 2, none⟩ (.slice D4 m4 e4)) = Y6_10 at hg hB ⊢
          clear hX
          replace g3 := g3.kept b4 (by simp [notInt]) hg
          replace g4 := g4.kept b4 (by simp [notInt]) hg
          replace b3 := b3.other hg (by omega)
          replace b4 := hB
          replace hG := below_only hG hg (by omega) sG
          replace sG := hG.size
          clear hg hB
          refine hK.out _ _ ⟨(b0.below hG).cell 0 _ rfl, (b0.below hG).cell 1 _ rfl, (b0.below hG).cell 2 _ rfl, (b1.below hG).cell 0 _ rfl, (b1.below hG).cell 1 _ rfl, (b1.below hG).cell 2 _ rfl⟩ (fun hHeld => ?_)
          clear hK K
          (try simp only [List.getElem_toArray, List.getElem_cons_succ, List.getElem_cons_zero, Act.put, List.setIfInBounds_toArray, List.set_cons_zero, List.set_cons_succ])
          refine wpAnyH_done (by kernel_rfl) ?_ _
          refine NoPanic.normal ?_
          go_wp2_with fail
          go_meet
          exact ⟨y6_7.heap.size, y6_2.heap.size, s3, A3, n3, c3, D3, m3, e3, s4, A4, n4, c4, D4, m4, e4, rfl, rfl, g3, g4, b3, b4, (by omega), (by omega), (by omega), hG⟩
      · go_simp
        obtain ⟨y6_11, hV, b3, hb9, szy6_11⟩ := boxes1 y6_1 #[.bool false, .slice none 0 0, .slice none 0 0] 27
        rw [hV]
        clear hV
        have gly6_11 : wc.heap.size ≤ y6_1.heap.size := sG
        replace szy6_11 : y6_1.heap.size < y6_11.heap.size := by omega
        replace g3 := g3.below hb9
        replace hG := hG.trans (hb9.mono sG)
        replace sG := hG.size
        clear hb9
        refine hK.out _ _ ⟨(b0.below hG).cell 0 _ rfl, (b0.below hG).cell 1 _ rfl, (b0.below hG).cell 2 _ rfl, (b1.below hG).cell 0 _ rfl, (b1.below hG).cell 1 _ rfl, (b1.below hG).cell 2 _ rfl⟩ (fun hHeld => ?_)
        clear hK K
        (try simp only [List.getElem_toArray, List.getElem_cons_succ, List.getElem_cons_zero, Act.put, List.setIfInBounds_toArray, List.set_cons_zero, List.set_cons_succ])
        refine wpAnyH_ready (rs := [3, 5]) (by kernel_rfl) (by simp) (AllReadyH.cons (o := _) rfl (fun K hK => ?_) (AllReadyH.cons (o := _) rfl (fun K hK => ?_) AllReadyH.nil))
        · go_simp
          go_at_call 16
          refine (rnorm_v (f9.below hG) (by omega)).mono ?_
          rintro e y6_12 ⟨s4, A4, n4, c4, D4, m4, e4, rfl, g4, hb9⟩
          have szy6_12 := hb9.size
          replace g3 := g3.below hb9
          replace b3 := b3.below hb9
          replace hG := hG.trans (hb9.mono sG)
          replace sG := hG.size
          clear hb9
          go_wp2_with fail
          refine hK.out _ _ ⟨(b0.below hG).cell 0 _ rfl, (b0.below hG).cell 1 _ rfl, (b0.below hG).cell 2 _ rfl, (b1.below hG).cell 0 _ rfl, (b1.below hG).cell 1 _ rfl, (b1.below hG).cell 2 _ rfl⟩ (fun hHeld => ?_)
          clear hK K
          (try simp only [List.getElem_toArray, List.getElem_cons_succ, List.getElem_cons_zero, Act.put, List.setIfInBounds_toArray, List.set_cons_zero, List.set_cons_succ])
          refine wpAnyH_ready (rs := [5]) (by kernel_rfl) (by simp) (AllReadyH.cons (o := _) rfl (fun K hK => ?_) AllReadyH.nil)
          go_simp
          obtain ⟨y6_13, hV, b4, hb9, szy6_13⟩ := boxes1 y6_12 #[.bool false, .slice none 0 0, .slice none 0 0] 27
          rw [hV]
          clear hV
          have gly6_13 : wc.heap.size ≤ y6_12.heap.size := sG
          replace szy6_13 : y6_12.heap.size < y6_13.heap.size := by omega
          replace g3 := g3.below hb9
          replace g4 := g4.below hb9
          replace b3 := b3.below hb9
          replace hG := hG.trans (hb9.mono sG)
          replace sG := hG.size
          clear hb9
          refine hK.out _ _ ⟨(b0.below hG).cell 0 _ rfl, (b0.below hG).cell 1 _ rfl, (b0.below hG).cell 2 _ rfl, (b1.below hG).cell 0 _ rfl, (b1.below hG).cell 1 _ rfl, (b1.below hG).cell 2 _ rfl⟩ (fun hHeld => ?_)
          clear hK K
          (try simp only [List.getElem_toArray, List.getElem_cons_succ, List.getElem_cons_zero, Act.put, List.setIfInBounds_toArray, List.set_cons_zero, List.set_cons_succ])
          have rb30 := b3.cell 0 _ rfl
          have qb30 := b3.frozen 0
          have rb31 := b3.cell 1 _ rfl
          have qb31 := b3.frozen 1
          have rb32 := b3.cell 2 _ rfl
          have qb32 := b3.frozen 2
          have rb40 := b4.cell 0 _ rfl
          have qb40 := b4.frozen 0
          have rb41 := b4.cell 1 _ rfl
          have qb41 := b4.frozen 1
          have rb42 := b4.cell 2 _ rfl
          have qb42 := b4.frozen 2
          refine wpAnyH_ready (rs := [6]) (by kernel_rfl) (by simp) (AllReadyH.cons (o := _) rfl (fun K hK => ?_) AllReadyH.nil)
          go_simp
          clear rb30 qb30
          clear rb31 qb31
          clear rb32 qb32
          clear rb40 qb40
          clear rb41 qb41
          clear rb42 qb42
          have hg := only_store3 y6_13 (y6_1.heap.size) (.bool s3) (.slice A3 n3 c3) (.slice D3 m3 e3)
          have hB := b3.stored3 (.bool s3) (.slice A3 n3 c3) (.slice D3 m3 e3)
          generalize hX : (((y6_13.setCell ⟨y6_1.heap.size, 0, none⟩ (.bool s3)).setCell ⟨y6_1.heap.size, 1, none⟩ (.slice A3 n3 c3)).setCell ⟨y6_1.heap.size, 2, none⟩ (.slice D3 m3 e3)) = Y6_14 at hg hB ⊢
          clear hX
          replace g3 := g3.kept b3 (by simp [notInt]) hg
          replace g4 := g4.kept b3 (by simp [notInt]) hg
          replace b4 := b4.other hg (by omega)
          replace b3 := hB
          replace hG := below_only hG hg (by omega) sG
          replace sG := hG.size
          clear hg hB
          refine hK.out _ _ ⟨(b0.below hG).cell 0 _ rfl, (b0.below hG).cell 1 _ rfl, (b0.below hG).cell 2 _ rfl, (b1.below hG).cell 0 _ rfl, (b1.below hG).cell 1 _ rfl, (b1.below hG).cell 2 _ rfl⟩ (fun hHeld => ?_)
          clear hK K
          (try simp only [List.getElem_toArray, List.getElem_cons_succ, List.getElem_cons_zero, Act.put, List.setIfInBounds_toArray, List.set_cons_zero, List.set_cons_succ])
          have rb30 := b3.cell 0 _ rfl
          have qb30 := b3.frozen 0
          have rb31 := b3.cell 1 _ rfl
          have qb31 := b3.frozen 1
          have rb32 := b3.cell 2 _ rfl
          have qb32 := b3.frozen 2
          have rb40 := b4.cell 0 _ rfl
          have qb40 := b4.frozen 0
          have rb41 := b4.cell 1 _ rfl
          have qb41 := b4.frozen 1
          have rb42 := b4.cell 2 _ rfl
          have qb42 := b4.frozen 2
          refine wpAnyH_ready (rs := [7]) (by kernel_rfl) (by simp) (AllReadyH.cons (o := _) rfl (fun K hK => ?_) AllReadyH.nil)
          go_simp
          clear rb30 qb30
          clear rb31 qb31
          clear rb32 qb32
          clear rb40 qb40
          clear rb41 qb41
          clear rb42 qb42
          have hg := only_store3 Y6_14 (y6_12.heap.size) (.bool s4) (.slice A4 n4 c4) (.slice D4 m4 e4)
          have hB := b4.stored3 (.bool s4) (.slice A4 n4 c4) (.slice D4 m4 e4)
          generalize hX : (((Y6_14.setCell ⟨y6_12.heap.size, 0, none⟩ (.bool s4)).setCell ⟨y6_12.heap.size, 1, none⟩ (.slice A4 n4 c4)).setCell ⟨y6_12.heap.size, 2, none⟩ (.slice D4 m4 e4)) = Y6_15 at hg hB ⊢
          clear hX
          replace g3 := g3.kept b4 (by simp [notInt]) hg
          replace g4 := g4.kept b4 (by simp [notInt]) hg
          replace b3 := b3.other hg (by omega)
          replace b4 := hB
          replace hG := below_only hG hg (by omega) sG
          replace sG := hG.size
          clear hg hB
          refine hK.out _ _ ⟨(b0.below hG).cell 0 _ rfl, (b0.below hG).cell 1 _ rfl, (b0.below hG).cell 2 _ rfl, (b1.below hG).cell 0 _ rfl, (b1.below hG).cell 1 _ rfl, (b1.below hG).cell 2 _ rfl⟩ (fun hHeld => ?_)
          clear hK K
          (try simp only [List.getElem_toArray, List.getElem_cons_succ, List.getElem_cons_zero, Act.put, List.setIfInBounds_toArray, List.set_cons_zero, List.set_cons_succ])
          refine wpAnyH_done (by kernel_rfl) ?_ _
          refine NoPanic.normal ?_
          go_wp2_with fail
          go_meet
          exact ⟨y6_1.heap.size, y6_12.heap.size, s3, A3, n3, c3, D3, m3, e3, s4, A4, n4, c4, D4, m4, e4, rfl, rfl, g3, g4, b3, b4, (by omega), (by omega), (by omega), hG⟩
        · go_simp
          obtain ⟨y6_16, hV, b4, hb9, szy6_16⟩ := boxes1 y6_11 #[.bool false, .slice none 0 0, .slice none 0 0] 27
          rw [hV]
          clear hV
          have gly6_16 : wc.heap.size ≤ y6_11.heap.size := sG
          replace szy6_16 : y6_11.heap.size < y6_16.heap.size := by omega
          replace g3 := g3.below hb9
          replace b3 := b3.below hb9
          replace hG := hG.trans (hb9.mono sG)
          replace sG := hG.size
          clear hb9
          refine hK.out _ _ ⟨(b0.below hG).cell 0 _ rfl, (b0.below hG).cell 1 _ rfl, (b0.below hG).cell 2 _ rfl, (b1.below hG).cell 0 _ rfl, (b1.below hG).cell 1 _ rfl, (b1.below hG).cell 2 _ rfl⟩ (fun hHeld => ?_)
          clear hK K
          (try simp only [List.getElem_toArray, List.getElem_cons_succ, List.getElem_cons_zero, Act.put, List.setIfInBounds_toArray, List.set_cons_zero, List.set_cons_succ])
          refine wpAnyH_ready (rs := [3]) (by kernel_rfl) (by simp) (AllReadyH.cons (o := _) rfl (fun K hK => ?_) AllReadyH.nil)
          go_simp
          go_at_call 16
          refine (rnorm_v (f9.below hG) (by omega)).mono ?_
          rintro e y6_17 ⟨s4, A4, n4, c4, D4, m4, e4, rfl, g4, hb9⟩
          have szy6_17 := hb9.size
          replace g3 := g3.below hb9
          replace b3 := b3.below hb9
          replace b4 := b4.below hb9
          replace hG := hG.trans (hb9.mono sG)
          replace sG := hG.size
          clear hb9
          go_wp2_with fail
          refine hK.out _ _ ⟨(b0.below hG).cell 0 _ rfl, (b0.below hG).cell 1 _ rfl, (b0.below hG).cell 2 _ rfl, (b1.below hG).cell 0 _ rfl, (b1.below hG).cell 1 _ rfl, (b1.below hG).cell 2 _ rfl⟩ (fun hHeld => ?_)
          clear hK K
          (try simp only [List.getElem_toArray, List.getElem_cons_succ, List.getElem_cons_zero, Act.put, List.setIfInBounds_toArray, List.set_cons_zero, List.set_cons_succ])
          have rb30 := b3.cell 0 _ rfl
          have qb30 := b3.frozen 0
          have rb31 := b3.cell 1 _ rfl
          have qb31 := b3.frozen 1
          have rb32 := b3.cell 2 _ rfl
          have qb32 := b3.frozen 2
          have rb40 := b4.cell 0 _ rfl
          have qb40 := b4.frozen 0
          have rb41 := b4.cell 1 _ rfl
          have qb41 := b4.frozen 1
          have rb42 := b4.cell 2 _ rfl
          have qb42 := b4.frozen 2
          refine wpAnyH_ready (rs := [6]) (by kernel_rfl) (by simp) (AllReadyH.cons (o := _) rfl (fun K hK => ?_) AllReadyH.nil)
          go_simp
          clear rb30 qb30
          clear rb31 qb31
          clear rb32 qb32
          clear rb40 qb40
          clear rb41 qb41
          clear rb42 qb42
          have hg := only_store3 y6_17 (y6_1.heap.size) (.bool s3) (.slice A3 n3 c3) (.slice D3 m3 e3)
          have hB := b3.stored3 (.bool s3) (.slice A3 n3 c3) (.slice D3 m3 e3)
          generalize hX : (((y6_17.setCell ⟨y6_1.heap.size, 0, none⟩ (.bool s3)).setCell ⟨y6_1.heap.size, 1, none⟩ (.slice A3 n3 c3)).setCell ⟨y6_1.heap.size, 2, none⟩ (.slice D3 m3 e3)) = Y6_18 at hg hB ⊢
          clear hX
          replace g3 := g3.kept b3 (by simp [notInt]) hg
          replace g4 := g4.kept b3 (by simp [notInt]) hg
          replace b4 := b4.other hg (by omega)
          replace b3 := hB
          replace hG := below_only hG hg (by omega) sG
          replace sG := hG.size
          clear hg hB
          refine hK.out _ _ ⟨(b0.below hG).cell 0 _ rfl, (b0.below hG).cell 1 _ rfl, (b0.below hG).cell 2 _ rfl, (b1.below hG).cell 0 _ rfl, (b1.below hG).cell 1 _ rfl, (b1.below hG).cell 2 _ rfl⟩ (fun hHeld => ?_)
          clear hK K
          (try simp only [List.getElem_toArray, List.getElem_cons_succ, List.getElem_cons_zero, Act.put, List.setIfInBounds_toArray, List.set_cons_zero, List.set_cons_succ])
          have rb30 := b3.cell 0 _ rfl
          have qb30 := b3.frozen 0
          have rb31 := b3.cell 1 _ rfl
          have qb31 := b3.frozen 1
          have rb32 := b3.cell 2 _ rfl
          have qb32 := b3.frozen 2
          have rb40 := b4.cell 0 _ rfl
          have qb40 := b4.frozen 0
          have rb41 := b4.cell 1 _ rfl
          have qb41 := b4.frozen 1
          have rb42 := b4.cell 2 _ rfl
          have qb42 := b4.frozen 2
          refine wpAnyH_ready (rs := [7]) (by kernel_rfl) (by simp) (AllReadyH.cons (o := _) rfl (fun K hK => ?_) AllReadyH.nil)
          go_simp
          clear rb30 qb30
          clear rb31 qb31
          clear rb32 qb32
          clear rb40 qb40
          clear rb41 qb41
          clear rb42 qb42
          have hg := only_store3 Y6_18 (y6_11.heap.size) (.bool s4) (.slice A4 n4 c4) (.slice D4 m4 e4)
          have hB := b4.stored3 (.bool s4) (.slice A4 n4 c4) (.slice D4 m4 e4)
          generalize hX : (((Y6_18.setCell ⟨y6_11.heap.size, 0, none⟩ (.bool s4)).setCell ⟨y6_11.heap.size, 1, none⟩ (.slice A4 n4 c4)).setCell ⟨y6_11.heap.size, 2, none⟩ (.slice D4 m4 e4)) = Y6_19 at hg hB ⊢
          clear hX
          replace g3 := g3.kept b4 (by simp [notInt]) hg
          replace g4 := g4.kept b4 (by simp [notInt]) hg
          replace b3 := b3.other hg (by omega)
          replace b4 := hB
          replace hG := below_only hG hg (by omega) sG
          replace sG := hG.size
          clear hg hB
          refine hK.out _ _ ⟨(b0.below hG).cell 0 _ rfl, (b0.below hG).cell 1 _ rfl, (b0.below hG).cell 2 _ rfl, (b1.below hG).cell 0 _ rfl, (b1.below hG).cell 1 _ rfl, (b1.below hG).cell 2 _ rfl⟩ (fun hHeld => ?_)
          clear hK K
          (try simp only [List.getElem_toArray, List.getElem_cons_succ, List.getElem_cons_zero, Act.put, List.setIfInBounds_toArray, List.set_cons_zero, List.set_cons_succ])
          refine wpAnyH_done (by kernel_rfl) ?_ _
          refine NoPanic.normal ?_
          go_wp2_with fail
          go_meet
          exact ⟨y6_1.heap.size, y6_11.heap.size, s3, A3, n3, c3, D3, m3, e3, s4, A4, n4, c4, D4, m4, e4, rfl, rfl, g3, g4, b3, b4, (by omega), (by omega), (by omega), hG⟩
      · go_simp
        obtain ⟨y6_20, hV, b4, hb9, szy6_20⟩ := boxes1 y6_1 #[.bool false, .slice none 0 0, .slice none 0 0] 27
        rw [hV]
        clear hV
        have gly6_20 : wc.heap.size ≤ y6_1.heap.size := sG
        replace szy6_20 : y6_1.heap.size < y6_20.heap.size := by omega
        replace g3 := g3.below hb9
        replace hG := hG.trans (hb9.mono sG)
        replace sG := hG.size
        clear hb9
        refine hK.out _ _ ⟨(b0.below hG).cell 0 _ rfl, (b0.below hG).cell 1 _ rfl, (b0.below hG).cell 2 _ rfl, (b1.below hG).cell 0 _ rfl, (b1.below hG).cell 1 _ rfl, (b1.below hG).cell 2 _ rfl⟩ (fun hHeld => ?_)
        clear hK K
        (try simp only [List.getElem_toArray, List.getElem_cons_succ, List.getElem_cons_zero, Act.put, List.setIfInBounds_toArray, List.set_cons_zero, List.set_cons_succ])
        refine wpAnyH_ready (rs := [3, 4]) (by kernel_rfl) (by simp) (AllReadyH.cons (o := _) rfl (fun K hK => ?_) (AllReadyH.cons (o := _) rfl (fun K hK => ?_) AllReadyH.nil))
        · go_simp
          go_at_call 16
          refine (rnorm_v (f9.below hG) (by omega)).mono ?_
          rintro e y6_21 ⟨s4, A4, n4, c4, D4, m4, e4, rfl, g4, hb9⟩
          have szy6_21 := hb9.size
          replace g3 := g3.below hb9
          replace b4 := b4.below hb9
          replace hG := hG.trans (hb9.mono sG)
          replace sG := hG.size
          clear hb9
          go_wp2_with fail
          refine hK.out _ _ ⟨(b0.below hG).cell 0 _ rfl, (b0.below hG).cell 1 _ rfl, (b0.below hG).cell 2 _ rfl, (b1.below hG).cell 0 _ rfl, (b1.below hG).cell 1 _ rfl, (b1.below hG).cell 2 _ rfl⟩ (fun hHeld => ?_)
          clear hK K
          (try simp only [List.getElem_toArray, List.getElem_cons_succ, List.getElem_cons_zero, Act.put, List.setIfInBounds_toArray, List.set_cons_zero, List.set_cons_succ])
          refine wpAnyH_ready (rs := [4]) (by kernel_rfl) (by simp) (AllReadyH.cons (o := _) rfl (fun K hK => ?_) AllReadyH.nil)
          go_simp
          obtain ⟨y6_22, hV, b3, hb9, szy6_22⟩ := boxes1 y6_21 #[.bool false, .slice none 0 0, .slice none 0 0] 27
          rw [hV]
          clear hV
          have gly6_22 : wc.heap.size ≤ y6_21.heap.size := sG
          replace szy6_22 : y6_21.heap.size < y6_22.heap.size := by omega
          replace g3 := g3.below hb9
          replace g4 := g4.below hb9
          replace b4 := b4.below hb9
          replace hG := hG.trans (hb9.mono sG)
          replace sG := hG.size
          clear hb9
          refine hK.out _ _ ⟨(b0.below hG).cell 0 _ rfl, (b0.below hG).cell 1 _ rfl, (b0.below hG).cell 2 _ rfl, (b1.below hG).cell 0 _ rfl, (b1.below hG).cell 1 _ rfl, (b1.below hG).cell 2 _ rfl⟩ (fun hHeld => ?_)
          clear hK K
          (try simp only [List.getElem_toArray, List.getElem_cons_succ, List.getElem_cons_zero, Act.put, List.setIfInBounds_toArray, List.set_cons_zero, List.set_cons_succ])
          have rb40 := b4.cell 0 _ rfl
          have qb40 := b4.frozen 0
          have rb41 := b4.cell 1 _ rfl
          have qb41 := b4.frozen 1
          have rb42 := b4.cell 2 _ rfl
          have qb42 := b4.frozen 2
          have rb30 := b3.cell 0 _ rfl
          have qb30 := b3.frozen 0
          have rb31 := b3.cell 1 _ rfl
          have qb31 := b3.frozen 1
          have rb32 := b3.cell 2 _ rfl
          have qb32 := b3.frozen 2
          refine wpAnyH_ready (rs := [6]) (by kernel_rfl) (by simp) (AllReadyH.cons (o := _) rfl (fun K hK => ?_) AllReadyH.nil)
          go_simp
          clear rb40 qb40
          clear rb41 qb41
          clear rb42 qb42
          clear rb30 qb30
          clear rb31 qb31
          clear rb32 qb32
          have hg := only_store3 y6_22 (y6_21.heap.size) (.bool s3) (.slice A3 n3 c3) (.slice D3 m3 e3)
          have hB := b3.stored3 (.bool s3) (.slice A3 n3 c3) (.slice D3 m3 e3)
          generalize hX : (((y6_22.setCell ⟨y6_21.heap.size, 0, none⟩ (.bool s3)).setCell ⟨y6_21.heap.size, 1, none⟩ (.slice A3 n3 c3)).setCell ⟨y6_21.heap.size, 2, none⟩ (.slice D3 m3 e3)) = Y6_23 at hg hB ⊢
          clear hX
          replace g3 := g3.kept b3 (by simp [notInt]) hg
          replace g4 := g4.kept b3 (by simp [notInt]) hg
          replace b4 := b4.other hg (by omega)
          replace b3 := hB
          replace hG := below_only hG hg (by omega) sG
          replace sG := hG.size
          clear hg hB
          refine hK.out _ _ ⟨(b0.below hG).cell 0 _ rfl, (b0.below hG).cell 1 _ rfl, (b0.below hG).cell 2 _ rfl, (b1.below hG).cell 0 _ rfl, (b1.below hG).cell 1 _ rfl, (b1.below hG).cell 2 _ rfl⟩ (fun hHeld => ?_)
          clear hK K
          (try simp only [List.getElem_toArray, List.getElem_cons_succ, List.getElem_cons_zero, Act.put, List.setIfInBounds_toArray, List.set_cons_zero, List.set_cons_succ])
          have rb40 := b4.cell 0 _ rfl
          have qb40 := b4.frozen 0
          have rb41 := b4.cell 1 _ rfl
          have qb41 := b4.frozen 1
          have rb42 := b4.cell 2 _ rfl
          have qb42 := b4.frozen 2
          have rb30 := b3.cell 0 _ rfl
          have qb30 := b3.frozen 0
          have rb31 := b3.cell 1 _ rfl
          have qb31 := b3.frozen 1
          have rb32 := b3.cell 2 _ rfl
          have qb32 := b3.frozen 2
          refine wpAnyH_ready (rs := [7]) (by kernel_rfl) (by simp) (AllReadyH.cons (o := _) rfl (fun K hK => ?_) AllReadyH.nil)
          go_simp
          clear rb40 qb40
          clear rb41 qb41
          clear rb42 qb42
          clear rb30 qb30
          clear rb31 qb31
          clear rb32 qb32
          have hg := only_store3 Y6_23 (y6_1.heap.size) (.bool s4) (.slice A4 n4 c4) (.slice D4 m4 e4)
          have hB := b4.stored3 (.bool s4) (.slice A4 n4 c4) (.slice D4 m4 e4)
          generalize hX : (((Y6_23.setCell ⟨y6_1.heap.size, 0, none⟩ (.bool s4)).setCell ⟨y6_1.heap.size, 1, none⟩ (.slice A4 n4 c4)).setCell ⟨y6_1.heap.size, 2, none⟩ (.slice D4 m4 e4)) = Y6_24 at hg hB ⊢
          clear hX
          replace g3 := g3.kept b4 (by simp [notInt]) hg
          replace g4 := g4.kept b4 (by simp [notInt]) hg
          replace b3 := b3.other hg (by omega)
          replace b4 := hB
          replace hG := below_only hG hg (by omega) sG
          replace sG := hG.size
          clear hg hB
          refine hK.out _ _ ⟨(b0.below hG).cell 0 _ rfl, (b0.below hG).cell 1 _ rfl, (b0.below hG).cell 2 _ rfl, (b1.below hG).cell 0 _ rfl, (b1.below hG).cell 1 _ rfl, (b1.below hG).cell 2 _ rfl⟩ (fun hHeld => ?_)
          clear hK K
          (try simp only [List.getElem_toArray, List.getElem_cons_succ, List.getElem_cons_zero, Act.put, List.setIfInBounds_toArray, List.set_cons_zero, List.set_cons_succ])
          refine wpAnyH_done (by kernel_rfl) ?_ _
          refine NoPanic.normal ?_
          go_wp2_with fail
          go_meet
          exact ⟨y6_21.heap.size, y6_1.heap.size, s3, A3, n3, c3, D3, m3, e3, s4, A4, n4, c4, D4, m4, e4, rfl, rfl, g3, g4, b3, b4, (by omega), (by omega), (by omega), hG⟩
        · go_simp
          obtain ⟨y6_25, hV, b3, hb9, szy6_25⟩ := boxes1 y6_20 #[.bool false, .slice none 0 0, .slice none 0 0] 27
          rw [hV]
          clear hV
          have gly6_25 : wc.heap.size ≤ y6_20.heap.size := sG
          replace szy6_25 : y6_20.heap.size < y6_25.heap.size := by omega
          replace g3 := g3.below hb9
          replace b4 := b4.below hb9
          replace hG := hG.trans (hb9.mono sG)
          replace sG := hG.size
          clear hb9
          refine hK.out _ _ ⟨(b0.below hG).cell 0 _ rfl, (b0.below hG).cell 1 _ rfl, (b0.below hG).cell 2 _ rfl, (b1.below hG).cell 0 _ rfl, (b1.below hG).cell 1 _ rfl, (b1.below hG).cell 2 _ rfl⟩ (fun hHeld => ?_)
          clear hK K
          (try simp only [List.getElem_toArray, List.getElem_cons_succ, List.getElem_cons_zero, Act.put, List.setIfInBounds_toArray, List.set_cons_zero, List.set_cons_succ])
          refine wpAnyH_ready (rs := [3]) (by kernel_rfl) (by simp) (AllReadyH.cons (o := _) rfl (fun K hK => ?_) AllReadyH.nil)
          go_simp
          go_at_call 16
          refine (rnorm_v (f9.below hG) (by omega)).mono ?_
          rintro e y6_26 ⟨s4, A4, n4, c4, D4, m4, e4, rfl, g4, hb9⟩
          have szy6_26 := hb9.size
          replace g3 := g3.below hb9
          replace b4 := b4.below hb9
          replace b3 := b3.below hb9
          replace hG := hG.trans (hb9.mono sG)
          replace sG := hG.size
          clear hb9
          go_wp2_with fail
          refine hK.out _ _ ⟨(b0.below hG).cell 0 _ rfl, (b0.below hG).cell 1 _ rfl, (b0.below hG).cell 2 _ rfl, (b1.below hG).cell 0 _ rfl, (b1.below hG).cell 1 _ rfl, (b1.below hG).cell 2 _ rfl⟩ (fun hHeld => ?_)
          clear hK K
          (try simp only [List.getElem_toArray, List.getElem_cons_succ, List.getElem_cons_zero, Act.put, List.setIfInBounds_toArray, List.set_cons_zero, List.set_cons_succ])
          have rb40 := b4.cell 0 _ rfl
          have qb40 := b4.frozen 0
          have rb41 := b4.cell 1 _ rfl
          have qb41 := b4.frozen 1
          have rb42 := b4.cell 2 _ rfl
          have qb42 := b4.frozen 2
          have rb30 := b3.cell 0 _ rfl
          have qb30 := b3.frozen 0
          have rb31 := b3.cell 1 _ rfl
          have qb31 := b3.frozen 1
          have rb32 := b3.cell 2 _ rfl
          have qb32 := b3.frozen 2
          refine wpAnyH_ready (rs := [6]) (by kernel_rfl) (by simp) (AllReadyH.cons (o := _) rfl (fun K hK => ?_) AllReadyH.nil)
          go_simp
          clear rb40 qb40
          clear rb41 qb41
          clear rb42 qb42
          clear rb30 qb30
          clear rb31 qb31
          clear rb32 qb32
          have hg := only_store3 y6_26 (y6_20.heap.size) (.bool s3) (.slice A3 n3 c3) (.slice D3 m3 e3)
          have hB := b3.stored3 (.bool s3) (.slice A3 n3 c3) (.slice D3 m3 e3)
          generalize hX : (((y6_26.setCell ⟨y6_20.heap.size, 0, none⟩ (.bool s3)).setCell ⟨y6_20.heap.size, 1, none⟩ (.slice A3 n3 c3)).setCell ⟨y6_20.heap.size, 2, none⟩ (.slice D3 m3 e3)) = Y6_27 at hg hB ⊢
          clear hX
          replace g3 := g3.kept b3 (by simp [notInt]) hg
          replace g4 := g4.kept b3 (by simp [notInt]) hg
          replace b4 := b4.other hg (by omega)
          replace b3 := hB
          replace hG := below_only hG hg (by omega) sG
          replace sG := hG.size
          clear hg hB
          refine hK.out _ _ ⟨(b0.below hG).cell 0 _ rfl, (b0.below hG).cell 1 _ rfl, (b0.below hG).cell 2 _ rfl, (b1.below hG).cell 0 _ rfl, (b1.below hG).cell 1 _ rfl, (b1.below hG).cell 2 _ rfl⟩ (fun hHeld => ?_)
          clear hK K
          (try simp only [List.getElem_toArray, List.getElem_cons_succ, List.getElem_cons_zero, Act.put, List.setIfInBounds_toArray, List.set_cons_zero, List.set_cons_succ])
          have rb40 := b4.cell 0 _ rfl
          have qb40 := b4.frozen 0
          have rb41 := b4.cell 1 _ rfl
          have qb41 := b4.frozen 1
          have rb42 := b4.cell 2 _ rfl
          have qb42 := b4.frozen 2
          have rb30 := b3.cell 0 _ rfl
          have qb30 := b3.frozen 0
          have rb31 := b3.cell 1 _ rfl
          have qb31 := b3.frozen 1
          have rb32 := b3.cell 2 _ rfl
          have qb32 := b3.frozen 2
          refine wpAnyH_ready (rs := [7]) (by kernel_rfl) (by simp) (AllReadyH.cons (o := _) rfl (fun K hK => ?_) AllReadyH.nil)
          go_simp
          clear rb40 qb40
          clear rb41 qb41
          clear rb42 qb42
          clear rb30 qb30
          clear rb31 qb31
          clear rb32 qb32
          have hg := only_store3 Y6_27 (y6_1.heap.size) (.bool s4) (.slice A4 n4 c4) (.slice D4 m4 e4)
          have hB := b4.stored3 (.bool s4) (.slice A4 n4 c4) (.slice D4 m4 e4)
          generalize hX : (((Y6_27.setCell ⟨y6_1.heap.size, 0, none⟩ (.bool s4)).setCell ⟨y6_1.heap.size, 1, none⟩ (.slice A4 n4 c4)).setCell ⟨y6_1.heap.size, 2, none⟩ (.slice D4 m4 e4)) = Y6_28 at hg hB ⊢
          clear hX
          replace g3 := g3.kept b4 (by simp [notInt]) hg
          replace g4 := g4.kept b4 (by simp [notInt]) hg
          replace b3 := b3.other hg (by omega)
          replace b4 := hB
          replace hG := below_only hG hg (by omega) sG
          replace sG := hG.size
          clear hg hB
          refine hK.out _ _ ⟨(b0.below hG).cell 0 _ rfl, (b0.below hG).cell 1 _ rfl, (b0.below hG).cell 2 _ rfl, (b1.below hG).cell 0 _ rfl, (b1.below hG).cell 1 _ rfl, (b1.below hG).cell 2 _ rfl⟩ (fun hHeld => ?_)
          clear hK K
          (try simp only [List.getElem_toArray, List.getElem_cons_succ, List.getElem_cons_zero, Act.put, List.setIfInBounds_toArray, List.set_cons_zero, List.set_cons_succ])
          refine wpAnyH_done (by kernel_rfl) ?_ _
          refine NoPanic.normal ?_
          go_wp2_with fail
          go_meet
          exact ⟨y6_20.heap.size, y6_1.heap.size, s3, A3, n3, c3, D3, m3, e3, s4, A4, n4, c4, D4, m4, e4, rfl, rfl, g3, g4, b3, b4, (by omega), (by omega), (by omega), hG⟩
    · go_simp
      obtain ⟨y6_29, hV, b3, hb9, szy6_29⟩ := boxes1 v6 #[.bool false, .slice none 0 0, .slice none 0 0] 27
      rw [hV]
      clear hV
      have gly6_29 : wc.heap.size ≤ v6.heap.size := sG
      replace szy6_29 : v6.heap.size < y6_29.heap.size := by omega
      replace hG := hG.trans (hb9.mono sG)
      replace sG := hG.size
      clear hb9
      refine hK.out _ _ ⟨(b0.below hG).cell 0 _ rfl, (b0.below hG).cell 1 _ rfl, (b0.below hG).cell 2 _ rfl, (b1.below hG).cell 0 _ rfl, (b1.below hG).cell 1 _ rfl, (b1.below hG).cell 2 _ rfl⟩ (fun hHeld => ?_)
      clear hK K
      (try simp only [List.getElem_toArray, List.getElem_cons_succ, List.getElem_cons_zero, Act.put, List.setIfInBounds_toArray, List.set_cons_zero, List.set_cons_succ])
      refine wpAnyH_ready (rs := [1, 5]) (by kernel_rfl) (by simp) (AllReadyH.cons (o := _) rfl (fun K hK => ?_) (AllReadyH.cons (o := _) rfl (fun K hK => ?_) AllReadyH.nil))
      · go_simp
        go_at_call 16
        refine (rnorm_v (f0.below hG) (by omega)).mono ?_
        rintro e y6_30 ⟨s3, A3, n3, c3, D3, m3, e3, rfl, g3, hb9⟩
        have szy6_30 := hb9.size
        replace b3 := b3.below hb9
        replace hG := hG.trans (hb9.mono sG)
        replace sG := hG.size
        clear hb9
        go_wp2_with fail
        refine hK.out _ _ ⟨(b0.below hG).cell 0 _ rfl, (b0.below hG).cell 1 _ rfl, (b0.below hG).cell 2 _ rfl, (b1.below hG).cell 0 _ rfl, (b1.below hG).cell 1 _ rfl, (b1.below hG).cell 2 _ rfl⟩ (fun hHeld => ?_)
        clear hK K
        (try simp only [List.getElem_toArray, List.getElem_cons_succ, List.getElem_cons_zero, Act.put, List.setIfInBounds_toArray, List.set_cons_zero, List.set_cons_succ])
        refine wpAnyH_ready (rs := [3, 5]) (by kernel_rfl) (by simp) (AllReadyH.cons (o := _) rfl (fun K hK => ?_) (AllReadyH.cons (o := _) rfl (fun K hK => ?_) AllReadyH.nil))
        · go_simp
          go_at_call 16
          refine (rnorm_v (f9.below hG) (by omega)).mono ?_
          rintro e y6_31 ⟨s4, A4, n4, c4, D4, m4, e4, rfl, g4, hb9⟩
          have szy6_31 := hb9.size
          replace g3 := g3.below hb9
          replace b3 := b3.below hb9
          replace hG := hG.trans (hb9.mono sG)
          replace sG := hG.size
          clear hb9
          go_wp2_with fail
          refine hK.out _ _ ⟨(b0.below hG).cell 0 _ rfl, (b0.below hG).cell 1 _ rfl, (b0.below hG).cell 2 _ rfl, (b1.below hG).cell 0 _ rfl, (b1.below hG).cell 1 _ rfl, (b1.below hG).cell 2 _ rfl⟩ (fun hHeld => ?_)
          clear hK K
          (try simp only [List.getElem_toArray, List.getElem_cons_succ, List.getElem_cons_zero, Act.put, List.setIfInBounds_toArray, List.set_cons_zero, List.set_cons_succ])
          refine wpAnyH_ready (rs := [5]) (by kernel_rfl) (by simp) (AllReadyH.cons (o := _) rfl (fun K hK => ?_) AllReadyH.nil)
          go_simp
          obtain ⟨y6_32, hV, b4, hb9, szy6_32⟩ := boxes1 y6_31 #[.bool false, .slice none 0 0, .slice none 0 0] 27
          rw [hV]
          clear hV
          have gly6_32 : wc.heap.size ≤ y6_31.heap.size := sG
          replace szy6_32 : y6_31.heap.size < y6_32.heap.size := by omega
          replace g3 := g3.below hb9
          replace g4 := g4.below hb9
          replace b3 := b3.below hb9
          replace hG := hG.trans (hb9.mono sG)
          replace sG := hG.size
          clear hb9
          refine hK.out _ _ ⟨(b0.below hG).cell 0 _ rfl, (b0.below hG).cell 1 _ rfl, (b0.below hG).cell 2 _ rfl, (b1.below hG).cell 0 _ rfl, (b1.below hG).cell 1 _ rfl, (b1.below hG).cell 2 _ rfl⟩ (fun hHeld => ?_)
          clear hK K
          (try simp only [List.getElem_toArray, List.getElem_cons_succ, List.getElem_cons_zero, Act.put, List.setIfInBounds_toArray, List.set_cons_zero, List.set_cons_succ])
          have rb30 := b3.cell 0 _ rfl
          have qb30 := b3.frozen 0
          have rb31 := b3.cell 1 _ rfl
          have qb31 := b3.frozen 1
          have rb32 := b3.cell 2 _ rfl
          have qb32 := b3.frozen 2
          have rb40 := b4.cell 0 _ rfl
          have qb40 := b4.frozen 0
          have rb41 := b4.cell 1 _ rfl
          have qb41 := b4.frozen 1
          have rb42 := b4.cell 2 _ rfl
          have qb42 := b4.frozen 2
          refine wpAnyH_ready (rs := [6]) (by kernel_rfl) (by simp) (AllReadyH.cons (o := _) rfl (fun K hK => ?_) AllReadyH.nil)
          go_simp
          clear rb30 qb30
          clear rb31 qb31
          clear rb32 qb32
          clear rb40 qb40
          clear rb41 qb41
          clear rb42 qb42
          have hg := only_store3 y6_32 (v6.heap.size) (.bool s3) (.slice A3 n3 c3) (.slice D3 m3 e3)
          have hB := b3.stored3 (.bool s3) (.slice A3 n3 c3) (.slice D3 m3 e3)
          generalize hX : (((y6_32.setCell ⟨v6.heap.size, 0, none⟩ (.bool s3)).setCell ⟨v6.heap.size, 1, none⟩ (.slice A3 n3 c3)).setCell ⟨v6.heap.size, 2, none⟩ (.slice D3 m3 e3)) = Y6_33 at hg hB ⊢
          clear hX
          replace g3 := g3.kept b3 (by simp [notInt]) hg
          replace g4 := g4.kept b3 (by simp [notInt]) hg
          replace b4 := b4.other hg (by omega)
          replace b3 := hB
          replace hG := below_only hG hg (by omega) sG
          replace sG := hG.size
          clear hg hB
          refine hK.out _ _ ⟨(b0.below hG).cell 0 _ rfl, (b0.below hG).cell 1 _ rfl, (b0.below hG).cell 2 _ rfl, (b1.below hG).cell 0 _ rfl, (b1.below hG).cell 1 _ rfl, (b1.below hG).cell 2 _ rfl⟩ (fun hHeld => ?_)
          clear hK K
          (try simp only [List.getElem_toArray, List.getElem_cons_succ, List.getElem_cons_zero, Act.put, List.setIfInBounds_toArray, List.set_cons_zero, List.set_cons_succ])
          have rb30 := b3.cell 0 _ rfl
          have qb30 := b3.frozen 0
          have rb31 := b3.cell 1 _ rfl
          have qb31 := b3.frozen 1
          have rb32 := b3.cell 2 _ rfl
          have qb32 := b3.frozen 2
          have rb40 := b4.cell 0 _ rfl
          have qb40 := b4.frozen 0
          have rb41 := b4.cell 1 _ rfl
          have qb41 := b4.frozen 1
          have rb42 := b4.cell 2 _ rfl
          have qb42 := b4.frozen 2
          refine wpAnyH_ready (rs := [7]) (by kernel_rfl) (by simp) (AllReadyH.cons (o := _) rfl (fun K hK => ?_) AllReadyH.nil)
          go_simp
          clear rb30 qb30
          clear rb31 qb31
          clear rb32 qb32
          clear rb40 qb40
          clear rb41 qb41
          clear rb42 qb42
          have hg := only_store3 Y6_33 (y6_31.heap.size) (.bool s4) (.slice A4 n4 c4) (.slice D4 m4 e4)
          have hB := b4.stored3 (.bool s4) (.slice A4 n4 c4) (.slice D4 m4 e4)
          generalize hX : (((Y6_33.setCell ⟨y6_31.heap.size, 0, none⟩ (.bool s4)).setCell ⟨y6_31.heap.size, 1, none⟩ (.slice A4 n4 c4)).setCell ⟨y6_31.heap.size, 2, none⟩ (.slice D4 m4 e4)) = Y6_34 at hg hB ⊢
          clear hX
          replace g3 := g3.kept b4 (by simp [notInt]) hg
          replace g4 := g4.kept b4 (by simp [notInt]) hg
          replace b3 := b3.other hg (by omega)
          replace b4 := hB
          replace hG := below_only hG hg (by omega) sG
          replace sG := hG.size
          clear hg hB
          refine hK.out _ _ ⟨(b0.below hG).cell 0 _ rfl, (b0.below hG).cell 1 _ rfl, (b0.below hG).cell 2 _ rfl, (b1.below hG).cell 0 _ rfl, (b1.below hG).cell 1 _ rfl, (b1.below hG).cell 2 _ rfl⟩ (fun hHeld => ?_)
          clear hK K
          (try simp only [List.getElem_toArray, List.getElem_cons_succ, List.getElem_cons_zero, Act.put, List.setIfInBounds_toArray, List.set_cons_zero, List.set_cons_succ])
          refine wpAnyH_done (by kernel_rfl) ?_ _
          refine NoPanic.normal ?_
          go_wp2_with fail
          go_meet
          exact ⟨v6.heap.size, y6_31.heap.size, s3, A3, n3, c3, D3, m3, e3, s4, A4, n4, c4, D4, m4, e4, rfl, rfl, g3, g4, b3, b4, (by omega), (by omega), (by omega), hG⟩
        · go_simp
          obtain ⟨y6_35, hV, b4, hb9, szy6_35⟩ := boxes1 y6_30 #[.bool false, .slice none 0 0, .slice none 0 0] 27
          rw [hV]
          clear hV
          have gly6_35 : wc.heap.size ≤ y6_30.heap.size := sG
          replace szy6_35 : y6_30.heap.size < y6_35.heap.size := by omega
          replace g3 := g3.below hb9
          replace b3 := b3.below hb9
          replace hG := hG.trans (hb9.mono sG)
          replace sG := hG.size
          clear hb9
          refine hK.out _ _ ⟨(b0.below hG).cell 0 _ rfl, (b0.below hG).cell 1 _ rfl, (b0.below hG).cell 2 _ rfl, (b1.below hG).cell 0 _ rfl, (b1.below hG).cell 1 _ rfl, (b1.below hG).cell 2 _ rfl⟩ (fun hHeld => ?_)
          clear hK K
          (try simp only [List.getElem_toArray, List.getElem_cons_succ, List.getElem_cons_zero, Act.put, List.setIfInBounds_toArray, List.set_cons_zero, List.set_cons_succ])
          refine wpAnyH_ready (rs := [3]) (by kernel_rfl) (by simp) (AllReadyH.cons (o := _) rfl (fun K hK => ?_) AllReadyH.nil)
          go_simp
          go_at_call 16
          refine (rnorm_v (f9.below hG) (by omega)).mono ?_
          rintro e y6_36 ⟨s4, A4, n4, c4, D4, m4, e4, rfl, g4, hb9⟩
          have szy6_36 := hb9.size
          replace g3 := g3.below hb9
          replace b3 := b3.below hb9
          replace b4 := b4.below hb9
          replace hG := hG.trans (hb9.mono sG)
          replace sG := hG.size
          clear hb9
          go_wp2_with fail
          refine hK.out _ _ ⟨(b0.below hG).cell 0 _ rfl, (b0.below hG).cell 1 _ rfl, (b0.below hG).cell 2 _ rfl, (b1.below hG).cell 0 _ rfl, (b1.below hG).cell 1 _ rfl, (b1.below hG).cell 2 _ rfl⟩ (fun hHeld => ?_)
          clear hK K
          (try simp only [List.getElem_toArray, List.getElem_cons_succ, List.getElem_cons_zero, Act.put, List.setIfInBounds_toArray, List.set_cons_zero, List.set_cons_succ])
          have rb30 := b3.cell 0 _ rfl
          have qb30 := b3.frozen 0
          have rb31 := b3.cell 1 _ rfl
          have qb31 := b3.frozen 1
          have rb32 := b3.cell 2 _ rfl
          have qb32 := b3.frozen 2
          have rb40 := b4.cell 0 _ rfl
          have qb40 := b4.frozen 0
          have rb41 := b4.cell 1 _ rfl
          have qb41 := b4.frozen 1
          have rb42 := b4.cell 2 _ rfl
          have qb42 := b4.frozen 2
          refine wpAnyH_ready (rs := [6]) (by kernel_rfl) (by simp) (AllReadyH.cons (o := _) rfl (fun K hK => ?_) AllReadyH.nil)
          go_simp
          clear rb30 qb30
          clear rb31 qb31
          clear rb32 qb32
          clear rb40 qb40
          clear rb41 qb41
          clear rb42 qb42
          have hg := only_store3 y6_36 (v6.heap.size) (.bool s3) (.slice A3 n3 c3) (.slice D3 m3 e3)
          have hB := b3.stored3 (.bool s3) (.slice A3 n3 c3) (.slice D3 m3 e3)
          generalize hX : (((y6_36.setCell ⟨v6.heap.size, 0, none⟩ (.bool s3)).setCell ⟨v6.heap.size, 1, none⟩ (.slice A3 n3 c3)).setCell ⟨v6.heap.size, 2, none⟩ (.slice D3 m3 e3)) = Y6_37 at hg hB ⊢
          clear hX
          replace g3 := g3.kept b3 (by simp [notInt]) hg
          replace g4 := g4.kept b3 (by simp [notInt]) hg
          replace b4 := b4.other hg (by omega)
          replace b3 := hB
          replace hG := below_only hG hg (by omega) sG
          replace sG := hG.size
          clear hg hB
          refine hK.out _ _ ⟨(b0.below hG).cell 0 _ rfl, (b0.below hG).cell 1 _ rfl, (b0.below hG).cell 2 _ rfl, (b1.below hG).cell 0 _ rfl, (b1.below hG).cell 1 _ rfl, (b1.below hG).cell 2 _ rfl⟩ (fun hHeld => ?_)
          clear hK K
          (try simp only [List.getElem_toArray, List.getElem_cons_succ, List.getElem_cons_zero, Act.put, List.setIfInBounds_toArray, List.set_cons_zero, List.set_cons_succ])
          have rb30 := b3.cell 0 _ rfl
          have qb30 := b3.frozen 0
          have rb31 := b3.cell 1 _ rfl
          have qb31 := b3.frozen 1
          have rb32 := b3.cell 2 _ rfl
          have qb32 := b3.frozen 2
          have rb40 := b4.cell 0 _ rfl
          have qb40 := b4.frozen 0
          have rb41 := b4.cell 1 _ rfl
          have qb41 := b4.frozen 1
          have rb42 := b4.cell 2 _ rfl
          have qb42 := b4.frozen 2
          refine wpAnyH_ready (rs := [7]) (by kernel_rfl) (by simp) (AllReadyH.cons (o := _) rfl (fun K hK => ?_) AllReadyH.nil)
          go_simp
          clear rb30 qb30
          clear rb31 qb31
          clear rb32 qb32
          clear rb40 qb40
          clear rb41 qb41
          clear rb42 qb42
          have hg := only_store3 Y6_37 (y6_30.heap.size) (.bool s4) (.slice A4 n4 c4) (.slice D4 m4 e4)
          have hB := b4.stored3 (.bool s4) (.slice A4 n4 c4) (.slice D4 m4 e4)
          generalize hX : (((Y6_37.setCell ⟨y6_30.heap.size, 0, none⟩ (.bool s4)).setCell ⟨y6_30.heap.size, 1, none⟩ (.slice A4 n4 c4)).setCell ⟨y6_30.heap.size, 2, none⟩ (.slice D4 m4 e4)) = Y6_38 at hg hB ⊢
          clear hX
          replace g3 := g3.kept b4 (by simp [notInt]) hg
          replace g4 := g4.kept b4 (by simp [notInt]) hg
          replace b3 := b3.other hg (by omega)
          replace b4 := hB
          replace hG := below_only hG hg (by omega) sG
          replace sG := hG.size
          clear hg hB
          refine hK.out _ _ ⟨(b0.below hG).cell 0 _ rfl, (b0.below hG).cell 1 _ rfl, (b0.below hG).cell 2 _ rfl, (b1.below hG).cell 0 _ rfl, (b1.below hG).cell 1 _ rfl, (b1.below hG).cell 2 _ rfl⟩ (fun hHeld => ?_)
          clear hK K
          (try simp only [List.getElem_toArray, List.getElem_cons_succ, List.getElem_cons_zero, Act.put, List.setIfInBounds_toArray, List.set_cons_zero, List.set_cons_succ])
          refine wpAnyH_done (by kernel_rfl) ?_ _
          refine NoPanic.normal ?_
          go_wp2_with fail
          go_meet
          exact ⟨v6.heap.size, y6_30.heap.size, s3, A3, n3, c3, D3, m3, e3, s4, A4, n4, c4, D4, m4, e4, rfl, rfl, g3, g4, b3, b4, (by omega), (by omega), (by omega), hG⟩
      · go_simp
        obtain ⟨y6_39, hV, b4, hb9, szy6_39⟩ := boxes1 y6_29 #[.bool false, .slice none 0 0, .slice none 0 0] 27
        rw [hV]
        clear hV
        have gly6_39 : wc.heap.size ≤ y6_29.heap.size := sG
        replace szy6_39 : y6_29.heap.size < y6_39.heap.size := by omega
        replace b3 := b3.below hb9
        replace hG := hG.trans (hb9.mono sG)
        replace sG := hG.size
        clear hb9
        refine hK.out _ _ ⟨(b0.below hG).cell 0 _ rfl, (b0.below hG).cell 1 _ rfl, (b0.below hG).cell 2 _ rfl, (b1.below hG).cell 0 _ rfl, (b1.below hG).cell 1 _ rfl, (b1.below hG).cell 2 _ rfl⟩ (fun hHeld => ?_)
        clear hK K
        (try simp only [List.getElem_toArray, List.getElem_cons_succ, List.getElem_cons_zero, Act.put, List.setIfInBounds_toArray, List.set_cons_zero, List.set_cons_succ])
        refine wpAnyH_ready (rs := [1]) (by kernel_rfl) (by simp) (AllReadyH.cons (o := _) rfl (fun K hK => ?_) AllReadyH.nil)
        go_simp
        go_at_call 16
        refine (rnorm_v (f0.below hG) (by omega)).mono ?_
        rintro e y6_40 ⟨s3, A3, n3, c3, D3, m3, e3, rfl, g3, hb9⟩
        have szy6_40 := hb9.size
        replace b3 := b3.below hb9
        replace b4 := b4.below hb9
        replace hG := hG.trans (hb9.mono sG)
        replace sG := hG.size
        clear hb9
        go_wp2_with fail
        refine hK.out _ _ ⟨(b0.below hG).cell 0 _ rfl, (b0.below hG).cell 1 _ rfl, (b0.below hG).cell 2 _ rfl, (b1.below hG).cell 0 _ rfl, (b1.below hG).cell 1 _ rfl, (b1.below hG).cell 2 _ rfl⟩ (fun hHeld => ?_)
        clear hK K
        (try simp only [List.getElem_toArray, List.getElem_cons_succ, List.getElem_cons_zero, Act.put, List.setIfInBounds_toArray, List.set_cons_zero, List.set_cons_succ])
        refine wpAnyH_ready (rs := [3]) (by kernel_rfl) (by simp) (AllReadyH.cons (o := _) rfl (fun K hK => ?_) AllReadyH.nil)
        go_simp
        go_at_call 16
        refine (rnorm_v (f9.below hG) (by omega)).mono ?_
        rintro e y6_41 ⟨s4, A4, n4, c4, D4, m4, e4, rfl, g4, hb9⟩
        have szy6_41 := hb9.size
        replace g3 := g3.below hb9
        replace b3 := b3.below hb9
        replace b4 := b4.below hb9
        replace hG := hG.trans (hb9.mono sG)
        replace sG := hG.size
        clear hb9
        go_wp2_with fail
        refine hK.out _ _ ⟨(b0.below hG).cell 0 _ rfl, (b0.below hG).cell 1 _ rfl, (b0.below hG).cell 2 _ rfl, (b1.below hG).cell 0 _ rfl, (b1.below hG).cell 1 _ rfl, (b1.below hG).cell 2 _ rfl⟩ (fun hHeld => ?_)
        clear hK K
        (try simp only [List.getElem_toArray, List.getElem_cons_succ, List.getElem_cons_zero, Act.put, List.setIfInBounds_toArray, List.set_cons_zero, List.set_cons_succ])
        have rb30 := b3.cell 0 _ rfl
        have qb30 := b3.frozen 0
        have rb31 := b3.cell 1 _ rfl
        have qb31 := b3.frozen 1
        have rb32 := b3.cell 2 _ rfl
        have qb32 := b3.frozen 2
        have rb40 := b4.cell 0 _ rfl
        have qb40 := b4.frozen 0
        have rb41 := b4.cell 1 _ rfl
        have qb41 := b4.frozen 1
        have rb42 := b4.cell 2 _ rfl
        have qb42 := b4.frozen 2
        refine wpAnyH_ready (rs := [6]) (by kernel_rfl) (by simp) (AllReadyH.cons (o := _) rfl (fun K hK => ?_) AllReadyH.nil)
        go_simp
        clear rb30 qb30
        clear rb31 qb31
        clear rb32 qb32
        clear rb40 qb40
        clear rb41 qb41
        clear rb42 qb42
        have hg := only_store3 y6_41 (v6.heap.size) (.bool s3) (.slice A3 n3 c3) (.slice D3 m3 e3)
        have hB := b3.stored3 (.bool s3) (.slice A3 n3 c3) (.slice D3 m3 e3)
        generalize hX : (((y6_41.setCell ⟨v6.heap.size, 0, none⟩ (.bool s3)).setCell ⟨v6.heap.size, 1, none⟩ (.slice A3 n3 c3)).setCell ⟨v6.heap.size, 2, none⟩ (.slice D3 m3 e3)) = Y6_42 at hg hB ⊢
        clear hX
        replace g3 := g3.kept b3 (by simp [notInt]) hg
        replace g4 := g4.kept b3 (by simp [notInt]) hg
        replace b4 := b4.other hg (by omega)
        replace b3 := hB
        replace hG := below_only hG hg (by omega) sG
        replace sG := hG.size
        clear hg hB
        refine hK.out _ _ ⟨(b0.below hG).cell 0 _ rfl, (b0.below hG).cell 1 _ rfl, (b0.below hG).cell 2 _ rfl, (b1.below hG).cell 0 _ rfl, (b1.below hG).cell 1 _ rfl, (b1.below hG).cell 2 _ rfl⟩ (fun hHeld => ?_)
        clear hK K
        (try simp only [List.getElem_toArray, List.getElem_cons_succ, List.getElem_cons_zero, Act.put, List.setIfInBounds_toArray, List.set_cons_zero, List.set_cons_succ])
        have rb30 := b3.cell 0 _ rfl
        have qb30 := b3.frozen 0
        have rb31 := b3.cell 1 _ rfl
        have qb31 := b3.frozen 1
        have rb32 := b3.cell 2 _ rfl
        have qb32 := b3.frozen 2
        have rb40 := b4.cell 0 _ rfl
        have qb40 := b4.frozen 0
        have rb41 := b4.cell 1 _ rfl
        have qb41 := b4.frozen 1
        have rb42 := b4.cell 2 _ rfl
        have qb42 := b4.frozen 2
        refine wpAnyH_ready (rs := [7]) (by kernel_rfl) (by simp) (AllReadyH.cons (o := _) rfl (fun K hK => ?_) AllReadyH.nil)
        go_simp
        clear rb30 qb30
        clear rb31 qb31
        clear rb32 qb32
        clear rb40 qb40
        clear rb41 qb41
        clear rb42 qb42
        have hg := only_store3 Y6_42 (y6_29.heap.size) (.bool s4) (.slice A4 n4 c4) (.slice D4 m4 e4)
        have hB := b4.stored3 (.bool s4) (.slice A4 n4 c4) (.slice D4 m4 e4)
        generalize hX : (((Y6_42.setCell ⟨y6_29.heap.size, 0, none⟩ (.bool s4)).setCell ⟨y6_29.heap.size, 1, none⟩ (.slice A4 n4 c4)).setCell ⟨y6_29.heap.size, 2, none⟩ (.slice D4 m4 e4)) = Y6_43 at hg hB ⊢
        clear hX
        replace g3 := g3.kept b4 (by simp [notInt]) hg
        replace g4 := g4.kept b4 (by simp [notInt]) hg
        replace b3 := b3.other hg (by omega)
        replace b4 := hB
        replace hG := below_only hG hg (by omega) sG
        replace sG := hG.size
        clear hg hB
        refine hK.out _ _ ⟨(b0.below hG).cell 0 _ rfl, (b0.below hG).cell 1 _ rfl, (b0.below hG).cell 2 _ rfl, (b1.below hG).cell 0 _ rfl, (b1.below hG).cell 1 _ rfl, (b1.below hG).cell 2 _ rfl⟩ (fun hHeld => ?_)
        clear hK K
        (try simp only [List.getElem_toArray, List.getElem_cons_succ, List.getElem_cons_zero, Act.put, List.setIfInBounds_toArray, List.set_cons_zero, List.set_cons_succ])
        refine wpAnyH_done (by kernel_rfl) ?_ _
        refine NoPanic.normal ?_
        go_wp2_with fail
        go_meet
        exact ⟨v6.heap.size, y6_29.heap.size, s3, A3, n3, c3, D3, m3, e3, s4, A4, n4, c4, D4, m4, e4, rfl, rfl, g3, g4, b3, b4, (by omega), (by omega), (by omega), hG⟩
    · go_simp
      obtain ⟨y6_44, hV, b4, hb9, szy6_44⟩ := boxes1 v6 #[.bool false, .slice none 0 0, .slice none 0 0] 27
      rw [hV]
      clear hV
      have gly6_44 : wc.heap.size ≤ v6.heap.size := sG
      replace szy6_44 : v6.heap.size < y6_44.heap.size := by omega
      replace hG := hG.trans (hb9.mono sG)
      replace sG := hG.size
      clear hb9
      refine hK.out _ _ ⟨(b0.below hG).cell 0 _ rfl, (b0.below hG).cell 1 _ rfl, (b0.below hG).cell 2 _ rfl, (b1.below hG).cell 0 _ rfl, (b1.below hG).cell 1 _ rfl, (b1.below hG).cell 2 _ rfl⟩ (fun hHeld => ?_)
      clear hK K
      (try simp only [List.getElem_toArray, List.getElem_cons_succ, List.getElem_cons_zero, Act.put, List.setIfInBounds_toArray, List.set_cons_zero, List.set_cons_succ])
      refine wpAnyH_ready (rs := [1, 4]) (by kernel_rfl) (by simp) (AllReadyH.cons (o := _) rfl (fun K hK => ?_) (AllReadyH.cons (o := _) rfl (fun K hK => ?_) AllReadyH.nil))
      · go_simp
        go_at_call 16
        refine (rnorm_v (f0.below hG) (by omega)).mono ?_
        rintro e y6_45 ⟨s3, A3, n3, c3, D3, m3, e3, rfl, g3, hb9⟩
        have szy6_45 := hb9.size
        replace b4 := b4.below hb9
        replace hG := hG.trans (hb9.mono sG)
        replace sG := hG.size
        clear hb9
        go_wp2_with fail
        refine hK.out _ _ ⟨(b0.below hG).cell 0 _ rfl, (b0.below hG).cell 1 _ rfl, (b0.below hG).cell 2 _ rfl, (b1.below hG).cell 0 _ rfl, (b1.below hG).cell 1 _ rfl, (b1.below hG).cell 2 _ rfl⟩ (fun hHeld => ?_)
        clear hK K
        (try simp only [List.getElem_toArray, List.getElem_cons_succ, List.getElem_cons_zero, Act.put, List.setIfInBounds_toArray, List.set_cons_zero, List.set_cons_succ])
        refine wpAnyH_ready (rs := [3, 4]) (by kernel_rfl) (by simp) (AllReadyH.cons (o := _) rfl (fun K hK => ?_) (AllReadyH.cons (o := _) rfl (fun K hK => ?_) AllReadyH.nil))
        · go_simp
          go_at_call 16
          refine (rnorm_v (f9.below hG) (by omega)).mono ?_
          rintro e y6_46 ⟨s4, A4, n4, c4, D4, m4, e4, rfl, g4, hb9⟩
          have szy6_46 := hb9.size
          replace g3 := g3.below hb9
          replace b4 := b4.below hb9
          replace hG := hG.trans (hb9.mono sG)
          replace sG := hG.size
          clear hb9
          go_wp2_with fail
          refine hK.out _ _ ⟨(b0.below hG).cell 0 _ rfl, (b0.below hG).cell 1 _ rfl, (b0.below hG).cell 2 _ rfl, (b1.below hG).cell 0 _ rfl, (b1.below hG).cell 1 _ rfl, (b1.below hG).cell 2 _ rfl⟩ (fun hHeld => ?_)
          clear hK K
          (try simp only [List.getElem_toArray, List.getElem_cons_succ, List.getElem_cons_zero, Act.put, List.setIfInBounds_toArray, List.set_cons_zero, List.set_cons_succ])
          refine wpAnyH_ready (rs := [4]) (by kernel_rfl) (by simp) (AllReadyH.cons (o := _) rfl (fun K hK => ?_) AllReadyH.nil)
          go_simp
          obtain ⟨y6_47, hV, b3, hb9, szy6_47⟩ := boxes1 y6_46 #[.bool false, .slice none 0 0, .slice none 0 0] 27
          rw [hV]
          clear hV
          have gly6_47 : wc.heap.size ≤ y6_46.heap.size := sG
          replace szy6_47 : y6_46.heap.size < y6_47.heap.size := by omega
          replace g3 := g3.below hb9
          replace g4 := g4.below hb9
          replace b4 := b4.below hb9
          replace hG := hG.trans (hb9.mono sG)
          replace sG := hG.size
          clear hb9
          refine hK.out _ _ ⟨(b0.below hG).cell 0 _ rfl, (b0.below hG).cell 1 _ rfl, (b0.below hG).cell 2 _ rfl, (b1.below hG).cell 0 _ rfl, (b1.below hG).cell 1 _ rfl, (b1.below hG).cell 2 _ rfl⟩ (fun hHeld => ?_)
          clear hK K
          (try simp only [List.getElem_toArray, List.getElem_cons_succ, List.getElem_cons_zero, Act.put, List.setIfInBounds_toArray, List.set_cons_zero, List.set_cons_succ])
          have rb40 := b4.cell 0 _ rfl
          have qb40 := b4.frozen 0
          have rb41 := b4.cell 1 _ rfl
          have qb41 := b4.frozen 1
          have rb42 := b4.cell 2 _ rfl
          have qb42 := b4.frozen 2
          have rb30 := b3.cell 0 _ rfl
          have qb30 := b3.frozen 0
          have rb31 := b3.cell 1 _ rfl
          have qb31 := b3.frozen 1
          have rb32 := b3.cell 2 _ rfl
          have qb32 := b3.frozen 2
          refine wpAnyH_ready (rs := [6]) (by kernel_rfl) (by simp) (AllReadyH.cons (o := _) rfl (fun K hK => ?_) AllReadyH.nil)
          go_simp
          clear rb40 qb40
          clear rb41 qb41
          clear rb42 qb42
          clear rb30 qb30
          clear rb31 qb31
          clear rb32 qb32
          have hg := only_store3 y6_47 (y6_46.heap.size) (.bool s3) (.slice A3 n3 c3) (.slice D3 m3 e3)
          have hB := b3.stored3 (.bool s3) (.slice A3 n3 c3) (.slice D3 m3 e3)
          generalize hX : (((y6_47.setCell ⟨y6_46.heap.size, 0, none⟩ (.bool s3)).setCell ⟨y6_46.heap.size, 1, none⟩ (.slice A3 n3 c3)).setCell ⟨y6_46.heap.size, 2, none⟩ (.slice D3 m3 e3)) = Y6_48 at hg hB ⊢
          clear hX
          replace g3 := g3.kept b3 (by simp [notInt]) hg
          replace g4 := g4.kept b3 (by simp [notInt]) hg
          replace b4 := b4.other hg (by omega)
          replace b3 := hB
          replace hG := below_only hG hg (by omega) sG
          replace sG := hG.size
          clear hg hB
          refine hK.out _ _ ⟨(b0.below hG).cell 0 _ rfl, (b0.below hG).cell 1 _ rfl, (b0.below hG).cell 2 _ rfl, (b1.below hG).cell 0 _ rfl, (b1.below hG).cell 1 _ rfl, (b1.below hG).cell 2 _ rfl⟩ (fun hHeld => ?_)
          clear hK K
          (try simp only [List.getElem_toArray, List.getElem_cons_succ, List.getElem_cons_zero, Act.put, List.setIfInBounds_toArray, List.set_cons_zero, List.set_cons_succ])
          have rb40 := b4.cell 0 _ rfl
          have qb40 := b4.frozen 0
          have rb41 := b4.cell 1 _ rfl
          have qb41 := b4.frozen 1
          have rb42 := b4.cell 2 _ rfl
          have qb42 := b4.frozen 2
          have rb30 := b3.cell 0 _ rfl
          have qb30 := b3.frozen 0
          have rb31 := b3.cell 1 _ rfl
          have qb31 := b3.frozen 1
          have rb32 := b3.cell 2 _ rfl
          have qb32 := b3.frozen 2
          refine wpAnyH_ready (rs := [7]) (by kernel_rfl) (by simp) (AllReadyH.cons (o := _) rfl (fun K hK => ?_) AllReadyH.nil)
          go_simp
          clear rb40 qb40
          clear rb41 qb41
          clear rb42 qb42
          clear rb30 qb30
          clear rb31 qb31
          clear rb32 qb32
          have hg := only_store3 Y6_48 (v6.heap.size) (.bool s4) (.slice A4 n4 c4) (.slice D4 m4 e4)
          have hB := b4.stored3 (.bool s4) (.slice A4 n4 c4) (.slice D4 m4 e4)
          generalize hX : (((Y6_48.setCell ⟨v6.heap.size, 0, none⟩ (.bool s4)).setCell ⟨v6.heap.size, 1, none⟩ (.slice A4 n4 c4)).setCell ⟨v6.heap.size, 2, none⟩ (.slice D4 m4 e4)) = Y6_49 at hg hB ⊢
          clear hX
          replace g3 := g3.kept b4 (by simp [notInt]) hg
          replace g4 := g4.kept b4 (by simp [notInt]) hg
          replace b3 := b3.other hg (by omega)
          replace b4 := hB
          replace hG := below_only hG hg (by omega) sG
          replace sG := hG.size
          clear hg hB
          refine hK.out _ _ ⟨(b0.below hG).cell 0 _ rfl, (b0.below hG).cell 1 _ rfl, (b0.below hG).cell 2 _ rfl, (b1.below hG).cell 0 _ rfl, (b1.below hG).cell 1 _ rfl, (b1.below hG).cell 2 _ rfl⟩ (fun hHeld => ?_)
          clear hK K
          (try simp only [List.getElem_toArray, List.getElem_cons_succ, List.getElem_cons_zero, Act.put, List.setIfInBounds_toArray, List.set_cons_zero, List.set_cons_succ])
          refine wpAnyH_done (by kernel_rfl) ?_ _
          refine NoPanic.normal ?_
          go_wp2_with fail
          go_meet
          exact ⟨y6_46.heap.size, v6.heap.size, s3, A3, n3, c3, D3, m3, e3, s4, A4, n4, c4, D4, m4, e4, rfl, rfl, g3, g4, b3, b4, (by omega), (by omega), (by omega), hG⟩
        · go_simp
          obtain ⟨y6_50, hV, b3, hb9, szy6_50⟩ := boxes1 y6_45 #[.bool false, .slice none 0 0, .slice none 0 0] 27
          rw [hV]
          clear hV
          have gly6_50 : wc.heap.size ≤ y6_45.heap.size := sG
          replace szy6_50 : y6_45.heap.size < y6_50.heap.size := by omega
          replace g3 := g3.below hb9
          replace b4 := b4.below hb9
          replace hG := hG.trans (hb9.mono sG)
          replace sG := hG.size
          clear hb9
          refine hK.out _ _ ⟨(b0.below hG).cell 0 _ rfl, (b0.below hG).cell 1 _ rfl, (b0.below hG).cell 2 _ rfl, (b1.below hG).cell 0 _ rfl, (b1.below hG).cell 1 _ rfl, (b1.below hG).cell 2 _ rfl⟩ (fun hHeld => ?_)
          clear hK K
          (try simp only [List.getElem_toArray, List.getElem_cons_succ, List.getElem_cons_zero, Act.put, List.setIfInBounds_toArray, List.set_cons_zero, List.set_cons_succ])
          refine wpAnyH_ready (rs := [3]) (by kernel_rfl) (by simp) (AllReadyH.cons (o := _) rfl (fun K hK => ?_) AllReadyH.nil)
          go_simp
          go_at_call 16
          refine (rnorm_v (f9.below hG) (by omega)).mono ?_
          rintro e y6_51 ⟨s4, A4, n4, c4, D4, m4, e4, rfl, g4, hb9⟩
          have szy6_51 := hb9.size
          replace g3 := g3.below hb9
          replace b4 := b4.below hb9
          replace b3 := b3.below hb9
          replace hG := hG.trans (hb9.mono sG)
          replace sG := hG.size
          clear hb9
          go_wp2_with fail
          refine hK.out _ _ ⟨(b0.below hG).cell 0 _ rfl, (b0.below hG).cell 1 _ rfl, (b0.below hG).cell 2 _ rfl, (b1.below hG).cell 0 _ rfl, (b1.below hG).cell 1 _ rfl, (b1.below hG).cell 2 _ rfl⟩ (fun hHeld => ?_)
          clear hK K
          (try simp only [List.getElem_toArray, List.getElem_cons_succ, List.getElem_cons_zero, Act.put, List.setIfInBounds_toArray, List.set_cons_zero, List.set_cons_succ])
          have rb40 := b4.cell 0 _ rfl
          have qb40 := b4.frozen 0
          have rb41 := b4.cell 1 _ rfl
          have qb41 := b4.frozen 1
          have rb42 := b4.cell 2 _ rfl
          have qb42 := b4.frozen 2
          have rb30 := b3.cell 0 _ rfl
          have qb30 := b3.frozen 0
          have rb31 := b3.cell 1 _ rfl
          have qb31 := b3.frozen 1
          have rb32 := b3.cell 2 _ rfl
          have qb32 := b3.frozen 2
          refine wpAnyH_ready (rs := [6]) (by kernel_rfl) (by simp) (AllReadyH.cons (o := _) rfl (fun K hK => ?_) AllReadyH.nil)
          go_simp
          clear rb40 qb40
          clear rb41 qb41
          clear rb42 qb42
          clear rb30 qb30
          clear rb31 qb31
          clear rb32 qb32
          have hg := only_store3 y6_51 (y6_45.heap.size) (.bool s3) (.slice A3 n3 c3) (.slice D3 m3 e3)
          have hB := b3.stored3 (.bool s3) (.slice A3 n3 c3) (.slice D3 m3 e3)
          generalize hX : (((y6_51.setCell ⟨y6_45.heap.size, 0, none⟩ (.bool s3)).setCell ⟨y6_45.heap.size, 1, none⟩ (.slice A3 n3 c3)).setCell ⟨y6_45.heap.size, 2, none⟩ (.slice D3 m3 e3)) = Y6_52 at hg hB ⊢
          clear hX
          replace g3 := g3.kept b3 (by simp [notInt]) hg
          replace g4 := g4.kept b3 (by simp [notInt]) hg
          replace b4 := b4.other hg (by omega)
          replace b3 := hB
          replace hG := below_only hG hg (by omega) sG
          replace sG := hG.size
          clear hg hB
          refine hK.out _ _ ⟨(b0.below hG).cell 0 _ rfl, (b0.below hG).cell 1 _ rfl, (b0.below hG).cell 2 _ rfl, (b1.below hG).cell 0 _ rfl, (b1.below hG).cell 1 _ rfl, (b1.below hG).cell 2 _ rfl⟩ (fun hHeld => ?_)
          clear hK K
          (try simp only [List.getElem_toArray, List.getElem_cons_succ, List.getElem_cons_zero, Act.put, List.setIfInBounds_toArray, List.set_cons_zero, List.set_cons_succ])
          have rb40 := b4.cell 0 _ rfl
          have qb40 := b4.frozen 0
          have rb41 := b4.cell 1 _ rfl
          have qb41 := b4.frozen 1
          have rb42 := b4.cell 2 _ rfl
          have qb42 := b4.frozen 2
          have rb30 := b3.cell 0 _ rfl
          have qb30 := b3.frozen 0
          have rb31 := b3.cell 1 _ rfl
          have qb31 := b3.frozen 1
          have rb32 := b3.cell 2 _ rfl
          have qb32 := b3.frozen 2
          refine wpAnyH_ready (rs := [7]) (by kernel_rfl) (by simp) (AllReadyH.cons (o := _) rfl (fun K hK => ?_) AllReadyH.nil)
          go_simp
          clear rb40 qb40
          clear rb41 qb41
          clear rb42 qb42
          clear rb30 qb30
          clear rb31 qb31
          clear rb32 qb32
          have hg := only_store3 Y6_52 (v6.heap.size) (.bool s4) (.slice A4 n4 c4) (.slice D4 m4 e4)
          have hB := b4.stored3 (.bool s4) (.slice A4 n4 c4) (.slice D4 m4 e4)
          generalize hX : (((Y6_52.setCell ⟨v6.heap.size, 0, none⟩ (.bool s4)).setCell ⟨v6.heap.size, 1, none⟩ (.slice A4 n4 c4)).setCell ⟨v6.heap.size, 2, none⟩ (.slice D4 m4 e4)) = Y6_53 at hg hB ⊢
          clear hX
          replace g3 := g3.kept b4 (by simp [notInt]) hg
          replace g4 := g4.kept b4 (by simp [notInt]) hg
          replace b3 := b3.other hg (by omega)
          replace b4 := hB
          replace hG := below_only hG hg (by omega) sG
          replace sG := hG.size
          clear hg hB
          refine hK.out _ _ ⟨(b0.below hG).cell 0 _ rfl, (b0.below hG).cell 1 _ rfl, (b0.below hG).cell 2 _ rfl, (b1.below hG).cell 0 _ rfl, (b1.below hG).cell 1 _ rfl, (b1.below hG).cell 2 _ rfl⟩ (fun hHeld => ?_)
          clear hK K
          (try simp only [List.getElem_toArray, List.getElem_cons_succ, List.getElem_cons_zero, Act.put, List.setIfInBounds_toArray, List.set_cons_zero, List.set_cons_succ])
          refine wpAnyH_done (by kernel_rfl) ?_ _
          refine NoPanic.normal ?_
          go_wp2_with fail
          go_meet
          exact ⟨y6_45.heap.size, v6.heap.size, s3, A3, n3, c3, D3, m3, e3, s4, A4, n4, c4, D4, m4, e4, rfl, rfl, g3, g4, b3, b4, (by omega), (by omega), (by omega), hG⟩
      · go_simp
        obtain ⟨y6_54, hV, b3, hb9, szy6_54⟩ := boxes1 y6_44 #[.bool false, .slice none 0 0, .slice none 0 0] 27
        rw [hV]
        clear hV
        have gly6_54 : wc.heap.size ≤ y6_44.heap.size := sG
        replace szy6_54 : y6_44.heap.size < y6_54.heap.size := by omega
        replace b4 := b4.below hb9
        replace hG := hG.trans (hb9.mono sG)
        replace sG := hG.size
        clear hb9
        refine hK.out _ _ ⟨(b0.below hG).cell 0 _ rfl, (b0.below hG).cell 1 _ rfl, (b0.below hG).cell 2 _ rfl, (b1.below hG).cell 0 _ rfl, (b1.below hG).cell 1 _ rfl, (b1.below hG).cell 2 _ rfl⟩ (fun hHeld => ?_)
        clear hK K
        (try simp only [List.getElem_toArray, List.getElem_cons_succ, List.getElem_cons_zero, Act.put, List.setIfInBounds_toArray, List.set_cons_zero, List.set_cons_succ])
        refine wpAnyH_ready (rs := [1]) (by kernel_rfl) (by simp) (AllReadyH.cons (o := _) rfl (fun K hK => ?_) AllReadyH.nil)
        go_simp
        go_at_call 16
        refine (rnorm_v (f0.below hG) (by omega)).mono ?_
        rintro e y6_55 ⟨s3, A3, n3, c3, D3, m3, e3, rfl, g3, hb9⟩
        have szy6_55 := hb9.size
        replace b4 := b4.below hb9
        replace b3 := b3.below hb9
        replace hG := hG.trans (hb9.mono sG)
        replace sG := hG.size
        clear hb9
        go_wp2_with fail
        refine hK.out _ _ ⟨(b0.below hG).cell 0 _ rfl, (b0.below hG).cell 1 _ rfl, (b0.below hG).cell 2 _ rfl, (b1.below hG).cell 0 _ rfl, (b1.below hG).cell 1 _ rfl, (b1.below hG).cell 2 _ rfl⟩ (fun hHeld => ?_)
        clear hK K
        (try simp only [List.getElem_toArray, List.getElem_cons_succ, List.getElem_cons_zero, Act.put, List.setIfInBounds_toArray, List.set_cons_zero, List.set_cons_succ])
        refine wpAnyH_ready (rs := [3]) (by kernel_rfl) (by simp) (AllReadyH.cons (o := _) rfl (fun K hK => ?_) AllReadyH.nil)
        go_simp
        go_at_call 16
        refine (rnorm_v (f9.below hG) (by omega)).mono ?_
        rintro e y6_56 ⟨s4, A4, n4, c4, D4, m4, e4, rfl, g4, hb9⟩
        have szy6_56 := hb9.size
        replace g3 := g3.below hb9
        replace b4 := b4.below hb9
        replace b3 := b3.below hb9
        replace hG := hG.trans (hb9.mono sG)
        replace sG := hG.size
        clear hb9
        go_wp2_with fail
        refine hK.out _ _ ⟨(b0.below hG).cell 0 _ rfl, (b0.below hG).cell 1 _ rfl, (b0.below hG).cell 2 _ rfl, (b1.below hG).cell 0 _ rfl, (b1.below hG).cell 1 _ rfl, (b1.below hG).cell 2 _ rfl⟩ (fun hHeld => ?_)
        clear hK K
        (try simp only [List.getElem_toArray, List.getElem_cons_succ, List.getElem_cons_zero, Act.put, List.setIfInBounds_toArray, List.set_cons_zero, List.set_cons_succ])
        have rb40 := b4.cell 0 _ rfl
        have qb40 := b4.frozen 0
        have rb41 := b4.cell 1 _ rfl
        have qb41 := b4.frozen 1
        have rb42 := b4.cell 2 _ rfl
        have qb42 := b4.frozen 2
        have rb30 := b3.cell 0 _ rfl
        have qb30 := b3.frozen 0
        have rb31 := b3.cell 1 _ rfl
        have qb31 := b3.frozen 1
        have rb32 := b3.cell 2 _ rfl
        have qb32 := b3.frozen 2
        refine wpAnyH_ready (rs := [6]) (by kernel_rfl) (by simp) (AllReadyH.cons (o := _) rfl (fun K hK => ?_) AllReadyH.nil)
        go_simp
        clear rb40 qb40
        clear rb41 qb41
        clear rb42 qb42
        clear rb30 qb30
        clear rb31 qb31
        clear rb32 qb32
        have hg := only_store3 y6_56 (y6_44.heap.size) (.bool s3) (.slice A3 n3 c3) (.slice D3 m3 e3)
        have hB := b3.stored3 (.bool s3) (.slice A3 n3 c3) (.slice D3 m3 e3)
        generalize hX : (((y6_56.setCell ⟨y6_44.heap.size, 0, none⟩ (.bool s3)).setCell ⟨y6_44.heap.size, 1, none⟩ (.slice A3 n3 c3)).setCell ⟨y6_44.heap.size, 2, none⟩ (.slice D3 m3 e3)) = Y6_57 at hg hB ⊢
        clear hX
        replace g3 := g3.kept b3 (by simp [notInt]) hg
        replace g4 := g4.kept b3 (by simp [notInt]) hg
        replace b4 := b4.other hg (by omega)
        replace b3 := hB
        replace hG := below_only hG hg (by omega) sG
        replace sG := hG.size
        clear hg hB
        refine hK.out _ _ ⟨(b0.below hG).cell 0 _ rfl, (b0.below hG).cell 1 _ rfl, (b0.below hG).cell 2 _ rfl, (b1.below hG).cell 0 _ rfl, (b1.below hG).cell 1 _ rfl, (b1.below hG).cell 2 _ rfl⟩ (fun hHeld => ?_)
        clear hK K
        (try simp only [List.getElem_toArray, List.getElem_cons_succ, List.getElem_cons_zero, Act.put, List.setIfInBounds_toArray, List.set_cons_zero, List.set_cons_succ])
        have rb40 := b4.cell 0 _ rfl
        have qb40 := b4.frozen 0
        have rb41 := b4.cell 1 _ rfl
        have qb41 := b4.frozen 1
        have rb42 := b4.cell 2 _ rfl
        have qb42 := b4.frozen 2
        have rb30 := b3.cell 0 _ rfl
        have qb30 := b3.frozen 0
        have rb31 := b3.cell 1 _ rfl
        have qb31 := b3.frozen 1
        have rb32 := b3.cell 2 _ rfl
        have qb32 := b3.frozen 2
        refine wpAnyH_ready (rs := [7]) (by kernel_rfl) (by simp) (AllReadyH.cons (o := _) rfl (fun K hK => ?_) AllReadyH.nil)
        go_simp
        clear rb40 qb40
        clear rb41 qb41
        clear rb42 qb42
        clear rb30 qb30
        clear rb31 qb31
        clear rb32 qb32
        have hg := only_store3 Y6_57 (v6.heap.size) (.bool s4) (.slice A4 n4 c4) (.slice D4 m4 e4)
        have hB := b4.stored3 (.bool s4) (.slice A4 n4 c4) (.slice D4 m4 e4)
        generalize hX : (((Y6_57.setCell ⟨v6.heap.size, 0, none⟩ (.bool s4)).setCell ⟨v6.heap.size, 1, none⟩ (.slice A4 n4 c4)).setCell ⟨v6.heap.size, 2, none⟩ (.slice D4 m4 e4)) = Y6_58 at hg hB ⊢
        clear hX
        replace g3 := g3.kept b4 (by simp [notInt]) hg
        replace g4 := g4.kept b4 (by simp [notInt]) hg
        replace b3 := b3.other hg (by omega)
        replace b4 := hB
        replace hG := below_only hG hg (by omega) sG
        replace sG := hG.size
        clear hg hB
        refine hK.out _ _ ⟨(b0.below hG).cell 0 _ rfl, (b0.below hG).cell 1 _ rfl, (b0.below hG).cell 2 _ rfl, (b1.below hG).cell 0 _ rfl, (b1.below hG).cell 1 _ rfl, (b1.below hG).cell 2 _ rfl⟩ (fun hHeld => ?_)
        clear hK K
        (try simp only [List.getElem_toArray, List.getElem_cons_succ, List.getElem_cons_zero, Act.put, List.setIfInBounds_toArray, List.set_cons_zero, List.set_cons_succ])
        refine wpAnyH_done (by kernel_rfl) ?_ _
        refine NoPanic.normal ?_
        go_wp2_with fail
        go_meet
        exact ⟨y6_44.heap.size, v6.heap.size, s3, A3, n3, c3, D3, m3, e3, s4, A4, n4, c4, D4, m4, e4, rfl, rfl, g3, g4, b3, b4, (by omega), (by omega), (by omega), hG⟩
  obtain ⟨g6_0, g6_1, s3, A3, n3, c3, D3, m3, e3, s4, A4, n4, c4, D4, m4, e4, rfl, rfl, g3, g4, b3, b4, glg6_0, glg6_1, gn6, hG⟩ := hcut
  replace f0 := f0.below hG
  replace f9 := f9.below hG
  replace b0 := b0.below hG
  replace b1 := b1.below hG
  replace H0 := H0.trans (hG.mono H0.size)
  clear hG
  have cb00 := b0.cell 0 _ rfl
  have cb01 := b0.cell 1 _ rfl
  have cb02 := b0.cell 2 _ rfl
  have cb10 := b1.cell 0 _ rfl
  have cb11 := b1.cell 1 _ rfl
  have cb12 := b1.cell 2 _ rfl
  have cb30 := b3.cell 0 _ rfl
  have cb31 := b3.cell 1 _ rfl
  have cb32 := b3.cell 2 _ rfl
  have cb40 := b4.cell 0 _ rfl
  have cb41 := b4.cell 1 _ rfl
  have cb42 := b4.cell 2 _ rfl
  go_wp2_with fail
  clear cb00 cb01 cb02 cb10 cb11 cb12 cb30 cb31 cb32 cb40 cb41 cb42
  have HT : Hid (decide (q0 = q0) = true) := Lib.hid (decide_eq_true rfl)
  rcases Decidable.em (q0 = q9) with heq | heq
  · have HE : Hid (decide (q0 = q9) = true) := Lib.hid (decide_eq_true heq)
    have HC : Hid (rsg (q0 - q9) = 0) := Lib.hid (rsg_of heq)
    clear heq
    have hD := drawn_below wc
    replace f0 := f0.below hD
    replace f9 := f9.below hD
    replace g3 := g3.below hD
    replace g4 := g4.below hD
    replace b0 := b0.below hD
    replace b1 := b1.below hD
    replace b3 := b3.below hD
    replace b4 := b4.below hD
    replace H0 := H0.trans (hD.mono H0.size)
    clear hD
    have K0 := (And.intro (b0.cell 0 _ rfl) (And.intro (b0.cell 1 _ rfl) (And.intro (b0.cell 2 _ rfl) (And.intro (b1.cell 0 _ rfl) (And.intro (b1.cell 1 _ rfl) (And.intro (b1.cell 2 _ rfl) (And.intro (b3.cell 0 _ rfl) (And.intro (b3.cell 1 _ rfl) (And.intro (b3.cell 2 _ rfl) (And.intro (b4.cell 0 _ rfl) (And.intro (b4.cell 1 _ rfl) (b4.cell 2 _ rfl))))))))))))
    go_region_held3 (fun V => V.cell? ⟨w3.heap.size, 0, none⟩ = some (.bool s0) ∧ V.cell? ⟨w3.heap.size, 1, none⟩ = some (.slice A0 n0 c0) ∧ V.cell? ⟨w3.heap.size, 2, none⟩ = some (.slice D0 m0 e0) ∧ V.cell? ⟨w3.heap.size + 1, 0, none⟩ = some (.bool s9) ∧ V.cell? ⟨w3.heap.size + 1, 1, none⟩ = some (.slice A9 n9 c9) ∧ V.cell? ⟨w3.heap.size + 1, 2, none⟩ = some (.slice D9 m9 e9) ∧ V.cell? ⟨g6_0, 0, none⟩ = some (.bool s3) ∧ V.cell? ⟨g6_0, 1, none⟩ = some (.slice A3 n3 c3) ∧ V.cell? ⟨g6_0, 2, none⟩ = some (.slice D3 m3 e3) ∧ V.cell? ⟨g6_1, 0, none⟩ = some (.bool s4) ∧ V.cell? ⟨g6_1, 1, none⟩ = some (.slice A4 n4 c4) ∧ V.cell? ⟨g6_1, 2, none⟩ = some (.slice D4 m4 e4)) (first | exact K6 | exact K5 | exact K4 | exact K3 | exact K2 | exact K1 | exact K0 | go_keep)
      (first
        | (go_at_call 46; have hK9 := K5; clear hK9; with_reducible refine (sameq_t g5 g3 rfl).mono ?_; rintro e v13 ⟨rfl, hb⟩; have f0 := f0.below hb; have f9 := f9.below hb; have g3 := g3.below hb; have g4 := g4.below hb; have g5 := g5.below hb; have b0 := b0.below hb; have b1 := b1.below hb; have b3 := b3.below hb; have b4 := b4.below hb; have H0 := H0.trans (hb.mono H0.size); have K6 := (And.intro (b0.cell 0 _ rfl) (And.intro (b0.cell 1 _ rfl) (And.intro (b0.cell 2 _ rfl) (And.intro (b1.cell 0 _ rfl) (And.intro (b1.cell 1 _ rfl) (And.intro (b1.cell 2 _ rfl) (And.intro (b3.cell 0 _ rfl) (And.intro (b3.cell 1 _ rfl) (And.intro (b3.cell 2 _ rfl) (And.intro (b4.cell 0 _ rfl) (And.intro (b4.cell 1 _ rfl) (b4.cell 2 _ rfl)))))))))))); clear hb)
        | (go_at_call 16; have hK9 := K4; clear hK9; with_reducible refine (rnorm_v g3.rq (by omega)).mono ?_; rintro e v12 ⟨s5, A5, n5, c5, D5, m5, e5, rfl, g5, hb⟩; have f0 := f0.below hb; have f9 := f9.below hb; have g3 := g3.below hb; have g4 := g4.below hb; have b0 := b0.below hb; have b1 := b1.below hb; have b3 := b3.below hb; have b4 := b4.below hb; have H0 := H0.trans (hb.mono H0.size); have K5 := (And.intro (b0.cell 0 _ rfl) (And.intro (b0.cell 1 _ rfl) (And.intro (b0.cell 2 _ rfl) (And.intro (b1.cell 0 _ rfl) (And.intro (b1.cell 1 _ rfl) (And.intro (b1.cell 2 _ rfl) (And.intro (b3.cell 0 _ rfl) (And.intro (b3.cell 1 _ rfl) (And.intro (b3.cell 2 _ rfl) (And.intro (b4.cell 0 _ rfl) (And.intro (b4.cell 1 _ rfl) (b4.cell 2 _ rfl)))))))))))); clear hb)
        | (go_at_call 46; have hK9 := K3; clear hK9; with_reducible refine (sameq_d g3 g4 HE.out).mono ?_; rintro e v11 ⟨rfl, hb⟩; have f0 := f0.below hb; have f9 := f9.below hb; have g3 := g3.below hb; have g4 := g4.below hb; have b0 := b0.below hb; have b1 := b1.below hb; have b3 := b3.below hb; have b4 := b4.below hb; have H0 := H0.trans (hb.mono H0.size); have K4 := (And.intro (b0.cell 0 _ rfl) (And.intro (b0.cell 1 _ rfl) (And.intro (b0.cell 2 _ rfl) (And.intro (b1.cell 0 _ rfl) (And.intro (b1.cell 1 _ rfl) (And.intro (b1.cell 2 _ rfl) (And.intro (b3.cell 0 _ rfl) (And.intro (b3.cell 1 _ rfl) (And.intro (b3.cell 2 _ rfl) (And.intro (b4.cell 0 _ rfl) (And.intro (b4.cell 1 _ rfl) (b4.cell 2 _ rfl)))))))))))); clear hb)
        | (go_at_call 23; have hK9 := K2; clear hK9; with_reducible refine (rcmp_v f0 f9 (by omega) (by omega) HC.out).mono ?_; rintro e v10 ⟨rfl, hb⟩; have f0 := f0.below hb; have f9 := f9.below hb; have g3 := g3.below hb; have g4 := g4.below hb; have b0 := b0.below hb; have b1 := b1.below hb; have b3 := b3.below hb; have b4 := b4.below hb; have H0 := H0.trans (hb.mono H0.size); have K3 := (And.intro (b0.cell 0 _ rfl) (And.intro (b0.cell 1 _ rfl) (And.intro (b0.cell 2 _ rfl) (And.intro (b1.cell 0 _ rfl) (And.intro (b1.cell 1 _ rfl) (And.intro (b1.cell 2 _ rfl) (And.intro (b3.cell 0 _ rfl) (And.intro (b3.cell 1 _ rfl) (And.intro (b3.cell 2 _ rfl) (And.intro (b4.cell 0 _ rfl) (And.intro (b4.cell 1 _ rfl) (b4.cell 2 _ rfl)))))))))))); clear hb)
        | (go_at_call 17; have hK9 := K1; clear hK9; with_reducible refine (rnormal_d g3 (by omega)).mono ?_; rintro e v9 ⟨rfl, hb⟩; have f0 := f0.below hb; have f9 := f9.below hb; have g3 := g3.below hb; have g4 := g4.below hb; have b0 := b0.below hb; have b1 := b1.below hb; have b3 := b3.below hb; have b4 := b4.below hb; have H0 := H0.trans (hb.mono H0.size); have K2 := (And.intro (b0.cell 0 _ rfl) (And.intro (b0.cell 1 _ rfl) (And.intro (b0.cell 2 _ rfl) (And.intro (b1.cell 0 _ rfl) (And.intro (b1.cell 1 _ rfl) (And.intro (b1.cell 2 _ rfl) (And.intro (b3.cell 0 _ rfl) (And.intro (b3.cell 1 _ rfl) (And.intro (b3.cell 2 _ rfl) (And.intro (b4.cell 0 _ rfl) (And.intro (b4.cell 1 _ rfl) (b4.cell 2 _ rfl)))))))))))); clear hb)
        | (go_at_call 10; have hK9 := K0; clear hK9; with_reducible refine (HK.out _ H0).mono ?_; rintro e v8 ⟨rfl, hb⟩; have f0 := f0.below hb; have f9 := f9.below hb; have g3 := g3.below hb; have g4 := g4.below hb; have b0 := b0.below hb; have b1 := b1.below hb; have b3 := b3.below hb; have b4 := b4.below hb; have H0 := H0.trans (hb.mono H0.size); have K1 := (And.intro (b0.cell 0 _ rfl) (And.intro (b0.cell 1 _ rfl) (And.intro (b0.cell 2 _ rfl) (And.intro (b1.cell 0 _ rfl) (And.intro (b1.cell 1 _ rfl) (And.intro (b1.cell 2 _ rfl) (And.intro (b3.cell 0 _ rfl) (And.intro (b3.cell 1 _ rfl) (And.intro (b3.cell 2 _ rfl) (And.intro (b4.cell 0 _ rfl) (And.intro (b4.cell 1 _ rfl) (b4.cell 2 _ rfl)))))))))))); clear hb)
      )
    go_wp2_with fail
    go_returns
    exact ⟨rfl, H0⟩
  · have HE : Hid (decide (q0 = q9) = false) := Lib.hid (decide_eq_false heq)
    obtain ⟨kq, hkq⟩ : ∃ k, rsg (q0 - q9) = k := ⟨_, rfl⟩
    have hk0 : ((kq : Int) == 0) = false := by rw [beq_eq_false_iff_ne]; rintro rfl; exact heq (sub_zero (rsg_eq_zero.1 hkq))
    have HC := Lib.hid hkq
    clear hkq
    clear heq
    have hD := drawn_below wc
    replace f0 := f0.below hD
    replace f9 := f9.below hD
    replace g3 := g3.below hD
    replace g4 := g4.below hD
    replace b0 := b0.below hD
    replace b1 := b1.below hD
    replace b3 := b3.below hD
    replace b4 := b4.below hD
    replace H0 := H0.trans (hD.mono H0.size)
    clear hD
    have K0 := (And.intro (b0.cell 0 _ rfl) (And.intro (b0.cell 1 _ rfl) (And.intro (b0.cell 2 _ rfl) (And.intro (b1.cell 0 _ rfl) (And.intro (b1.cell 1 _ rfl) (And.intro (b1.cell 2 _ rfl) (And.intro (b3.cell 0 _ rfl) (And.intro (b3.cell 1 _ rfl) (And.intro (b3.cell 2 _ rfl) (And.intro (b4.cell 0 _ rfl) (And.intro (b4.cell 1 _ rfl) (b4.cell 2 _ rfl))))))))))))
    go_region_held3 (fun V => V.cell? ⟨w3.heap.size, 0, none⟩ = some (.bool s0) ∧ V.cell? ⟨w3.heap.size, 1, none⟩ = some (.slice A0 n0 c0) ∧ V.cell? ⟨w3.heap.size, 2, none⟩ = some (.slice D0 m0 e0) ∧ V.cell? ⟨w3.heap.size + 1, 0, none⟩ = some (.bool s9) ∧ V.cell? ⟨w3.heap.size + 1, 1, none⟩ = some (.slice A9 n9 c9) ∧ V.cell? ⟨w3.heap.size + 1, 2, none⟩ = some (.slice D9 m9 e9) ∧ V.cell? ⟨g6_0, 0, none⟩ = some (.bool s3) ∧ V.cell? ⟨g6_0, 1, none⟩ = some (.slice A3 n3 c3) ∧ V.cell? ⟨g6_0, 2, none⟩ = some (.slice D3 m3 e3) ∧ V.cell? ⟨g6_1, 0, none⟩ = some (.bool s4) ∧ V.cell? ⟨g6_1, 1, none⟩ = some (.slice A4 n4 c4) ∧ V.cell? ⟨g6_1, 2, none⟩ = some (.slice D4 m4 e4)) (first | exact K6 | exact K5 | exact K4 | exact K3 | exact K2 | exact K1 | exact K0 | go_keep)
      (first
        | (go_at_call 46; have hK9 := K5; clear hK9; with_reducible refine (sameq_t g5 g3 rfl).mono ?_; rintro e v13 ⟨rfl, hb⟩; have f0 := f0.below hb; have f9 := f9.below hb; have g3 := g3.below hb; have g4 := g4.below hb; have g5 := g5.below hb; have b0 := b0.below hb; have b1 := b1.below hb; have b3 := b3.below hb; have b4 := b4.below hb; have H0 := H0.trans (hb.mono H0.size); have K6 := (And.intro (b0.cell 0 _ rfl) (And.intro (b0.cell 1 _ rfl) (And.intro (b0.cell 2 _ rfl) (And.intro (b1.cell 0 _ rfl) (And.intro (b1.cell 1 _ rfl) (And.intro (b1.cell 2 _ rfl) (And.intro (b3.cell 0 _ rfl) (And.intro (b3.cell 1 _ rfl) (And.intro (b3.cell 2 _ rfl) (And.intro (b4.cell 0 _ rfl) (And.intro (b4.cell 1 _ rfl) (b4.cell 2 _ rfl)))))))))))); clear hb)
        | (go_at_call 16; have hK9 := K4; clear hK9; with_reducible refine (rnorm_v g3.rq (by omega)).mono ?_; rintro e v12 ⟨s5, A5, n5, c5, D5, m5, e5, rfl, g5, hb⟩; have f0 := f0.below hb; have f9 := f9.below hb; have g3 := g3.below hb; have g4 := g4.below hb; have b0 := b0.below hb; have b1 := b1.below hb; have b3 := b3.below hb; have b4 := b4.below hb; have H0 := H0.trans (hb.mono H0.size); have K5 := (And.intro (b0.cell 0 _ rfl) (And.intro (b0.cell 1 _ rfl) (And.intro (b0.cell 2 _ rfl) (And.intro (b1.cell 0 _ rfl) (And.intro (b1.cell 1 _ rfl) (And.intro (b1.cell 2 _ rfl) (And.intro (b3.cell 0 _ rfl) (And.intro (b3.cell 1 _ rfl) (And.intro (b3.cell 2 _ rfl) (And.intro (b4.cell 0 _ rfl) (And.intro (b4.cell 1 _ rfl) (b4.cell 2 _ rfl)))))))))))); clear hb)
        | (go_at_call 46; have hK9 := K3; clear hK9; with_reducible refine (sameq_d g3 g4 HE.out).mono ?_; rintro e v11 ⟨rfl, hb⟩; have f0 := f0.below hb; have f9 := f9.below hb; have g3 := g3.below hb; have g4 := g4.below hb; have b0 := b0.below hb; have b1 := b1.below hb; have b3 := b3.below hb; have b4 := b4.below hb; have H0 := H0.trans (hb.mono H0.size); have K4 := (And.intro (b0.cell 0 _ rfl) (And.intro (b0.cell 1 _ rfl) (And.intro (b0.cell 2 _ rfl) (And.intro (b1.cell 0 _ rfl) (And.intro (b1.cell 1 _ rfl) (And.intro (b1.cell 2 _ rfl) (And.intro (b3.cell 0 _ rfl) (And.intro (b3.cell 1 _ rfl) (And.intro (b3.cell 2 _ rfl) (And.intro (b4.cell 0 _ rfl) (And.intro (b4.cell 1 _ rfl) (b4.cell 2 _ rfl)))))))))))); clear hb)
        | (go_at_call 23; have hK9 := K2; clear hK9; with_reducible refine (rcmp_v f0 f9 (by omega) (by omega) HC.out).mono ?_; rintro e v10 ⟨rfl, hb⟩; have f0 := f0.below hb; have f9 := f9.below hb; have g3 := g3.below hb; have g4 := g4.below hb; have b0 := b0.below hb; have b1 := b1.below hb; have b3 := b3.below hb; have b4 := b4.below hb; have H0 := H0.trans (hb.mono H0.size); have K3 := (And.intro (b0.cell 0 _ rfl) (And.intro (b0.cell 1 _ rfl) (And.intro (b0.cell 2 _ rfl) (And.intro (b1.cell 0 _ rfl) (And.intro (b1.cell 1 _ rfl) (And.intro (b1.cell 2 _ rfl) (And.intro (b3.cell 0 _ rfl) (And.intro (b3.cell 1 _ rfl) (And.intro (b3.cell 2 _ rfl) (And.intro (b4.cell 0 _ rfl) (And.intro (b4.cell 1 _ rfl) (b4.cell 2 _ rfl)))))))))))); clear hb)
        | (go_at_call 17; have hK9 := K1; clear hK9; with_reducible refine (rnormal_d g3 (by omega)).mono ?_; rintro e v9 ⟨rfl, hb⟩; have f0 := f0.below hb; have f9 := f9.below hb; have g3 := g3.below hb; have g4 := g4.below hb; have b0 := b0.below hb; have b1 := b1.below hb; have b3 := b3.below hb; have b4 := b4.below hb; have H0 := H0.trans (hb.mono H0.size); have K2 := (And.intro (b0.cell 0 _ rfl) (And.intro (b0.cell 1 _ rfl) (And.intro (b0.cell 2 _ rfl) (And.intro (b1.cell 0 _ rfl) (And.intro (b1.cell 1 _ rfl) (And.intro (b1.cell 2 _ rfl) (And.intro (b3.cell 0 _ rfl) (And.intro (b3.cell 1 _ rfl) (And.intro (b3.cell 2 _ rfl) (And.intro (b4.cell 0 _ rfl) (And.intro (b4.cell 1 _ rfl) (b4.cell 2 _ rfl)))))))))))); clear hb)
        | (go_at_call 10; have hK9 := K0; clear hK9; with_reducible refine (HK.out _ H0).mono ?_; rintro e v8 ⟨rfl, hb⟩; have f0 := f0.below hb; have f9 := f9.below hb; have g3 := g3.below hb; have g4 := g4.below hb; have b0 := b0.below hb; have b1 := b1.below hb; have b3 := b3.below hb; have b4 := b4.below hb; have H0 := H0.trans (hb.mono H0.size); have K1 := (And.intro (b0.cell 0 _ rfl) (And.intro (b0.cell 1 _ rfl) (And.intro (b0.cell 2 _ rfl) (And.intro (b1.cell 0 _ rfl) (And.intro (b1.cell 1 _ rfl) (And.intro (b1.cell 2 _ rfl) (And.intro (b3.cell 0 _ rfl) (And.intro (b3.cell 1 _ rfl) (And.intro (b3.cell 2 _ rfl) (And.intro (b4.cell 0 _ rfl) (And.intro (b4.cell 1 _ rfl) (b4.cell 2 _ rfl)))))))))))); clear hb)
      )
    go_wp2_with fail
    go_returns
    exact ⟨rfl, H0⟩
end
end Go.Proofs.YtkhfadfjkmhpgaaGreatDoor
