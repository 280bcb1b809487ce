/-
  Plus, Sub and C of the reference for longer numbers.
-/
import Derived.Test.YtfdlkbbepkghmaaGreatDoorVSq
import Derived.Test.YtfdlkbbepkghmaaGreatDoorVEM
namespace Go.Proofs.YtfdlkbbepkghmaaGreatDoor
open Go.RowKit
section
variable {A0 A1 A3 D0 D1 D3 : Option Addr} {n0 n1 n3 c0 c1 c3 m0 m1 m3 e0 e1 e3 : Nat} {s0 s1 s3 : Bool} {z z' z0 z1 z2 : Int} {q q' q0 q1 q2 : Rat} {L L0 L1 L2 x x0 x1 y : Nat} {k : Int} {w : World}
set_option maxRecDepth 100000 in
set_option maxHeartbeats 800000 in
theorem nplusw_v (h : PQ w s0 (.slice A0 n0 c0) (.slice D0 m0 e0) q L) (h' : PQ w s1 (.slice A1 n1 c1) (.slice D1 m1 e1) q' L0) (hL : L ≤ 300) (hL' : L0 ≤ 300) :
    Calls Tryz.prog 32 #[.agg #[.bool s0, .slice A0 n0 c0, .slice D0 m0 e0], .agg #[.bool s1, .slice A1 n1 c1, .slice D1 m1 e1]] w fun e w' => ∃ s3 A3 n3 c3 D3 m3 e3, e = .returned (.agg #[.bool s3, .slice A3 n3 c3, .slice D3 m3 e3]) ∧ PQ w' s3 (.slice A3 n3 c3) (.slice D3 m3 e3) (q+q') (max L 1 + max L0 1 + 1) ∧ Below w.heap.size w w' := by
  rcases Decidable.em (q.den = 1) with hq | hq
  · rcases Decidable.em (q'.den = 1) with hq' | hq'
    · have h1 := h.1
      have h1' := h'.1
      have hm := nv_zero (h.den0 hq)
      have hm' := nv_zero (h'.den0 hq')
      have HE : Hid (q + q' = ((q.num + q'.num : Int) : Rat)) := Lib.hid (by rw [rat_int hq, rat_int hq']; simp)
      clear h h'
      subst hm
      subst hm'
      clear hq hq'
      go_enter Tryz.func32, Tryz.ntmps32
      go_wp2_with fail
      obtain ⟨W0, hW, b0, b1, b2, hbW, hszW0⟩ := boxes3 w #[.bool s0, .slice A0 n0 c0, .slice D0 0 e0] #[.bool s1, .slice A1 n1 c1, .slice D1 0 e1] #[.bool false, .slice none 0 0, .slice none 0 0] 37 37 37
      rw [hW]
      clear hW
      replace h1 := h1.below hbW
      replace h1' := h1'.below hbW
      have H0 := hbW
      clear hbW
      obtain ⟨cb00, cb01, cb02⟩ := b0.cells3
      obtain ⟨cb10, cb11, cb12⟩ := b1.cells3
      go_wp2_with fail
      clear cb00 cb01 cb02 cb10 cb11 cb12
      refine (nadd_v h1 h1' (by omega) (by omega)).mono ?_
      rintro e w1 ⟨s3, A3, n3, c3, rfl, fi, hb⟩
      replace h1 := h1.below hb
      replace h1' := h1'.below hb
      replace b0 := b0.below hb
      replace b1 := b1.below hb
      replace b2 := b2.below hb
      replace H0 := H0.trans (hb.mono H0.size)
      clear hb
      obtain ⟨cb20, yb20, cb21, yb21, cb22, yb22⟩ := b2.cf3
      go_wp2_with fail
      clear cb20 yb20 cb21 yb21 cb22 yb22
      have hg := only_store3 w1 (w.heap.size + 1 + 1) (.bool s3) (.slice A3 n3 c3) (.slice none 0 0)
      have hB := b2.stored3 (.bool s3) (.slice A3 n3 c3) (.slice none 0 0)
      generalize hX : (((w1.setCell ⟨w.heap.size + 1 + 1, 0, none⟩ (.bool s3)).setCell ⟨w.heap.size + 1 + 1, 1, none⟩ (.slice A3 n3 c3)).setCell ⟨w.heap.size + 1 + 1, 2, none⟩ (.slice none 0 0)) = X2 at hg hB ⊢
      clear hX
      replace h1 := h1.kept b2 (by simp [notInt]) hg
      replace h1' := h1'.kept b2 (by simp [notInt]) hg
      replace fi := fi.kept b2 (by simp [notInt]) hg
      replace b0 := b0.other hg (by omega)
      replace b1 := b1.other hg (by omega)
      replace b2 := hB
      replace H0 := below_only H0 hg (by omega) H0.size
      clear hg hB
      refine bodyPost_ret (ret_numq rfl rfl b2) rfl ?_
      exact ⟨s3, A3, n3, c3, none, 0, 0, rfl, by rw [HE.out]; exact PQ.int (fi.more (by omega)), H0⟩
    · have h1 := h.1
      have h1' := h'.1
      have hm := nv_zero (h.den0 hq)
      have hm' := nv_pos (h'.den1 hq') (Nat.pos_of_ne_zero q'.den_nz)
      have hm1' : ((m1 : Int) == 0) = false := by rw [beq_eq_false_iff_ne]; omega
      have HE : Hid (q + q' = mkRat (q.num * sg false q'.den + q'.num * sg false q.den) (q.den * q'.den)) := Lib.hid (Rat.add_def' q q')
      have HN : Hid (q.den * q'.den ≠ 0) := Lib.hid (Nat.mul_ne_zero q.den_nz q'.den_nz)
      subst hm
      clear hq hq'
      go_enter Tryz.func32, Tryz.ntmps32
      go_wp2_with fail
      obtain ⟨W0, hW, b0, b1, b2, hbW, hszW0⟩ := boxes3 w #[.bool s0, .slice A0 n0 c0, .slice D0 0 e0] #[.bool s1, .slice A1 n1 c1, .slice D1 m1 e1] #[.bool false, .slice none 0 0, .slice none 0 0] 37 37 37
      rw [hW]
      clear hW
      replace h := h.below hbW
      replace h' := h'.below hbW
      replace h1 := h1.below hbW
      replace h1' := h1'.below hbW
      have H0 := hbW
      clear hbW
      obtain ⟨cb00, cb01, cb02⟩ := b0.cells3
      obtain ⟨cb10, cb11, cb12⟩ := b1.cells3
      go_wp2_with fail
      clear cb00 cb01 cb02 cb10 cb11 cb12
      have hD := drawn_below W0
      replace h := h.below hD
      replace h' := h'.below hD
      replace h1 := h1.below hD
      replace h1' := h1'.below hD
      replace b0 := b0.below hD
      replace b1 := b1.below hD
      replace b2 := b2.below hD
      replace H0 := H0.trans (hD.mono H0.size)
      clear hD
      have K0 := (b0.and3 (b1.all3))
      go_region_held3 (fun V => V.cell? ⟨w.heap.size, 0, none⟩ = some (.bool s0) ∧ V.cell? ⟨w.heap.size, 1, none⟩ = some (.slice A0 n0 c0) ∧ V.cell? ⟨w.heap.size, 2, none⟩ = some (.slice D0 0 e0) ∧ V.cell? ⟨w.heap.size + 1, 0, none⟩ = some (.bool s1) ∧ V.cell? ⟨w.heap.size + 1, 1, none⟩ = some (.slice A1 n1 c1) ∧ V.cell? ⟨w.heap.size + 1, 2, none⟩ = some (.slice D1 m1 e1)) (first | exact KS | exact K11 | exact K10 | exact K9 | exact K8 | exact K7 | exact K6 | exact K5 | exact K4 | exact K3 | exact K2 | exact K1 | exact K0 | go_keep)
        (first
          | (go_at_call 59; have hK9 := K10; clear hK9; with_reducible refine (nfrac_v (L := max L 1 + max L0 1 + 1) (f10.more (by omega)) (NV.more f13 (by omega)) HN.out (by omega)).mono ?_; rintro e v11 ⟨s3, A3, n3, c3, D3, m3, e3, rfl, fq, hb⟩; have h := h.below hb; have h' := h'.below hb; have h1 := h1.below hb; have h1' := h1'.below hb; have f10 := f10.below hb; have f13 := f13.below hb; have b0 := b0.below hb; have b1 := b1.below hb; have b2 := b2.below hb; have H0 := H0.trans (hb.mono H0.size); clear f10; clear f13; have K11 := (b0.and3 (b1.all3)); have r0 := b2.cell 0 _ rfl; have f_0 := b2.frozen 0; have r1 := b2.cell 1 _ rfl; have f_1 := b2.frozen 1; have r2 := b2.cell 2 _ rfl; have f_2 := b2.frozen 2; have hg := only_store3 v11 (w.heap.size + 1 + 1) (.bool s3) (.slice A3 n3 c3) (.slice D3 m3 e3); have KS := ((b0.other hg (by omega)).and3 ((b1.other hg (by omega)).all3)); clear hb)
          | (go_at_call 75; have hK9 := K9; clear hK9; with_reducible refine (nprod_v f11 f12 (by omega) (by omega)).mono ?_; rintro e v10 ⟨A13, n13, c13, rfl, f13, hb⟩; have h := h.below hb; have h' := h'.below hb; have h1 := h1.below hb; have h1' := h1'.below hb; have f10 := f10.below hb; have f11 := f11.below hb; have f12 := f12.below hb; have b0 := b0.below hb; have b1 := b1.below hb; have b2 := b2.below hb; have H0 := H0.trans (hb.mono H0.size); clear f11; clear f12; have K10 := (b0.and3 (b1.all3)); clear hb)
          | (go_at_call 71; have hK9 := K8; clear hK9; with_reducible refine (nden_v h').mono ?_; rintro e v9 ⟨A12, n12, c12, rfl, f12, hb⟩; have h := h.below hb; have h' := h'.below hb; have h1 := h1.below hb; have h1' := h1'.below hb; have f10 := f10.below hb; have f11 := f11.below hb; have b0 := b0.below hb; have b1 := b1.below hb; have b2 := b2.below hb; have H0 := H0.trans (hb.mono H0.size); have K9 := (b0.and3 (b1.all3)); clear hb)
          | (go_at_call 71; have hK9 := K7; clear hK9; with_reducible refine (nden_v h).mono ?_; rintro e v8 ⟨A11, n11, c11, rfl, f11, hb⟩; have h := h.below hb; have h' := h'.below hb; have h1 := h1.below hb; have h1' := h1'.below hb; have f10 := f10.below hb; have b0 := b0.below hb; have b1 := b1.below hb; have b2 := b2.below hb; have H0 := H0.trans (hb.mono H0.size); have K8 := (b0.and3 (b1.all3)); clear hb)
          | (go_at_call 72; have hK9 := K6; clear hK9; with_reducible refine (nadd_v f6 f9 (by omega) (by omega)).mono ?_; rintro e v7 ⟨s10, A10, n10, c10, rfl, f10, hb⟩; have h := h.below hb; have h' := h'.below hb; have h1 := h1.below hb; have h1' := h1'.below hb; have f6 := f6.below hb; have f9 := f9.below hb; have b0 := b0.below hb; have b1 := b1.below hb; have b2 := b2.below hb; have H0 := H0.trans (hb.mono H0.size); clear f6; clear f9; have K7 := (b0.and3 (b1.all3)); clear hb)
          | (go_at_call 73; have hK9 := K5; clear hK9; with_reducible refine (nmul_v h1' f8 (by omega) (by omega)).mono ?_; rintro e v6 ⟨s9, A9, n9, c9, rfl, f9, hb⟩; have h := h.below hb; have h' := h'.below hb; have h1 := h1.below hb; have h1' := h1'.below hb; have f6 := f6.below hb; have f8 := f8.below hb; have b0 := b0.below hb; have b1 := b1.below hb; have b2 := b2.below hb; have H0 := H0.trans (hb.mono H0.size); clear f8; have K6 := (b0.and3 (b1.all3)); clear hb)
          | (go_at_call 74; have hK9 := K4; clear hK9; with_reducible refine (nmake_v false f7 rfl).mono ?_; rintro e v5 ⟨s8, rfl, f8, hb⟩; have h := h.below hb; have h' := h'.below hb; have h1 := h1.below hb; have h1' := h1'.below hb; have f6 := f6.below hb; have f7 := f7.below hb; have b0 := b0.below hb; have b1 := b1.below hb; have b2 := b2.below hb; have H0 := H0.trans (hb.mono H0.size); clear f7; have K5 := (b0.and3 (b1.all3)); clear hb)
          | (go_at_call 71; have hK9 := K3; clear hK9; with_reducible refine (nden_v h).mono ?_; rintro e v4 ⟨A7, n7, c7, rfl, f7, hb⟩; have h := h.below hb; have h' := h'.below hb; have h1 := h1.below hb; have h1' := h1'.below hb; have f6 := f6.below hb; have b0 := b0.below hb; have b1 := b1.below hb; have b2 := b2.below hb; have H0 := H0.trans (hb.mono H0.size); have K4 := (b0.and3 (b1.all3)); clear hb)
          | (go_at_call 73; have hK9 := K2; clear hK9; with_reducible refine (nmul_v h1 f5 (by omega) (by omega)).mono ?_; rintro e v3 ⟨s6, A6, n6, c6, rfl, f6, hb⟩; have h := h.below hb; have h' := h'.below hb; have h1 := h1.below hb; have h1' := h1'.below hb; have f5 := f5.below hb; have b0 := b0.below hb; have b1 := b1.below hb; have b2 := b2.below hb; have H0 := H0.trans (hb.mono H0.size); clear f5; have K3 := (b0.and3 (b1.all3)); clear hb)
          | (go_at_call 74; have hK9 := K1; clear hK9; with_reducible refine (nmake_v false f4 rfl).mono ?_; rintro e v2 ⟨s5, rfl, f5, hb⟩; have h := h.below hb; have h' := h'.below hb; have h1 := h1.below hb; have h1' := h1'.below hb; have f4 := f4.below hb; have b0 := b0.below hb; have b1 := b1.below hb; have b2 := b2.below hb; have H0 := H0.trans (hb.mono H0.size); clear f4; have K2 := (b0.and3 (b1.all3)); clear hb)
          | (go_at_call 71; have hK9 := K0; clear hK9; with_reducible refine (nden_v h').mono ?_; rintro e v1 ⟨A4, n4, c4, rfl, f4, hb⟩; have h := h.below hb; have h' := h'.below hb; have h1 := h1.below hb; have h1' := h1'.below hb; have b0 := b0.below hb; have b1 := b1.below hb; have b2 := b2.below hb; have H0 := H0.trans (hb.mono H0.size); have K1 := (b0.and3 (b1.all3)); clear hb)
        )
      have hB := b2.stored3 (.bool s3) (.slice A3 n3 c3) (.slice D3 m3 e3)
      go_wp2_with fail
      generalize hX : (((v11.setCell ⟨w.heap.size + 1 + 1, 0, none⟩ (.bool s3)).setCell ⟨w.heap.size + 1 + 1, 1, none⟩ (.slice A3 n3 c3)).setCell ⟨w.heap.size + 1 + 1, 2, none⟩ (.slice D3 m3 e3)) = X12 at hg hB ⊢
      clear hX r0 f_0 r1 f_1 r2 f_2
      replace h := h.kept b2 (by simp [notInt]) hg
      replace h' := h'.kept b2 (by simp [notInt]) hg
      replace h1 := h1.kept b2 (by simp [notInt]) hg
      replace h1' := h1'.kept b2 (by simp [notInt]) hg
      replace fq := fq.kept b2 (by simp [notInt]) hg
      replace b0 := b0.other hg (by omega)
      replace b1 := b1.other hg (by omega)
      replace b2 := hB
      replace H0 := below_only H0 hg (by omega) H0.size
      clear hg hB
      refine bodyPost_ret (ret_numq rfl rfl b2) rfl ?_
      exact ⟨s3, A3, n3, c3, D3, m3, e3, rfl, by rw [HE.out]; exact fq, H0⟩
  · rcases Decidable.em (q'.den = 1) with hq' | hq'
    · have h1 := h.1
      have h1' := h'.1
      have hm := nv_pos (h.den1 hq) (Nat.pos_of_ne_zero q.den_nz)
      have hm1 : ((m0 : Int) == 0) = false := by rw [beq_eq_false_iff_ne]; omega
      have hm' := nv_zero (h'.den0 hq')
      have HE : Hid (q + q' = mkRat (q.num * sg false q'.den + q'.num * sg false q.den) (q.den * q'.den)) := Lib.hid (Rat.add_def' q q')
      have HN : Hid (q.den * q'.den ≠ 0) := Lib.hid (Nat.mul_ne_zero q.den_nz q'.den_nz)
      subst hm'
      clear hq hq'
      go_enter Tryz.func32, Tryz.ntmps32
      go_wp2_with fail
      obtain ⟨W0, hW, b0, b1, b2, hbW, hszW0⟩ := boxes3 w #[.bool s0, .slice A0 n0 c0, .slice D0 m0 e0] #[.bool s1, .slice A1 n1 c1, .slice D1 0 e1] #[.bool false, .slice none 0 0, .slice none 0 0] 37 37 37
      rw [hW]
      clear hW
      replace h := h.below hbW
      replace h' := h'.below hbW
      replace h1 := h1.below hbW
      replace h1' := h1'.below hbW
      have H0 := hbW
      clear hbW
      obtain ⟨cb00, cb01, cb02⟩ := b0.cells3
      obtain ⟨cb10, cb11, cb12⟩ := b1.cells3
      go_wp2_with fail
      clear cb00 cb01 cb02 cb10 cb11 cb12
      have hD := drawn_below W0
      replace h := h.below hD
      replace h' := h'.below hD
      replace h1 := h1.below hD
      replace h1' := h1'.below hD
      replace b0 := b0.below hD
      replace b1 := b1.below hD
      replace b2 := b2.below hD
      replace H0 := H0.trans (hD.mono H0.size)
      clear hD
      have K0 := (b0.and3 (b1.all3))
      go_region_held3 (fun V => V.cell? ⟨w.heap.size, 0, none⟩ = some (.bool s0) ∧ V.cell? ⟨w.heap.size, 1, none⟩ = some (.slice A0 n0 c0) ∧ V.cell? ⟨w.heap.size, 2, none⟩ = some (.slice D0 m0 e0) ∧ V.cell? ⟨w.heap.size + 1, 0, none⟩ = some (.bool s1) ∧ V.cell? ⟨w.heap.size + 1, 1, none⟩ = some (.slice A1 n1 c1) ∧ V.cell? ⟨w.heap.size + 1, 2, none⟩ = some (.slice D1 0 e1)) (first | exact KS | exact K11 | exact K10 | exact K9 | exact K8 | exact K7 | exact K6 | exact K5 | exact K4 | exact K3 | exact K2 | exact K1 | exact K0 | go_keep)
        (first
          | (go_at_call 59; have hK9 := K10; clear hK9; with_reducible refine (nfrac_v (L := max L 1 + max L0 1 + 1) (f10.more (by omega)) (NV.more f13 (by omega)) HN.out (by omega)).mono ?_; rintro e v11 ⟨s3, A3, n3, c3, D3, m3, e3, rfl, fq, hb⟩; have h := h.below hb; have h' := h'.below hb; have h1 := h1.below hb; have h1' := h1'.below hb; have f10 := f10.below hb; have f13 := f13.below hb; have b0 := b0.below hb; have b1 := b1.below hb; have b2 := b2.below hb; have H0 := H0.trans (hb.mono H0.size); clear f10; clear f13; have K11 := (b0.and3 (b1.all3)); have r0 := b2.cell 0 _ rfl; have f_0 := b2.frozen 0; have r1 := b2.cell 1 _ rfl; have f_1 := b2.frozen 1; have r2 := b2.cell 2 _ rfl; have f_2 := b2.frozen 2; have hg := only_store3 v11 (w.heap.size + 1 + 1) (.bool s3) (.slice A3 n3 c3) (.slice D3 m3 e3); have KS := ((b0.other hg (by omega)).and3 ((b1.other hg (by omega)).all3)); clear hb)
          | (go_at_call 75; have hK9 := K9; clear hK9; with_reducible refine (nprod_v f11 f12 (by omega) (by omega)).mono ?_; rintro e v10 ⟨A13, n13, c13, rfl, f13, hb⟩; have h := h.below hb; have h' := h'.below hb; have h1 := h1.below hb; have h1' := h1'.below hb; have f10 := f10.below hb; have f11 := f11.below hb; have f12 := f12.below hb; have b0 := b0.below hb; have b1 := b1.below hb; have b2 := b2.below hb; have H0 := H0.trans (hb.mono H0.size); clear f11; clear f12; have K10 := (b0.and3 (b1.all3)); clear hb)
          | (go_at_call 71; have hK9 := K8; clear hK9; with_reducible refine (nden_v h').mono ?_; rintro e v9 ⟨A12, n12, c12, rfl, f12, hb⟩; have h := h.below hb; have h' := h'.below hb; have h1 := h1.below hb; have h1' := h1'.below hb; have f10 := f10.below hb; have f11 := f11.below hb; have b0 := b0.below hb; have b1 := b1.below hb; have b2 := b2.below hb; have H0 := H0.trans (hb.mono H0.size); have K9 := (b0.and3 (b1.all3)); clear hb)
          | (go_at_call 71; have hK9 := K7; clear hK9; with_reducible refine (nden_v h).mono ?_; rintro e v8 ⟨A11, n11, c11, rfl, f11, hb⟩; have h := h.below hb; have h' := h'.below hb; have h1 := h1.below hb; have h1' := h1'.below hb; have f10 := f10.below hb; have b0 := b0.below hb; have b1 := b1.below hb; have b2 := b2.below hb; have H0 := H0.trans (hb.mono H0.size); have K8 := (b0.and3 (b1.all3)); clear hb)
          | (go_at_call 72; have hK9 := K6; clear hK9; with_reducible refine (nadd_v f6 f9 (by omega) (by omega)).mono ?_; rintro e v7 ⟨s10, A10, n10, c10, rfl, f10, hb⟩; have h := h.below hb; have h' := h'.below hb; have h1 := h1.below hb; have h1' := h1'.below hb; have f6 := f6.below hb; have f9 := f9.below hb; have b0 := b0.below hb; have b1 := b1.below hb; have b2 := b2.below hb; have H0 := H0.trans (hb.mono H0.size); clear f6; clear f9; have K7 := (b0.and3 (b1.all3)); clear hb)
          | (go_at_call 73; have hK9 := K5; clear hK9; with_reducible refine (nmul_v h1' f8 (by omega) (by omega)).mono ?_; rintro e v6 ⟨s9, A9, n9, c9, rfl, f9, hb⟩; have h := h.below hb; have h' := h'.below hb; have h1 := h1.below hb; have h1' := h1'.below hb; have f6 := f6.below hb; have f8 := f8.below hb; have b0 := b0.below hb; have b1 := b1.below hb; have b2 := b2.below hb; have H0 := H0.trans (hb.mono H0.size); clear f8; have K6 := (b0.and3 (b1.all3)); clear hb)
          | (go_at_call 74; have hK9 := K4; clear hK9; with_reducible refine (nmake_v false f7 rfl).mono ?_; rintro e v5 ⟨s8, rfl, f8, hb⟩; have h := h.below hb; have h' := h'.below hb; have h1 := h1.below hb; have h1' := h1'.below hb; have f6 := f6.below hb; have f7 := f7.below hb; have b0 := b0.below hb; have b1 := b1.below hb; have b2 := b2.below hb; have H0 := H0.trans (hb.mono H0.size); clear f7; have K5 := (b0.and3 (b1.all3)); clear hb)
          | (go_at_call 71; have hK9 := K3; clear hK9; with_reducible refine (nden_v h).mono ?_; rintro e v4 ⟨A7, n7, c7, rfl, f7, hb⟩; have h := h.below hb; have h' := h'.below hb; have h1 := h1.below hb; have h1' := h1'.below hb; have f6 := f6.below hb; have b0 := b0.below hb; have b1 := b1.below hb; have b2 := b2.below hb; have H0 := H0.trans (hb.mono H0.size); have K4 := (b0.and3 (b1.all3)); clear hb)
          | (go_at_call 73; have hK9 := K2; clear hK9; with_reducible refine (nmul_v h1 f5 (by omega) (by omega)).mono ?_; rintro e v3 ⟨s6, A6, n6, c6, rfl, f6, hb⟩; have h := h.below hb; have h' := h'.below hb; have h1 := h1.below hb; have h1' := h1'.below hb; have f5 := f5.below hb; have b0 := b0.below hb; have b1 := b1.below hb; have b2 := b2.below hb; have H0 := H0.trans (hb.mono H0.size); clear f5; have K3 := (b0.and3 (b1.all3)); clear hb)
          | (go_at_call 74; have hK9 := K1; clear hK9; with_reducible refine (nmake_v false f4 rfl).mono ?_; rintro e v2 ⟨s5, rfl, f5, hb⟩; have h := h.below hb; have h' := h'.below hb; have h1 := h1.below hb; have h1' := h1'.below hb; have f4 := f4.below hb; have b0 := b0.below hb; have b1 := b1.below hb; have b2 := b2.below hb; have H0 := H0.trans (hb.mono H0.size); clear f4; have K2 := (b0.and3 (b1.all3)); clear hb)
          | (go_at_call 71; have hK9 := K0; clear hK9; with_reducible refine (nden_v h').mono ?_; rintro e v1 ⟨A4, n4, c4, rfl, f4, hb⟩; have h := h.below hb; have h' := h'.below hb; have h1 := h1.below hb; have h1' := h1'.below hb; have b0 := b0.below hb; have b1 := b1.below hb; have b2 := b2.below hb; have H0 := H0.trans (hb.mono H0.size); have K1 := (b0.and3 (b1.all3)); clear hb)
        )
      have hB := b2.stored3 (.bool s3) (.slice A3 n3 c3) (.slice D3 m3 e3)
      go_wp2_with fail
      generalize hX : (((v11.setCell ⟨w.heap.size + 1 + 1, 0, none⟩ (.bool s3)).setCell ⟨w.heap.size + 1 + 1, 1, none⟩ (.slice A3 n3 c3)).setCell ⟨w.heap.size + 1 + 1, 2, none⟩ (.slice D3 m3 e3)) = X12 at hg hB ⊢
      clear hX r0 f_0 r1 f_1 r2 f_2
      replace h := h.kept b2 (by simp [notInt]) hg
      replace h' := h'.kept b2 (by simp [notInt]) hg
      replace h1 := h1.kept b2 (by simp [notInt]) hg
      replace h1' := h1'.kept b2 (by simp [notInt]) hg
      replace fq := fq.kept b2 (by simp [notInt]) hg
      replace b0 := b0.other hg (by omega)
      replace b1 := b1.other hg (by omega)
      replace b2 := hB
      replace H0 := below_only H0 hg (by omega) H0.size
      clear hg hB
      refine bodyPost_ret (ret_numq rfl rfl b2) rfl ?_
      exact ⟨s3, A3, n3, c3, D3, m3, e3, rfl, by rw [HE.out]; exact fq, H0⟩
    · have h1 := h.1
      have h1' := h'.1
      have hm := nv_pos (h.den1 hq) (Nat.pos_of_ne_zero q.den_nz)
      have hm1 : ((m0 : Int) == 0) = false := by rw [beq_eq_false_iff_ne]; omega
      have hm' := nv_pos (h'.den1 hq') (Nat.pos_of_ne_zero q'.den_nz)
      have hm1' : ((m1 : Int) == 0) = false := by rw [beq_eq_false_iff_ne]; omega
      have HE : Hid (q + q' = mkRat (q.num * sg false q'.den + q'.num * sg false q.den) (q.den * q'.den)) := Lib.hid (Rat.add_def' q q')
      have HN : Hid (q.den * q'.den ≠ 0) := Lib.hid (Nat.mul_ne_zero q.den_nz q'.den_nz)
      clear hq hq'
      go_enter Tryz.func32, Tryz.ntmps32
      go_wp2_with fail
      obtain ⟨W0, hW, b0, b1, b2, hbW, hszW0⟩ := boxes3 w #[.bool s0, .slice A0 n0 c0, .slice D0 m0 e0] #[.bool s1, .slice A1 n1 c1, .slice D1 m1 e1] #[.bool false, .slice none 0 0, .slice none 0 0] 37 37 37
      rw [hW]
      clear hW
      replace h := h.below hbW
      replace h' := h'.below hbW
      replace h1 := h1.below hbW
      replace h1' := h1'.below hbW
      have H0 := hbW
      clear hbW
      obtain ⟨cb00, cb01, cb02⟩ := b0.cells3
      obtain ⟨cb10, cb11, cb12⟩ := b1.cells3
      go_wp2_with fail
      clear cb00 cb01 cb02 cb10 cb11 cb12
      have hD := drawn_below W0
      replace h := h.below hD
      replace h' := h'.below hD
      replace h1 := h1.below hD
      replace h1' := h1'.below hD
      replace b0 := b0.below hD
      replace b1 := b1.below hD
      replace b2 := b2.below hD
      replace H0 := H0.trans (hD.mono H0.size)
      clear hD
      have K0 := (b0.and3 (b1.all3))
      go_region_held3 (fun V => V.cell? ⟨w.heap.size, 0, none⟩ = some (.bool s0) ∧ V.cell? ⟨w.heap.size, 1, none⟩ = some (.slice A0 n0 c0) ∧ V.cell? ⟨w.heap.size, 2, none⟩ = some (.slice D0 m0 e0) ∧ V.cell? ⟨w.heap.size + 1, 0, none⟩ = some (.bool s1) ∧ V.cell? ⟨w.heap.size + 1, 1, none⟩ = some (.slice A1 n1 c1) ∧ V.cell? ⟨w.heap.size + 1, 2, none⟩ = some (.slice D1 m1 e1)) (first | exact KS | exact K11 | exact K10 | exact K9 | exact K8 | exact K7 | exact K6 | exact K5 | exact K4 | exact K3 | exact K2 | exact K1 | exact K0 | go_keep)
        (first
          | (go_at_call 59; have hK9 := K10; clear hK9; with_reducible refine (nfrac_v (L := max L 1 + max L0 1 + 1) (f10.more (by omega)) (NV.more f13 (by omega)) HN.out (by omega)).mono ?_; rintro e v11 ⟨s3, A3, n3, c3, D3, m3, e3, rfl, fq, hb⟩; have h := h.below hb; have h' := h'.below hb; have h1 := h1.below hb; have h1' := h1'.below hb; have f10 := f10.below hb; have f13 := f13.below hb; have b0 := b0.below hb; have b1 := b1.below hb; have b2 := b2.below hb; have H0 := H0.trans (hb.mono H0.size); clear f10; clear f13; have K11 := (b0.and3 (b1.all3)); have r0 := b2.cell 0 _ rfl; have f_0 := b2.frozen 0; have r1 := b2.cell 1 _ rfl; have f_1 := b2.frozen 1; have r2 := b2.cell 2 _ rfl; have f_2 := b2.frozen 2; have hg := only_store3 v11 (w.heap.size + 1 + 1) (.bool s3) (.slice A3 n3 c3) (.slice D3 m3 e3); have KS := ((b0.other hg (by omega)).and3 ((b1.other hg (by omega)).all3)); clear hb)
          | (go_at_call 75; have hK9 := K9; clear hK9; with_reducible refine (nprod_v f11 f12 (by omega) (by omega)).mono ?_; rintro e v10 ⟨A13, n13, c13, rfl, f13, hb⟩; have h := h.below hb; have h' := h'.below hb; have h1 := h1.below hb; have h1' := h1'.below hb; have f10 := f10.below hb; have f11 := f11.below hb; have f12 := f12.below hb; have b0 := b0.below hb; have b1 := b1.below hb; have b2 := b2.below hb; have H0 := H0.trans (hb.mono H0.size); clear f11; clear f12; have K10 := (b0.and3 (b1.all3)); clear hb)
          | (go_at_call 71; have hK9 := K8; clear hK9; with_reducible refine (nden_v h').mono ?_; rintro e v9 ⟨A12, n12, c12, rfl, f12, hb⟩; have h := h.below hb; have h' := h'.below hb; have h1 := h1.below hb; have h1' := h1'.below hb; have f10 := f10.below hb; have f11 := f11.below hb; have b0 := b0.below hb; have b1 := b1.below hb; have b2 := b2.below hb; have H0 := H0.trans (hb.mono H0.size); have K9 := (b0.and3 (b1.all3)); clear hb)
          | (go_at_call 71; have hK9 := K7; clear hK9; with_reducible refine (nden_v h).mono ?_; rintro e v8 ⟨A11, n11, c11, rfl, f11, hb⟩; have h := h.below hb; have h' := h'.below hb; have h1 := h1.below hb; have h1' := h1'.below hb; have f10 := f10.below hb; have b0 := b0.below hb; have b1 := b1.below hb; have b2 := b2.below hb; have H0 := H0.trans (hb.mono H0.size); have K8 := (b0.and3 (b1.all3)); clear hb)
          | (go_at_call 72; have hK9 := K6; clear hK9; with_reducible refine (nadd_v f6 f9 (by omega) (by omega)).mono ?_; rintro e v7 ⟨s10, A10, n10, c10, rfl, f10, hb⟩; have h := h.below hb; have h' := h'.below hb; have h1 := h1.below hb; have h1' := h1'.below hb; have f6 := f6.below hb; have f9 := f9.below hb; have b0 := b0.below hb; have b1 := b1.below hb; have b2 := b2.below hb; have H0 := H0.trans (hb.mono H0.size); clear f6; clear f9; have K7 := (b0.and3 (b1.all3)); clear hb)
          | (go_at_call 73; have hK9 := K5; clear hK9; with_reducible refine (nmul_v h1' f8 (by omega) (by omega)).mono ?_; rintro e v6 ⟨s9, A9, n9, c9, rfl, f9, hb⟩; have h := h.below hb; have h' := h'.below hb; have h1 := h1.below hb; have h1' := h1'.below hb; have f6 := f6.below hb; have f8 := f8.below hb; have b0 := b0.below hb; have b1 := b1.below hb; have b2 := b2.below hb; have H0 := H0.trans (hb.mono H0.size); clear f8; have K6 := (b0.and3 (b1.all3)); clear hb)
          | (go_at_call 74; have hK9 := K4; clear hK9; with_reducible refine (nmake_v false f7 rfl).mono ?_; rintro e v5 ⟨s8, rfl, f8, hb⟩; have h := h.below hb; have h' := h'.below hb; have h1 := h1.below hb; have h1' := h1'.below hb; have f6 := f6.below hb; have f7 := f7.below hb; have b0 := b0.below hb; have b1 := b1.below hb; have b2 := b2.below hb; have H0 := H0.trans (hb.mono H0.size); clear f7; have K5 := (b0.and3 (b1.all3)); clear hb)
          | (go_at_call 71; have hK9 := K3; clear hK9; with_reducible refine (nden_v h).mono ?_; rintro e v4 ⟨A7, n7, c7, rfl, f7, hb⟩; have h := h.below hb; have h' := h'.below hb; have h1 := h1.below hb; have h1' := h1'.below hb; have f6 := f6.below hb; have b0 := b0.below hb; have b1 := b1.below hb; have b2 := b2.below hb; have H0 := H0.trans (hb.mono H0.size); have K4 := (b0.and3 (b1.all3)); clear hb)
          | (go_at_call 73; have hK9 := K2; clear hK9; with_reducible refine (nmul_v h1 f5 (by omega) (by omega)).mono ?_; rintro e v3 ⟨s6, A6, n6, c6, rfl, f6, hb⟩; have h := h.below hb; have h' := h'.below hb; have h1 := h1.below hb; have h1' := h1'.below hb; have f5 := f5.below hb; have b0 := b0.below hb; have b1 := b1.below hb; have b2 := b2.below hb; have H0 := H0.trans (hb.mono H0.size); clear f5; have K3 := (b0.and3 (b1.all3)); clear hb)
          | (go_at_call 74; have hK9 := K1; clear hK9; with_reducible refine (nmake_v false f4 rfl).mono ?_; rintro e v2 ⟨s5, rfl, f5, hb⟩; have h := h.below hb; have h' := h'.below hb; have h1 := h1.below hb; have h1' := h1'.below hb; have f4 := f4.below hb; have b0 := b0.below hb; have b1 := b1.below hb; have b2 := b2.below hb; have H0 := H0.trans (hb.mono H0.size); clear f4; have K2 := (b0.and3 (b1.all3)); clear hb)
          | (go_at_call 71; have hK9 := K0; clear hK9; with_reducible refine (nden_v h').mono ?_; rintro e v1 ⟨A4, n4, c4, rfl, f4, hb⟩; have h := h.below hb; have h' := h'.below hb; have h1 := h1.below hb; have h1' := h1'.below hb; have b0 := b0.below hb; have b1 := b1.below hb; have b2 := b2.below hb; have H0 := H0.trans (hb.mono H0.size); have K1 := (b0.and3 (b1.all3)); clear hb)
        )
      have hB := b2.stored3 (.bool s3) (.slice A3 n3 c3) (.slice D3 m3 e3)
      go_wp2_with fail
      generalize hX : (((v11.setCell ⟨w.heap.size + 1 + 1, 0, none⟩ (.bool s3)).setCell ⟨w.heap.size + 1 + 1, 1, none⟩ (.slice A3 n3 c3)).setCell ⟨w.heap.size + 1 + 1, 2, none⟩ (.slice D3 m3 e3)) = X12 at hg hB ⊢
      clear hX r0 f_0 r1 f_1 r2 f_2
      replace h := h.kept b2 (by simp [notInt]) hg
      replace h' := h'.kept b2 (by simp [notInt]) hg
      replace h1 := h1.kept b2 (by simp [notInt]) hg
      replace h1' := h1'.kept b2 (by simp [notInt]) hg
      replace fq := fq.kept b2 (by simp [notInt]) hg
      replace b0 := b0.other hg (by omega)
      replace b1 := b1.other hg (by omega)
      replace b2 := hB
      replace H0 := below_only H0 hg (by omega) H0.size
      clear hg hB
      refine bodyPost_ret (ret_numq rfl rfl b2) rfl ?_
      exact ⟨s3, A3, n3, c3, D3, m3, e3, rfl, by rw [HE.out]; exact fq, H0⟩
set_option maxRecDepth 100000 in
set_option maxHeartbeats 800000 in
theorem nqsubw_v (h : PQ w s0 (.slice A0 n0 c0) (.slice D0 m0 e0) q L) (h' : PQ w s1 (.slice A1 n1 c1) (.slice D1 m1 e1) q' L0) (hL : L ≤ 300) (hL' : L0 ≤ 300) :
    Calls Tryz.prog 82 #[.agg #[.bool s0, .slice A0 n0 c0, .slice D0 m0 e0], .agg #[.bool s1, .slice A1 n1 c1, .slice D1 m1 e1]] w fun e w' => ∃ s3 A3 n3 c3 D3 m3 e3, e = .returned (.agg #[.bool s3, .slice A3 n3 c3, .slice D3 m3 e3]) ∧ PQ w' s3 (.slice A3 n3 c3) (.slice D3 m3 e3) (q-q') (max L 1 + max L0 1 + 1) ∧ Below w.heap.size w w' := by
  go_enter Tryz.func82, Tryz.ntmps82
  go_wp2_with fail
  obtain ⟨W0, hW, b0, b1, b2, hbW, hszW0⟩ := boxes3 w #[.bool s0, .slice A0 n0 c0, .slice D0 m0 e0] #[.bool s1, .slice A1 n1 c1, .slice D1 m1 e1] #[.bool false, .slice none 0 0, .slice none 0 0] 37 37 37
  rw [hW]
  clear hW
  replace h := h.below hbW
  replace h' := h'.below hbW
  have H0 := hbW
  clear hbW
  have hD := drawn_below W0
  replace h := h.below hD
  replace h' := h'.below hD
  replace b0 := b0.below hD
  replace b1 := b1.below hD
  replace b2 := b2.below hD
  replace H0 := H0.trans (hD.mono H0.size)
  clear hD
  have K0 := (b0.and3 (b1.all3))
  go_region_held3 (fun V => V.cell? ⟨w.heap.size, 0, none⟩ = some (.bool s0) ∧ V.cell? ⟨w.heap.size, 1, none⟩ = some (.slice A0 n0 c0) ∧ V.cell? ⟨w.heap.size, 2, none⟩ = some (.slice D0 m0 e0) ∧ V.cell? ⟨w.heap.size + 1, 0, none⟩ = some (.bool s1) ∧ V.cell? ⟨w.heap.size + 1, 1, none⟩ = some (.slice A1 n1 c1) ∧ V.cell? ⟨w.heap.size + 1, 2, none⟩ = some (.slice D1 m1 e1)) (first | exact KS | exact K2 | exact K1 | exact K0 | go_keep)
    (first
      | (go_at_call 32; have hK9 := K1; clear hK9; with_reducible refine (nplusw_v h fo hL hL').mono ?_; rintro e v2 ⟨s3, A3, n3, c3, D3, m3, e3, rfl, fq, hb⟩; have h := h.below hb; have fo := fo.below hb; have b0 := b0.below hb; have b1 := b1.below hb; have b2 := b2.below hb; have H0 := H0.trans (hb.mono H0.size); clear h; clear fo; have K2 := (b0.and3 (b1.all3)); have r0 := b2.cell 0 _ rfl; have f_0 := b2.frozen 0; have r1 := b2.cell 1 _ rfl; have f_1 := b2.frozen 1; have r2 := b2.cell 2 _ rfl; have f_2 := b2.frozen 2; have hg := only_store3 v2 (w.heap.size + 1 + 1) (.bool s3) (.slice A3 n3 c3) (.slice D3 m3 e3); have KS := ((b0.other hg (by omega)).and3 ((b1.other hg (by omega)).all3)); clear hb)
      | (go_at_call 110; have hK9 := K0; clear hK9; with_reducible refine (nopp_v h').mono ?_; rintro e v1 ⟨s4, rfl, fo, hb⟩; have h := h.below hb; have h' := h'.below hb; have b0 := b0.below hb; have b1 := b1.below hb; have b2 := b2.below hb; have H0 := H0.trans (hb.mono H0.size); clear h'; have K1 := (b0.and3 (b1.all3)); clear hb)
    )
  have hB := b2.stored3 (.bool s3) (.slice A3 n3 c3) (.slice D3 m3 e3)
  go_wp2_with fail
  generalize hX : (((v2.setCell ⟨w.heap.size + 1 + 1, 0, none⟩ (.bool s3)).setCell ⟨w.heap.size + 1 + 1, 1, none⟩ (.slice A3 n3 c3)).setCell ⟨w.heap.size + 1 + 1, 2, none⟩ (.slice D3 m3 e3)) = X3 at hg hB ⊢
  clear hX r0 f_0 r1 f_1 r2 f_2
  replace fq := fq.kept b2 (by simp [notInt]) hg
  replace b0 := b0.other hg (by omega)
  replace b1 := b1.other hg (by omega)
  replace b2 := hB
  replace H0 := below_only H0 hg (by omega) H0.size
  clear hg hB
  refine bodyPost_ret (ret_numq rfl rfl b2) rfl ?_
  exact ⟨s3, A3, n3, c3, D3, m3, e3, rfl, by rw [Rat.sub_eq_add_neg]; exact fq, H0⟩
set_option maxRecDepth 100000 in
set_option maxHeartbeats 800000 in
theorem nqcw_v (h : PQ w s0 (.slice A0 n0 c0) (.slice D0 m0 e0) q L) (h' : PQ w s1 (.slice A1 n1 c1) (.slice D1 m1 e1) q' L0) (hL : L ≤ 300) (hL' : L0 ≤ 300) (hk : rsg (q - q') = k) :
    Calls Tryz.prog 43 #[.agg #[.bool s0, .slice A0 n0 c0, .slice D0 m0 e0], .agg #[.bool s1, .slice A1 n1 c1, .slice D1 m1 e1]] w fun e w' => e = .returned (.int .i64 k) ∧ Below w.heap.size w w' := by
  have HK := Lib.hid hk
  clear hk
  go_enter Tryz.func43, Tryz.ntmps43
  go_wp2_with fail
  obtain ⟨W0, hW, b0, b1, hbW, hszW0⟩ := boxes2 w #[.bool s0, .slice A0 n0 c0, .slice D0 m0 e0] #[.bool s1, .slice A1 n1 c1, .slice D1 m1 e1] 37 37
  rw [hW]
  clear hW
  replace h := h.below hbW
  replace h' := h'.below hbW
  have H0 := hbW
  clear hbW
  obtain ⟨cb00, cb01, cb02⟩ := b0.cells3
  obtain ⟨cb10, cb11, cb12⟩ := b1.cells3
  go_wp2_with fail
  clear cb00 cb01 cb02 cb10 cb11 cb12
  refine (nqsubw_v h h' hL hL').mono ?_
  rintro e w1 ⟨s3, A3, n3, c3, D3, m3, e3, rfl, fq, hb⟩
  replace h := h.below hb
  replace h' := h'.below hb
  replace b0 := b0.below hb
  replace b1 := b1.below hb
  replace H0 := H0.trans (hb.mono H0.size)
  clear hb
  go_wp2_with fail
  refine (nqs_v fq HK.out).mono ?_
  rintro e w2 ⟨rfl, hb⟩
  replace h := h.below hb
  replace h' := h'.below hb
  replace fq := fq.below hb
  replace b0 := b0.below hb
  replace b1 := b1.below hb
  replace H0 := H0.trans (hb.mono H0.size)
  clear hb
  go_wp2_with fail
  go_returns
  exact ⟨rfl, H0⟩
end
end Go.Proofs.YtfdlkbbepkghmaaGreatDoor
