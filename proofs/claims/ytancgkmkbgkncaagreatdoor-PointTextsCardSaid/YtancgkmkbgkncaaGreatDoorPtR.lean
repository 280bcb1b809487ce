/-
  A point that need not be in normal form.
-/
import Derived.Test.YtancgkmkbgkncaaGreatDoorT2
import Derived.Test.YtancgkmkbgkncaaGreatDoorPhase
import Derived.Deep.Cut
namespace Go.Proofs.YtancgkmkbgkncaaGreatDoor
open Go.RowKit

section
variable {A0 A1 A2 A3 A4 A5 A6 A7 D0 D1 D2 D3 D4 D5 D6 D7 : Option Addr} {n0 n1 n2 n3 n4 n5 n6 n7 c0 c1 c2 c3 c4 c5 c6 c7 m0 m1 m2 m3 m4 m5 m6 m7 e0 e1 e2 e3 e4 e5 e6 e7 : Nat} {s0 s1 s2 s3 s4 s5 s6 s7 : Bool} {q0 q1 q2 q3 q4 q5 q6 q7 : Rat} {z z' z0 z1 : Int} {L L0 L1 x x0 x1 y : Nat} {w : World}
theorem NQ.tape {w' : World} {v u : Value} {q : Rat} {s0 : Bool} {b : Nat} (h : NQ w s0 v u q L) (ht : Tape w b) (hg : w.grownBy w' (some b)) : NQ w' s0 v u q L := ⟨h.1.tape ht hg, h.2.tape ht hg⟩
theorem six_lit (w : World) : ∃ W, w.alloc (.cells #[.int .u32 6] 64) = W ∧ NV W (.slice (some ⟨w.heap.size, 0, none⟩) 1 1) 6 1 ∧ Below w.heap.size w W ∧ W.heap.size = w.heap.size + 1 := by
  have r1 : Raw (w.alloc (.cells #[.int .u32 6] 64)) (.slice (some ⟨w.heap.size, 0, none⟩) 1 1) [6] := raw_lit w _ _ 1 _ rfl (okD_one (by decide)) rfl (by decide) rfl
  have hd : digs 6 = [6] := by rw [digs_pos (by omega), show 6 / 4294967296 = 0 from rfl, digs_zero]
  exact ⟨_, rfl, ⟨by unfold Num; rw [hd]; exact r1, by rw [Bs_one]; omega⟩, below_alloc w _, by simp⟩
theorem rough_rq {v u : Value} {q : Rat} {s : Bool} (hs : s = decide (q.num < 0)) (h : RV w v (q.num.natAbs * 6) L) (h' : RV w u (q.den * 6) L) : RQ w s v u q L := by
  subst hs
  refine ⟨q.num * 6, q.den * 6, ⟨_, h, ?_⟩, h', ?_⟩
  · have h1 := sg_self q.num
    generalize decide (q.num < 0) = t at h1 ⊢
    cases t
    · rw [sg_false] at h1 ⊢; omega
    · rw [sg_true] at h1 ⊢; omega
  · rw [show q.num * 6 = q.num * ((6 : Nat) : Int) from rfl, Rat.mkRat_mul_right (by decide)]; exact (Rat.mkRat_self q).symm
theorem rq_zero (w : World) : RQ w false (.slice none 0 0) (.slice none 0 0) 0 6 := ⟨0, 0, ⟨0, (slice_nil w (L := 6)).rv, rfl⟩, (slice_nil w (L := 6)).rv, (Rat.mkRat_zero 0).symm⟩
set_option maxRecDepth 100000 in
set_option maxHeartbeats 16000000 in
theorem rough_v {b : Nat} (hT : Tape w b) (hb : b < w.heap.size) :
    Calls Tryz.prog 5 #[.pointer (some ⟨b, 0, none⟩)] w fun e w' => ∃ q q', ∃ s8 A8 n8 c8 D8 m8 e8 s9 A9 n9 c9 D9 m9 e9, e = .returned (.agg #[.bool s8, .slice A8 n8 c8, .slice D8 m8 e8, .bool s9, .slice A9 n9 c9, .slice D9 m9 e9]) ∧ RQ w' s8 (.slice A8 n8 c8) (.slice D8 m8 e8) q 6 ∧ RQ w' s9 (.slice A9 n9 c9) (.slice D9 m9 e9) q' 6 ∧ Tape w' b ∧ w.grownBy w' (some b) := by
  go_enter Tryz.func5, Tryz.ntmps5
  go_wp2_with fail
  have G0 : w.grownBy w (some b) := ⟨rfl, rfl, rfl, Nat.le_refl _, fun _ _ _ => rfl⟩
  have hlt := hb
  obtain ⟨W0, hW, b9, hbW, hszW0⟩ := boxes1 w #[.bool false, .slice none 0 0, .slice none 0 0, .bool false, .slice none 0 0, .slice none 0 0] 31
  rw [hW]
  clear hW
  replace hT := hT.keep hbW hlt
  replace hlt := Nat.lt_of_lt_of_le hlt hbW.size
  replace G0 := only_below G0 hbW G0.size
  clear hbW
  refine (tpoint_v hT hlt).mono ?_
  rintro e w1 ⟨q0, q1, s0, A0, n0, c0, D0, m0, e0, s1, A1, n1, c1, D1, m1, e1, rfl, g0, g1, hT', hg⟩
  replace b9 := b9.other hg (by omega)
  replace hlt := Nat.lt_of_lt_of_le hlt hg.size
  replace G0 := only_trans G0 hg
  clear hT
  have hT := hT'
  clear hT' hg
  go_wp2_with fail
  refine (gtop_v g0 g1 (by omega)).mono ?_
  rintro e w2 ⟨s2, A2, n2, c2, D2, m2, e2, s3, A3, n3, c3, D3, m3, e3, rfl, g2, g3, hb⟩
  replace g0 := g0.below hb
  replace g1 := g1.below hb
  replace b9 := b9.below hb
  replace hT := hT.keep hb hlt
  replace hlt := Nat.lt_of_lt_of_le hlt hb.size
  replace G0 := only_below G0 hb G0.size
  clear hb
  clear g0
  clear g1
  have lb9_3 := b9.lt
  obtain ⟨W3, hW, b0, hbW, hszW3⟩ := boxes1 w2 #[.bool s2, .slice A2 n2 c2, .slice D2 m2 e2, .bool s3, .slice A3 n3 c3, .slice D3 m3 e3] 31
  skip
  skip
  replace g2 := g2.below hbW
  replace g3 := g3.below hbW
  replace b9 := b9.below hbW
  replace hT := hT.keep hbW hlt
  replace hlt := Nat.lt_of_lt_of_le hlt hbW.size
  replace G0 := only_below G0 hbW G0.size
  clear hbW
  go_wp2_with fail
  clear hW
  refine (next_any 2 (by omega) (by omega) hT).mono ?_
  rintro e w4 ⟨r, rfl, hr, hT', hg⟩
  replace g2 := g2.tape hT hg
  replace g3 := g3.tape hT hg
  replace b9 := b9.other hg (by omega)
  replace b0 := b0.other hg (by omega)
  replace hlt := Nat.lt_of_lt_of_le hlt hg.size
  replace G0 := only_trans G0 hg
  clear hT
  have hT := hT'
  clear hT' hg
  go_upto_if 9 with fail
  have lt0 := b0.lt
  have lt9 := b9.lt
  have h09 : w.heap.size < w2.heap.size := by omega
  go_cut [3] from 4 (fun s_3 wx => ∃ g s8 A8 n8 c8 D8 m8 e8, s_3 = .pointer (some ⟨g, 0, none⟩) ∧ Box wx g #[.bool s8, .slice A8 n8 c8, .slice D8 m8 e8, .bool s3, .slice A3 n3 c3, .slice D3 m3 e3] 31 ∧ RQ wx s8 (.slice A8 n8 c8) (.slice D8 m8 e8) q0 6 ∧ RQ wx s3 (.slice A3 n3 c3) (.slice D3 m3 e3) q1 6 ∧ Box wx w.heap.size #[.bool false, .slice none 0 0, .slice none 0 0, .bool false, .slice none 0 0, .slice none 0 0] 31 ∧ Tape wx b ∧ w.grownBy wx (some b) ∧ b < wx.heap.size ∧ w.heap.size < g)
  case first =>
    generalize ((r : Int) == 0) = br
    rcases (show br = true ∨ br = false by cases br <;> simp) with rfl | rfl
    · go_wp2_with fail
      have gd := g2.2
      have ga := g2.1.1
      have HS2 := Lib.hid g2.1.2
      have lcb9_5 := b9.lt
      have lcb0_5 := b0.lt
      have hG := drawn_below w4
      refine wp_region_noPanic ?_
      refine wp_region_anyd (by kernel_rfl) ?_
      generalize w4.drew = v5 at hG ⊢
      refine wpAny_take (i := 0) (v := ?_) rfl (by kernel_rfl) (by kernel_rfl) (by kernel_rfl) (fun _ _ _ h => h) (Or.inl ⟨by rfl, ?_⟩) ?_
      rotate_left
      · (intro w; go_simp; (try with_reducible rfl))
      (try simp only [List.getElem_toArray, List.getElem_cons_zero, Act.put, List.setIfInBounds_toArray, List.set_cons_zero, List.set_cons_succ])
      refine wpAny_take (i := 1) (v := ?_) rfl (by kernel_rfl) (by kernel_rfl) (by kernel_rfl) (fun _ _ _ h => h) (Or.inl ⟨by rfl, ?_⟩) ?_
      rotate_left
      · (intro w; go_simp; (try with_reducible rfl))
      (try simp only [List.getElem_toArray, List.getElem_cons_succ, List.getElem_cons_zero, Act.put, List.setIfInBounds_toArray, List.set_cons_zero, List.set_cons_succ])
      refine wpAny_take (i := 7) (v := ?_) rfl (by kernel_rfl) (by kernel_rfl) (by kernel_rfl) (fun _ _ _ h => h) (Or.inl ⟨by rfl, ?_⟩) ?_
      rotate_left
      · (intro w; go_simp; (try with_reducible rfl))
      (try simp only [List.getElem_toArray, List.getElem_cons_succ, List.getElem_cons_zero, Act.put, List.setIfInBounds_toArray, List.set_cons_zero, List.set_cons_succ])
      refine wpAny_take (i := 8) (v := ?_) rfl (by kernel_rfl) (by kernel_rfl) (by kernel_rfl) (fun _ _ _ h => h) (Or.inl ⟨by rfl, ?_⟩) ?_
      rotate_left
      · (intro w; go_simp; (try with_reducible rfl))
      (try simp only [List.getElem_toArray, List.getElem_cons_succ, List.getElem_cons_zero, Act.put, List.setIfInBounds_toArray, List.set_cons_zero, List.set_cons_succ])
      refine wpAny_take (i := 9) (v := ?_) rfl (by kernel_rfl) (by kernel_rfl) (by kernel_rfl) (fun _ _ _ h => h) (Or.inl ⟨by rfl, ?_⟩) ?_
      rotate_left
      · (intro w; go_simp; (try with_reducible rfl))
      (try simp only [List.getElem_toArray, List.getElem_cons_succ, List.getElem_cons_zero, Act.put, List.setIfInBounds_toArray, List.set_cons_zero, List.set_cons_succ])
      refine wpAny_of_F (S := (fun V => V.cell? ⟨w2.heap.size, 0, none⟩ = some (.bool s2) ∧ V.cell? ⟨w2.heap.size, 1, none⟩ = some (.slice A2 n2 c2) ∧ V.cell? ⟨w2.heap.size, 2, none⟩ = some (.slice D2 m2 e2) ∧ V.cell? ⟨w2.heap.size, 3, none⟩ = some (.bool s3) ∧ V.cell? ⟨w2.heap.size, 4, none⟩ = some (.slice A3 n3 c3) ∧ V.cell? ⟨w2.heap.size, 5, none⟩ = some (.slice D3 m3 e3))) (F := (fun j => j == 17 || j == 21)) _ _ _ _ ?_
      refine wpAnyF_take (i := 2) (v := ?_) (fun j => j == 3 || j == 5 || j == 6 || j == 11 || j == 13 || j == 14 || j == 15 || j == 16 || j == 17 || j == 18 || j == 19 || j == 20 || j == 21) rfl (by kernel_rfl) (by kernel_rfl) (by kernel_rfl) (by kernel_rfl) (fun j hj => by have h6 : 22 ≤ j := hj; simp; omega) (fun _ _ _ h => h) (Or.inl ⟨by rfl, ?_⟩) ⟨(b0.below hG).cell 0 _ rfl, (b0.below hG).cell 1 _ rfl, (b0.below hG).cell 2 _ rfl, (b0.below hG).cell 3 _ rfl, (b0.below hG).cell 4 _ rfl, (b0.below hG).cell 5 _ rfl⟩ ?_
      rotate_left
      · (intro w hSw; (try dsimp only at hSw); go_simp; (try with_reducible rfl))
      (try simp only [List.getElem_toArray, List.getElem_cons_succ, List.getElem_cons_zero, Act.put, List.setIfInBounds_toArray, List.set_cons_zero, List.set_cons_succ])
      refine wpAnyF_take (i := 10) (v := ?_) (fun j => j == 11 || j == 13 || j == 14 || j == 15 || j == 16 || j == 17 || j == 18 || j == 19 || j == 20 || j == 21) rfl (by kernel_rfl) (by kernel_rfl) (by kernel_rfl) (by kernel_rfl) (fun j hj => by have h6 : 22 ≤ j := hj; simp; omega) (fun _ _ _ h => h) (Or.inl ⟨by rfl, ?_⟩) ⟨(b0.below hG).cell 0 _ rfl, (b0.below hG).cell 1 _ rfl, (b0.below hG).cell 2 _ rfl, (b0.below hG).cell 3 _ rfl, (b0.below hG).cell 4 _ rfl, (b0.below hG).cell 5 _ rfl⟩ ?_
      rotate_left
      · (intro w hSw; (try dsimp only at hSw); go_simp; (try with_reducible rfl))
      (try simp only [List.getElem_toArray, List.getElem_cons_succ, List.getElem_cons_zero, Act.put, List.setIfInBounds_toArray, List.set_cons_zero, List.set_cons_succ])
      refine wpAnyF_name (n' := 15) (l' := #[true, true, true, false, false, false, false, true, true, true, true, false, false, false, false, false, false, false, false, false, false, false]) (by kernel_rfl) (by kernel_rfl) (fun A0 hA => ?_)
      refine wpAnyF_phase (rs := [3, 4, 5, 6, 11, 12, 13, 14, 15, 16]) (full := #[true, true, true, true, true, true, true, true, true, true, true, true, true, true, true, true, true, false, false, false, false, false]) (states := [#[true, true, true, false, false, false, false, true, true, true, true, false, false, false, false, false, false, false, false, false, false, false], #[true, true, true, true, false, false, false, true, true, true, true, false, false, false, false, false, false, false, false, false, false, false], #[true, true, true, false, true, false, false, true, true, true, true, false, false, false, false, false, false, false, false, false, false, false], #[true, true, true, false, false, false, false, true, true, true, true, false, true, false, false, false, false, false, false, false, false, false], #[true, true, true, true, false, false, false, true, true, true, true, false, true, false, false, false, false, false, false, false, false, false], #[true, true, true, false, true, false, false, true, true, true, true, false, true, false, false, false, false, false, false, false, false, false], #[true, true, true, true, true, false, false, true, true, true, true, false, true, false, false, false, false, false, false, false, false, false], #[true, true, true, true, true, true, false, true, true, true, true, false, true, false, false, false, false, false, false, false, false, false], #[true, true, true, true, true, true, true, true, true, true, true, false, true, false, false, false, false, false, false, false, false, false], #[true, true, true, true, true, true, true, true, true, true, true, true, true, false, false, false, false, false, false, false, false, false], #[true, true, true, true, true, true, true, true, true, true, true, false, true, false, false, true, false, false, false, false, false, false], #[true, true, true, true, true, true, true, true, true, true, true, true, true, false, false, true, false, false, false, false, false, false], #[true, true, true, true, true, true, true, true, true, true, true, false, true, false, false, true, true, false, false, false, false, false], #[true, true, true, true, true, true, true, true, true, true, true, true, true, false, false, true, true, false, false, false, false, false], #[true, true, true, true, true, true, true, true, true, true, true, true, true, true, false, true, true, false, false, false, false, false], #[true, true, true, true, true, true, true, true, true, true, true, true, true, true, true, true, true, false, false, false, false, false], #[true, true, true, true, true, true, true, true, true, true, true, true, true, true, false, true, false, false, false, false, false, false], #[true, true, true, true, true, true, true, true, true, true, true, true, true, true, true, true, false, false, false, false, false, false], #[true, true, true, true, true, true, true, true, true, true, true, true, true, true, false, false, false, false, false, false, false, false], #[true, true, true, true, true, true, true, true, true, true, true, true, true, true, true, false, false, false, false, false, false, false], #[true, true, true, true, true, false, false, true, true, true, true, false, false, false, false, false, false, false, false, false, false, false], #[true, true, true, true, true, true, false, true, true, true, true, false, false, false, false, false, false, false, false, false, false, false], #[true, true, true, true, true, true, true, true, true, true, true, false, false, false, false, false, false, false, false, false, false, false], #[true, true, true, true, true, true, true, true, true, true, true, true, false, false, false, false, false, false, false, false, false, false], #[true, true, true, true, true, true, true, true, true, true, true, false, false, false, false, true, false, false, false, false, false, false], #[true, true, true, true, true, true, true, true, true, true, true, true, false, false, false, true, false, false, false, false, false, false], #[true, true, true, true, true, true, true, true, true, true, true, false, false, false, false, true, true, false, false, false, false, false], #[true, true, true, true, true, true, true, true, true, true, true, true, false, false, false, true, true, false, false, false, false, false]]) (k := 5) (I := fun listed a w => ∃ (y3_ y4_ y5_ y6_ y11_ y12_ y13_ y14_ y15_ y16_ : Value), a = ((((((((((A0.put (some 13) y3_).put (some 14) y4_).put (some 15) y5_).put (some 16) y6_).put (some 21) y11_).put (some 22) y12_).put (some 23) y13_).put (some 24) y14_).put (some 25) y15_).put (some 26) y16_) ∧ Below w4.heap.size w4 w ∧ (listed.getD 3 false = true → ∃ A10 n10 c10, y3_ = .slice A10 n10 c10 ∧ NV w (.slice A10 n10 c10) q0.den 2) ∧ (listed.getD 4 false = true → ∃ g11, y4_ = .slice (some ⟨g11, 0, none⟩) 1 1 ∧ NV w (.slice (some ⟨g11, 0, none⟩) 1 1) 6 1) ∧ (listed.getD 5 false = true → ∃ A12 n12 c12, y5_ = .slice A12 n12 c12 ∧ NV w (.slice A12 n12 c12) (q0.den * 6) 3) ∧ (listed.getD 6 false = true → ∃ A13 n13 c13, y6_ = .slice A13 n13 c13 ∧ RV w (.slice A13 n13 c13) (q0.den * 6) 5) ∧ (listed.getD 11 false = true → ∃ A14 n14 c14, y11_ = .slice A14 n14 c14 ∧ NV w (.slice A14 n14 c14) q0.num.natAbs 2) ∧ (listed.getD 12 false = true → ∃ g15, y12_ = .slice (some ⟨g15, 0, none⟩) 1 1 ∧ NV w (.slice (some ⟨g15, 0, none⟩) 1 1) 6 1) ∧ (listed.getD 13 false = true → ∃ A16 n16 c16, y13_ = .slice A16 n16 c16 ∧ NV w (.slice A16 n16 c16) (q0.num.natAbs * 6) 3) ∧ (listed.getD 14 false = true → ∃ A17 n17 c17, y14_ = .slice A17 n17 c17 ∧ RV w (.slice A17 n17 c17) (q0.num.natAbs * 6) 5) ∧ (listed.getD 15 false = true → y15_ = .pointer (some ⟨w2.heap.size, 0, none⟩)) ∧ (listed.getD 16 false = true → y16_ = .pointer (some ⟨w2.heap.size, 2, none⟩))) (by kernel_rfl) (by kernel_rfl) ?_ ?_ _ _ _ _ (by kernel_rfl) (by kernel_rfl) ⟨undef, undef, undef, undef, undef, undef, undef, undef, undef, undef, by subst hA; kernel_rfl, hG, fun h => (by cases h), fun h => (by cases h), fun h => (by cases h), fun h => (by cases h), fun h => (by cases h), fun h => (by cases h), fun h => (by cases h), fun h => (by cases h), fun h => (by cases h), fun h => (by cases h)⟩
      · refine (AllStepsF.cons (i := 3) (o := _) rfl rfl ?_ (AllStepsF.cons (i := 4) (o := _) rfl rfl ?_ (AllStepsF.cons (i := 5) (o := _) rfl rfl ?_ (AllStepsF.cons (i := 6) (o := _) rfl rfl ?_ (AllStepsF.cons (i := 11) (o := _) rfl rfl ?_ (AllStepsF.cons (i := 12) (o := _) rfl rfl ?_ (AllStepsF.cons (i := 13) (o := _) rfl rfl ?_ (AllStepsF.cons (i := 14) (o := _) rfl rfl ?_ (AllStepsF.cons (i := 15) (o := _) rfl rfl ?_ (AllStepsF.cons (i := 16) (o := _) rfl rfl ?_ AllStepsF.nil))))))))))
        · rintro listed a wx ⟨y3_, y4_, y5_, y6_, y11_, y12_, y13_, y14_, y15_, y16_, rfl, hG, H3_, H4_, H5_, H6_, H11_, H12_, H13_, H14_, H15_, H16_⟩ hi K hK
          subst hA
          (try simp only [Act.put, List.setIfInBounds_toArray, List.set_cons_zero, List.set_cons_succ])
          go_simp
          go_at_call 23
          refine (n_v (gd.below hG).rv).mono ?_
          rintro e X ⟨A10, n10, c10, rfl, f10, hb9⟩
          go_wp2_with fail
          have hG9 := hG.trans (hb9.mono hG.size)
          refine hK.out _ _ ⟨(b0.below hG9).cell 0 _ rfl, (b0.below hG9).cell 1 _ rfl, (b0.below hG9).cell 2 _ rfl, (b0.below hG9).cell 3 _ rfl, (b0.below hG9).cell 4 _ rfl, (b0.below hG9).cell 5 _ rfl⟩ ?_
          clear hK K
          exact ⟨_, y4_, y5_, y6_, y11_, y12_, y13_, y14_, y15_, y16_, by kernel_rfl, hG9, fun _ => ⟨A10, n10, c10, rfl, f10⟩, fun h => by obtain ⟨g11, e_, f11'⟩ := H4_ (set_dep (by decide) h); exact ⟨g11, e_, f11'.below hb9⟩, fun h => by obtain ⟨A12, n12, c12, e_, f12'⟩ := H5_ (set_dep (by decide) h); exact ⟨A12, n12, c12, e_, f12'.below hb9⟩, fun h => by obtain ⟨A13, n13, c13, e_, f13'⟩ := H6_ (set_dep (by decide) h); exact ⟨A13, n13, c13, e_, f13'.below hb9⟩, fun h => by obtain ⟨A14, n14, c14, e_, f14'⟩ := H11_ (set_dep (by decide) h); exact ⟨A14, n14, c14, e_, f14'.below hb9⟩, fun h => by obtain ⟨g15, e_, f15'⟩ := H12_ (set_dep (by decide) h); exact ⟨g15, e_, f15'.below hb9⟩, fun h => by obtain ⟨A16, n16, c16, e_, f16'⟩ := H13_ (set_dep (by decide) h); exact ⟨A16, n16, c16, e_, f16'.below hb9⟩, fun h => by obtain ⟨A17, n17, c17, e_, f17'⟩ := H14_ (set_dep (by decide) h); exact ⟨A17, n17, c17, e_, f17'.below hb9⟩, fun h => H15_ (set_dep (by decide) h), fun h => H16_ (set_dep (by decide) h)⟩
        · rintro listed a wx ⟨y3_, y4_, y5_, y6_, y11_, y12_, y13_, y14_, y15_, y16_, rfl, hG, H3_, H4_, H5_, H6_, H11_, H12_, H13_, H14_, H15_, H16_⟩ hi K hK
          subst hA
          (try simp only [Act.put, List.setIfInBounds_toArray, List.set_cons_zero, List.set_cons_succ])
          go_simp
          obtain ⟨X, hV, f11, hb9, sz9⟩ := six_lit wx
          rw [hV]
          clear hV
          have hG9 := hG.trans (hb9.mono hG.size)
          refine hK.out _ _ ⟨(b0.below hG9).cell 0 _ rfl, (b0.below hG9).cell 1 _ rfl, (b0.below hG9).cell 2 _ rfl, (b0.below hG9).cell 3 _ rfl, (b0.below hG9).cell 4 _ rfl, (b0.below hG9).cell 5 _ rfl⟩ ?_
          clear hK K
          exact ⟨y3_, _, y5_, y6_, y11_, y12_, y13_, y14_, y15_, y16_, by kernel_rfl, hG9, fun h => by obtain ⟨A10, n10, c10, e_, f10'⟩ := H3_ (set_dep (by decide) h); exact ⟨A10, n10, c10, e_, f10'.below hb9⟩, fun _ => ⟨_, rfl, f11⟩, fun h => by obtain ⟨A12, n12, c12, e_, f12'⟩ := H5_ (set_dep (by decide) h); exact ⟨A12, n12, c12, e_, f12'.below hb9⟩, fun h => by obtain ⟨A13, n13, c13, e_, f13'⟩ := H6_ (set_dep (by decide) h); exact ⟨A13, n13, c13, e_, f13'.below hb9⟩, fun h => by obtain ⟨A14, n14, c14, e_, f14'⟩ := H11_ (set_dep (by decide) h); exact ⟨A14, n14, c14, e_, f14'.below hb9⟩, fun h => by obtain ⟨g15, e_, f15'⟩ := H12_ (set_dep (by decide) h); exact ⟨g15, e_, f15'.below hb9⟩, fun h => by obtain ⟨A16, n16, c16, e_, f16'⟩ := H13_ (set_dep (by decide) h); exact ⟨A16, n16, c16, e_, f16'.below hb9⟩, fun h => by obtain ⟨A17, n17, c17, e_, f17'⟩ := H14_ (set_dep (by decide) h); exact ⟨A17, n17, c17, e_, f17'.below hb9⟩, fun h => H15_ (set_dep (by decide) h), fun h => H16_ (set_dep (by decide) h)⟩
        · rintro listed a wx ⟨y3_, y4_, y5_, y6_, y11_, y12_, y13_, y14_, y15_, y16_, rfl, hG, H3_, H4_, H5_, H6_, H11_, H12_, H13_, H14_, H15_, H16_⟩ hi K hK
          have e3_ : listed.getD 3 false = true := ready_dep hi rfl 3 (by kernel_rfl)
          obtain ⟨A10, n10, c10, rfl, f10⟩ := H3_ e3_
          have e4_ : listed.getD 4 false = true := ready_dep hi rfl 4 (by kernel_rfl)
          obtain ⟨g11, rfl, f11⟩ := H4_ e4_
          subst hA
          (try simp only [Act.put, List.setIfInBounds_toArray, List.set_cons_zero, List.set_cons_succ])
          go_simp
          go_at_call 22
          refine (nprod_v f10 f11 (by omega) (by omega)).mono ?_
          rintro e X ⟨A12, n12, c12, rfl, f12, hb9⟩
          go_wp2_with fail
          have hG9 := hG.trans (hb9.mono hG.size)
          refine hK.out _ _ ⟨(b0.below hG9).cell 0 _ rfl, (b0.below hG9).cell 1 _ rfl, (b0.below hG9).cell 2 _ rfl, (b0.below hG9).cell 3 _ rfl, (b0.below hG9).cell 4 _ rfl, (b0.below hG9).cell 5 _ rfl⟩ ?_
          clear hK K
          exact ⟨_, _, _, y6_, y11_, y12_, y13_, y14_, y15_, y16_, by kernel_rfl, hG9, fun _ => ⟨A10, n10, c10, rfl, f10.below hb9⟩, fun _ => ⟨g11, rfl, f11.below hb9⟩, fun _ => ⟨A12, n12, c12, rfl, f12⟩, fun h => by obtain ⟨A13, n13, c13, e_, f13'⟩ := H6_ (set_dep (by decide) h); exact ⟨A13, n13, c13, e_, f13'.below hb9⟩, fun h => by obtain ⟨A14, n14, c14, e_, f14'⟩ := H11_ (set_dep (by decide) h); exact ⟨A14, n14, c14, e_, f14'.below hb9⟩, fun h => by obtain ⟨g15, e_, f15'⟩ := H12_ (set_dep (by decide) h); exact ⟨g15, e_, f15'.below hb9⟩, fun h => by obtain ⟨A16, n16, c16, e_, f16'⟩ := H13_ (set_dep (by decide) h); exact ⟨A16, n16, c16, e_, f16'.below hb9⟩, fun h => by obtain ⟨A17, n17, c17, e_, f17'⟩ := H14_ (set_dep (by decide) h); exact ⟨A17, n17, c17, e_, f17'.below hb9⟩, fun h => H15_ (set_dep (by decide) h), fun h => H16_ (set_dep (by decide) h)⟩
        · rintro listed a wx ⟨y3_, y4_, y5_, y6_, y11_, y12_, y13_, y14_, y15_, y16_, rfl, hG, H3_, H4_, H5_, H6_, H11_, H12_, H13_, H14_, H15_, H16_⟩ hi K hK
          have e5_ : listed.getD 5 false = true := ready_dep hi rfl 5 (by kernel_rfl)
          obtain ⟨A12, n12, c12, rfl, f12⟩ := H5_ e5_
          subst hA
          (try simp only [Act.put, List.setIfInBounds_toArray, List.set_cons_zero, List.set_cons_succ])
          go_simp
          go_at_call 21
          refine (nats_r f12 1 (by omega) (Nat.lt_of_lt_of_le hlt hG.size) (by omega)).mono ?_
          rintro e X ⟨A13, n13, c13, rfl, f13, hb9⟩
          go_wp2_with fail
          have hG9 := hG.trans (hb9.mono hG.size)
          refine hK.out _ _ ⟨(b0.below hG9).cell 0 _ rfl, (b0.below hG9).cell 1 _ rfl, (b0.below hG9).cell 2 _ rfl, (b0.below hG9).cell 3 _ rfl, (b0.below hG9).cell 4 _ rfl, (b0.below hG9).cell 5 _ rfl⟩ ?_
          clear hK K
          exact ⟨y3_, y4_, _, _, y11_, y12_, y13_, y14_, y15_, y16_, by kernel_rfl, hG9, fun h => by obtain ⟨A10, n10, c10, e_, f10'⟩ := H3_ (set_dep (by decide) h); exact ⟨A10, n10, c10, e_, f10'.below hb9⟩, fun h => by obtain ⟨g11, e_, f11'⟩ := H4_ (set_dep (by decide) h); exact ⟨g11, e_, f11'.below hb9⟩, fun _ => ⟨A12, n12, c12, rfl, f12.below hb9⟩, fun _ => ⟨A13, n13, c13, rfl, f13⟩, fun h => by obtain ⟨A14, n14, c14, e_, f14'⟩ := H11_ (set_dep (by decide) h); exact ⟨A14, n14, c14, e_, f14'.below hb9⟩, fun h => by obtain ⟨g15, e_, f15'⟩ := H12_ (set_dep (by decide) h); exact ⟨g15, e_, f15'.below hb9⟩, fun h => by obtain ⟨A16, n16, c16, e_, f16'⟩ := H13_ (set_dep (by decide) h); exact ⟨A16, n16, c16, e_, f16'.below hb9⟩, fun h => by obtain ⟨A17, n17, c17, e_, f17'⟩ := H14_ (set_dep (by decide) h); exact ⟨A17, n17, c17, e_, f17'.below hb9⟩, fun h => H15_ (set_dep (by decide) h), fun h => H16_ (set_dep (by decide) h)⟩
        · rintro listed a wx ⟨y3_, y4_, y5_, y6_, y11_, y12_, y13_, y14_, y15_, y16_, rfl, hG, H3_, H4_, H5_, H6_, H11_, H12_, H13_, H14_, H15_, H16_⟩ hi K hK
          subst hA
          (try simp only [Act.put, List.setIfInBounds_toArray, List.set_cons_zero, List.set_cons_succ])
          go_simp
          go_at_call 23
          refine (n_v (ga.below hG).rv).mono ?_
          rintro e X ⟨A14, n14, c14, rfl, f14, hb9⟩
          go_wp2_with fail
          have hG9 := hG.trans (hb9.mono hG.size)
          refine hK.out _ _ ⟨(b0.below hG9).cell 0 _ rfl, (b0.below hG9).cell 1 _ rfl, (b0.below hG9).cell 2 _ rfl, (b0.below hG9).cell 3 _ rfl, (b0.below hG9).cell 4 _ rfl, (b0.below hG9).cell 5 _ rfl⟩ ?_
          clear hK K
          exact ⟨y3_, y4_, y5_, y6_, _, y12_, y13_, y14_, y15_, y16_, by kernel_rfl, hG9, fun h => by obtain ⟨A10, n10, c10, e_, f10'⟩ := H3_ (set_dep (by decide) h); exact ⟨A10, n10, c10, e_, f10'.below hb9⟩, fun h => by obtain ⟨g11, e_, f11'⟩ := H4_ (set_dep (by decide) h); exact ⟨g11, e_, f11'.below hb9⟩, fun h => by obtain ⟨A12, n12, c12, e_, f12'⟩ := H5_ (set_dep (by decide) h); exact ⟨A12, n12, c12, e_, f12'.below hb9⟩, fun h => by obtain ⟨A13, n13, c13, e_, f13'⟩ := H6_ (set_dep (by decide) h); exact ⟨A13, n13, c13, e_, f13'.below hb9⟩, fun _ => ⟨A14, n14, c14, rfl, f14⟩, fun h => by obtain ⟨g15, e_, f15'⟩ := H12_ (set_dep (by decide) h); exact ⟨g15, e_, f15'.below hb9⟩, fun h => by obtain ⟨A16, n16, c16, e_, f16'⟩ := H13_ (set_dep (by decide) h); exact ⟨A16, n16, c16, e_, f16'.below hb9⟩, fun h => by obtain ⟨A17, n17, c17, e_, f17'⟩ := H14_ (set_dep (by decide) h); exact ⟨A17, n17, c17, e_, f17'.below hb9⟩, fun h => H15_ (set_dep (by decide) h), fun h => H16_ (set_dep (by decide) h)⟩
        · rintro listed a wx ⟨y3_, y4_, y5_, y6_, y11_, y12_, y13_, y14_, y15_, y16_, rfl, hG, H3_, H4_, H5_, H6_, H11_, H12_, H13_, H14_, H15_, H16_⟩ hi K hK
          subst hA
          (try simp only [Act.put, List.setIfInBounds_toArray, List.set_cons_zero, List.set_cons_succ])
          go_simp
          obtain ⟨X, hV, f15, hb9, sz9⟩ := six_lit wx
          rw [hV]
          clear hV
          have hG9 := hG.trans (hb9.mono hG.size)
          refine hK.out _ _ ⟨(b0.below hG9).cell 0 _ rfl, (b0.below hG9).cell 1 _ rfl, (b0.below hG9).cell 2 _ rfl, (b0.below hG9).cell 3 _ rfl, (b0.below hG9).cell 4 _ rfl, (b0.below hG9).cell 5 _ rfl⟩ ?_
          clear hK K
          exact ⟨y3_, y4_, y5_, y6_, y11_, _, y13_, y14_, y15_, y16_, by kernel_rfl, hG9, fun h => by obtain ⟨A10, n10, c10, e_, f10'⟩ := H3_ (set_dep (by decide) h); exact ⟨A10, n10, c10, e_, f10'.below hb9⟩, fun h => by obtain ⟨g11, e_, f11'⟩ := H4_ (set_dep (by decide) h); exact ⟨g11, e_, f11'.below hb9⟩, fun h => by obtain ⟨A12, n12, c12, e_, f12'⟩ := H5_ (set_dep (by decide) h); exact ⟨A12, n12, c12, e_, f12'.below hb9⟩, fun h => by obtain ⟨A13, n13, c13, e_, f13'⟩ := H6_ (set_dep (by decide) h); exact ⟨A13, n13, c13, e_, f13'.below hb9⟩, fun h => by obtain ⟨A14, n14, c14, e_, f14'⟩ := H11_ (set_dep (by decide) h); exact ⟨A14, n14, c14, e_, f14'.below hb9⟩, fun _ => ⟨_, rfl, f15⟩, fun h => by obtain ⟨A16, n16, c16, e_, f16'⟩ := H13_ (set_dep (by decide) h); exact ⟨A16, n16, c16, e_, f16'.below hb9⟩, fun h => by obtain ⟨A17, n17, c17, e_, f17'⟩ := H14_ (set_dep (by decide) h); exact ⟨A17, n17, c17, e_, f17'.below hb9⟩, fun h => H15_ (set_dep (by decide) h), fun h => H16_ (set_dep (by decide) h)⟩
        · rintro listed a wx ⟨y3_, y4_, y5_, y6_, y11_, y12_, y13_, y14_, y15_, y16_, rfl, hG, H3_, H4_, H5_, H6_, H11_, H12_, H13_, H14_, H15_, H16_⟩ hi K hK
          have e11_ : listed.getD 11 false = true := ready_dep hi rfl 11 (by kernel_rfl)
          obtain ⟨A14, n14, c14, rfl, f14⟩ := H11_ e11_
          have e12_ : listed.getD 12 false = true := ready_dep hi rfl 12 (by kernel_rfl)
          obtain ⟨g15, rfl, f15⟩ := H12_ e12_
          subst hA
          (try simp only [Act.put, List.setIfInBounds_toArray, List.set_cons_zero, List.set_cons_succ])
          go_simp
          go_at_call 22
          refine (nprod_v f14 f15 (by omega) (by omega)).mono ?_
          rintro e X ⟨A16, n16, c16, rfl, f16, hb9⟩
          go_wp2_with fail
          have hG9 := hG.trans (hb9.mono hG.size)
          refine hK.out _ _ ⟨(b0.below hG9).cell 0 _ rfl, (b0.below hG9).cell 1 _ rfl, (b0.below hG9).cell 2 _ rfl, (b0.below hG9).cell 3 _ rfl, (b0.below hG9).cell 4 _ rfl, (b0.below hG9).cell 5 _ rfl⟩ ?_
          clear hK K
          exact ⟨y3_, y4_, y5_, y6_, _, _, _, y14_, y15_, y16_, by kernel_rfl, hG9, fun h => by obtain ⟨A10, n10, c10, e_, f10'⟩ := H3_ (set_dep (by decide) h); exact ⟨A10, n10, c10, e_, f10'.below hb9⟩, fun h => by obtain ⟨g11, e_, f11'⟩ := H4_ (set_dep (by decide) h); exact ⟨g11, e_, f11'.below hb9⟩, fun h => by obtain ⟨A12, n12, c12, e_, f12'⟩ := H5_ (set_dep (by decide) h); exact ⟨A12, n12, c12, e_, f12'.below hb9⟩, fun h => by obtain ⟨A13, n13, c13, e_, f13'⟩ := H6_ (set_dep (by decide) h); exact ⟨A13, n13, c13, e_, f13'.below hb9⟩, fun _ => ⟨A14, n14, c14, rfl, f14.below hb9⟩, fun _ => ⟨g15, rfl, f15.below hb9⟩, fun _ => ⟨A16, n16, c16, rfl, f16⟩, fun h => by obtain ⟨A17, n17, c17, e_, f17'⟩ := H14_ (set_dep (by decide) h); exact ⟨A17, n17, c17, e_, f17'.below hb9⟩, fun h => H15_ (set_dep (by decide) h), fun h => H16_ (set_dep (by decide) h)⟩
        · rintro listed a wx ⟨y3_, y4_, y5_, y6_, y11_, y12_, y13_, y14_, y15_, y16_, rfl, hG, H3_, H4_, H5_, H6_, H11_, H12_, H13_, H14_, H15_, H16_⟩ hi K hK
          have e13_ : listed.getD 13 false = true := ready_dep hi rfl 13 (by kernel_rfl)
          obtain ⟨A16, n16, c16, rfl, f16⟩ := H13_ e13_
          subst hA
          (try simp only [Act.put, List.setIfInBounds_toArray, List.set_cons_zero, List.set_cons_succ])
          go_simp
          go_at_call 21
          refine (nats_r f16 2 (by omega) (Nat.lt_of_lt_of_le hlt hG.size) (by omega)).mono ?_
          rintro e X ⟨A17, n17, c17, rfl, f17, hb9⟩
          go_wp2_with fail
          have hG9 := hG.trans (hb9.mono hG.size)
          refine hK.out _ _ ⟨(b0.below hG9).cell 0 _ rfl, (b0.below hG9).cell 1 _ rfl, (b0.below hG9).cell 2 _ rfl, (b0.below hG9).cell 3 _ rfl, (b0.below hG9).cell 4 _ rfl, (b0.below hG9).cell 5 _ rfl⟩ ?_
          clear hK K
          exact ⟨y3_, y4_, y5_, y6_, y11_, y12_, _, _, y15_, y16_, by kernel_rfl, hG9, fun h => by obtain ⟨A10, n10, c10, e_, f10'⟩ := H3_ (set_dep (by decide) h); exact ⟨A10, n10, c10, e_, f10'.below hb9⟩, fun h => by obtain ⟨g11, e_, f11'⟩ := H4_ (set_dep (by decide) h); exact ⟨g11, e_, f11'.below hb9⟩, fun h => by obtain ⟨A12, n12, c12, e_, f12'⟩ := H5_ (set_dep (by decide) h); exact ⟨A12, n12, c12, e_, f12'.below hb9⟩, fun h => by obtain ⟨A13, n13, c13, e_, f13'⟩ := H6_ (set_dep (by decide) h); exact ⟨A13, n13, c13, e_, f13'.below hb9⟩, fun h => by obtain ⟨A14, n14, c14, e_, f14'⟩ := H11_ (set_dep (by decide) h); exact ⟨A14, n14, c14, e_, f14'.below hb9⟩, fun h => by obtain ⟨g15, e_, f15'⟩ := H12_ (set_dep (by decide) h); exact ⟨g15, e_, f15'.below hb9⟩, fun _ => ⟨A16, n16, c16, rfl, f16.below hb9⟩, fun _ => ⟨A17, n17, c17, rfl, f17⟩, fun h => H15_ (set_dep (by decide) h), fun h => H16_ (set_dep (by decide) h)⟩
        · rintro listed a wx ⟨y3_, y4_, y5_, y6_, y11_, y12_, y13_, y14_, y15_, y16_, rfl, hG, H3_, H4_, H5_, H6_, H11_, H12_, H13_, H14_, H15_, H16_⟩ hi K hK
          subst hA
          (try simp only [Act.put, List.setIfInBounds_toArray, List.set_cons_zero, List.set_cons_succ])
          go_simp
          have hb9 := Below.refl wx.heap.size wx
          have hG9 := hG.trans (hb9.mono hG.size)
          refine hK.out _ _ ⟨(b0.below hG9).cell 0 _ rfl, (b0.below hG9).cell 1 _ rfl, (b0.below hG9).cell 2 _ rfl, (b0.below hG9).cell 3 _ rfl, (b0.below hG9).cell 4 _ rfl, (b0.below hG9).cell 5 _ rfl⟩ ?_
          clear hK K
          exact ⟨y3_, y4_, y5_, y6_, y11_, y12_, y13_, y14_, _, y16_, by kernel_rfl, hG9, fun h => by obtain ⟨A10, n10, c10, e_, f10'⟩ := H3_ (set_dep (by decide) h); exact ⟨A10, n10, c10, e_, f10'.below hb9⟩, fun h => by obtain ⟨g11, e_, f11'⟩ := H4_ (set_dep (by decide) h); exact ⟨g11, e_, f11'.below hb9⟩, fun h => by obtain ⟨A12, n12, c12, e_, f12'⟩ := H5_ (set_dep (by decide) h); exact ⟨A12, n12, c12, e_, f12'.below hb9⟩, fun h => by obtain ⟨A13, n13, c13, e_, f13'⟩ := H6_ (set_dep (by decide) h); exact ⟨A13, n13, c13, e_, f13'.below hb9⟩, fun h => by obtain ⟨A14, n14, c14, e_, f14'⟩ := H11_ (set_dep (by decide) h); exact ⟨A14, n14, c14, e_, f14'.below hb9⟩, fun h => by obtain ⟨g15, e_, f15'⟩ := H12_ (set_dep (by decide) h); exact ⟨g15, e_, f15'.below hb9⟩, fun h => by obtain ⟨A16, n16, c16, e_, f16'⟩ := H13_ (set_dep (by decide) h); exact ⟨A16, n16, c16, e_, f16'.below hb9⟩, fun h => by obtain ⟨A17, n17, c17, e_, f17'⟩ := H14_ (set_dep (by decide) h); exact ⟨A17, n17, c17, e_, f17'.below hb9⟩, fun _ => rfl, fun h => H16_ (set_dep (by decide) h)⟩
        · rintro listed a wx ⟨y3_, y4_, y5_, y6_, y11_, y12_, y13_, y14_, y15_, y16_, rfl, hG, H3_, H4_, H5_, H6_, H11_, H12_, H13_, H14_, H15_, H16_⟩ hi K hK
          have e15_ : listed.getD 15 false = true := ready_dep hi rfl 15 (by kernel_rfl)
          obtain rfl := H15_ e15_
          subst hA
          (try simp only [Act.put, List.setIfInBounds_toArray, List.set_cons_zero, List.set_cons_succ])
          go_simp
          have hb9 := Below.refl wx.heap.size wx
          have hG9 := hG.trans (hb9.mono hG.size)
          refine hK.out _ _ ⟨(b0.below hG9).cell 0 _ rfl, (b0.below hG9).cell 1 _ rfl, (b0.below hG9).cell 2 _ rfl, (b0.below hG9).cell 3 _ rfl, (b0.below hG9).cell 4 _ rfl, (b0.below hG9).cell 5 _ rfl⟩ ?_
          clear hK K
          exact ⟨y3_, y4_, y5_, y6_, y11_, y12_, y13_, y14_, _, _, by kernel_rfl, hG9, fun h => by obtain ⟨A10, n10, c10, e_, f10'⟩ := H3_ (set_dep (by decide) h); exact ⟨A10, n10, c10, e_, f10'.below hb9⟩, fun h => by obtain ⟨g11, e_, f11'⟩ := H4_ (set_dep (by decide) h); exact ⟨g11, e_, f11'.below hb9⟩, fun h => by obtain ⟨A12, n12, c12, e_, f12'⟩ := H5_ (set_dep (by decide) h); exact ⟨A12, n12, c12, e_, f12'.below hb9⟩, fun h => by obtain ⟨A13, n13, c13, e_, f13'⟩ := H6_ (set_dep (by decide) h); exact ⟨A13, n13, c13, e_, f13'.below hb9⟩, fun h => by obtain ⟨A14, n14, c14, e_, f14'⟩ := H11_ (set_dep (by decide) h); exact ⟨A14, n14, c14, e_, f14'.below hb9⟩, fun h => by obtain ⟨g15, e_, f15'⟩ := H12_ (set_dep (by decide) h); exact ⟨g15, e_, f15'.below hb9⟩, fun h => by obtain ⟨A16, n16, c16, e_, f16'⟩ := H13_ (set_dep (by decide) h); exact ⟨A16, n16, c16, e_, f16'.below hb9⟩, fun h => by obtain ⟨A17, n17, c17, e_, f17'⟩ := H14_ (set_dep (by decide) h); exact ⟨A17, n17, c17, e_, f17'.below hb9⟩, fun _ => rfl, fun _ => rfl⟩
      · rintro a wf ⟨y3_, y4_, y5_, y6_, y11_, y12_, y13_, y14_, y15_, y16_, rfl, hG, H3_, H4_, H5_, H6_, H11_, H12_, H13_, H14_, H15_, H16_⟩
        obtain ⟨A10, n10, c10, rfl, f10⟩ := H3_ rfl
        obtain ⟨g11, rfl, f11⟩ := H4_ rfl
        obtain ⟨A12, n12, c12, rfl, f12⟩ := H5_ rfl
        obtain ⟨A13, n13, c13, rfl, f13⟩ := H6_ rfl
        obtain ⟨A14, n14, c14, rfl, f14⟩ := H11_ rfl
        obtain ⟨g15, rfl, f15⟩ := H12_ rfl
        obtain ⟨A16, n16, c16, rfl, f16⟩ := H13_ rfl
        obtain ⟨A17, n17, c17, rfl, f17⟩ := H14_ rfl
        obtain rfl := H15_ rfl
        obtain rfl := H16_ rfl
        subst hA
        (try simp only [Act.put, List.setIfInBounds_toArray, List.set_cons_zero, List.set_cons_succ])
        have f2 := f17
        clear f17
        clear f10 f11 f12 f14 f15 f16 gd ga g2
        replace g3 := g3.below hG
        replace b9 := b9.below hG
        replace b0 := b0.below hG
        replace hT := hT.keep hG hlt
        replace hlt := Nat.lt_of_lt_of_le hlt hG.size
        replace G0 := only_below G0 hG G0.size
        clear hG
        have cb00 := b0.cell 0 _ rfl
        have yb00 := b0.frozen 0
        have cb01 := b0.cell 1 _ rfl
        have yb01 := b0.frozen 1
        have cb02 := b0.cell 2 _ rfl
        have yb02 := b0.frozen 2
        have cb03 := b0.cell 3 _ rfl
        have yb03 := b0.frozen 3
        have cb04 := b0.cell 4 _ rfl
        have yb04 := b0.frozen 4
        have cb05 := b0.cell 5 _ rfl
        have yb05 := b0.frozen 5
        refine wpAnyF_last (i := 17) (by kernel_rfl) rfl rfl (fun K hK => ?_)
        go_simp
        refine hK.out _ _ ?_
        clear hK K
        (try simp only [List.setIfInBounds_toArray, List.set_cons_zero, List.set_cons_succ])
        clear cb00 yb00 cb01 yb01 cb02 yb02 cb03 yb03 cb04 yb04 cb05 yb05
        have hg : wf.grownBy (wf.setCell ⟨w2.heap.size, 2, none⟩ (.slice A13 n13 c13)) (some (w2.heap.size)) := only_setCell wf ⟨w2.heap.size, 2, none⟩ (.slice A13 n13 c13)
        have hB := b0.put2 (.slice A13 n13 c13)
        generalize hX : wf.setCell ⟨w2.heap.size, 2, none⟩ (.slice A13 n13 c13) = X6 at hg hB ⊢
        clear hX
        replace g3 := g3.kept b0 (by simp [notInt]) hg
        replace f2 := f2.kept b0 (by simp [notInt]) hg
        replace f13 := f13.kept b0 (by simp [notInt]) hg
        replace b9 := b9.other hg (by omega)
        replace b0 := hB
        have hBs := below_only (Below.refl w.heap.size wf) hg (by omega) G0.size
        replace hT := hT.keep hBs hb
        replace G0 := only_below G0 hBs (Nat.le_refl _)
        replace hlt := Nat.lt_of_lt_of_le hlt hg.size
        clear hg hB hBs
        refine wpAny_take (i := 18) (v := ?_) rfl (by kernel_rfl) (by kernel_rfl) (by kernel_rfl) (fun _ _ _ h => h) (Or.inl ⟨by rfl, ?_⟩) ?_
        rotate_left
        · (intro w; go_simp; (try with_reducible rfl))
        (try simp only [List.getElem_toArray, List.getElem_cons_succ, List.getElem_cons_zero, Act.put, List.setIfInBounds_toArray, List.set_cons_zero, List.set_cons_succ])
        refine wpAny_take (i := 19) (v := ?_) rfl (by kernel_rfl) (by kernel_rfl) (by kernel_rfl) (fun _ _ _ h => h) (Or.inl ⟨by rfl, ?_⟩) ?_
        rotate_left
        · (intro w; go_simp; (try with_reducible rfl))
        (try simp only [List.getElem_toArray, List.getElem_cons_succ, List.getElem_cons_zero, Act.put, List.setIfInBounds_toArray, List.set_cons_zero, List.set_cons_succ])
        refine wpAny_take (i := 20) (v := ?_) rfl (by kernel_rfl) (by kernel_rfl) (by kernel_rfl) (fun _ _ _ h => h) (Or.inl ⟨by rfl, ?_⟩) ?_
        rotate_left
        · (intro w; go_simp; (try with_reducible rfl))
        (try simp only [List.getElem_toArray, List.getElem_cons_succ, List.getElem_cons_zero, Act.put, List.setIfInBounds_toArray, List.set_cons_zero, List.set_cons_succ])
        have cb00 := b0.cell 0 _ rfl
        have yb00 := b0.frozen 0
        have cb01 := b0.cell 1 _ rfl
        have yb01 := b0.frozen 1
        have cb02 := b0.cell 2 _ rfl
        have yb02 := b0.frozen 2
        have cb03 := b0.cell 3 _ rfl
        have yb03 := b0.frozen 3
        have cb04 := b0.cell 4 _ rfl
        have yb04 := b0.frozen 4
        have cb05 := b0.cell 5 _ rfl
        have yb05 := b0.frozen 5
        refine wpAny_one (i := 21) (by kernel_rfl) rfl (fun K hK => ?_)
        go_simp
        refine hK.out _ _ ?_
        clear hK K
        (try simp only [List.setIfInBounds_toArray, List.set_cons_zero, List.set_cons_succ])
        clear cb00 yb00 cb01 yb01 cb02 yb02 cb03 yb03 cb04 yb04 cb05 yb05
        have hg : X6.grownBy (X6.setCell ⟨w2.heap.size, 1, none⟩ (.slice A17 n17 c17)) (some (w2.heap.size)) := only_setCell X6 ⟨w2.heap.size, 1, none⟩ (.slice A17 n17 c17)
        have hB := b0.put1 (.slice A17 n17 c17)
        generalize hX : X6.setCell ⟨w2.heap.size, 1, none⟩ (.slice A17 n17 c17) = X7 at hg hB ⊢
        clear hX
        replace g3 := g3.kept b0 (by simp [notInt]) hg
        replace f2 := f2.kept b0 (by simp [notInt]) hg
        replace f13 := f13.kept b0 (by simp [notInt]) hg
        replace b9 := b9.other hg (by omega)
        replace b0 := hB
        have hBs := below_only (Below.refl w.heap.size X6) hg (by omega) G0.size
        replace hT := hT.keep hBs hb
        replace G0 := only_below G0 hBs (Nat.le_refl _)
        replace hlt := Nat.lt_of_lt_of_le hlt hg.size
        clear hg hB hBs
        refine wpAny_done (by kernel_rfl) ?_ _
        refine NoPanic.normal ?_
        go_wp2_with fail
        go_meet
        exact ⟨_, s2, A17, n17, c17, A13, n13, c13, rfl, b0, rough_rq HS2.out (f2.more (by omega)) (f13.more (by omega)), g3.rq.more (by omega), b9, hT, G0, hlt, h09⟩
    · go_wp2_with fail
      go_meet
      exact ⟨_, s2, A2, n2, c2, D2, m2, e2, rfl, b0, g2.rq.more (by omega), g3.rq.more (by omega), b9, hT, G0, hlt, h09⟩
  case rest =>
    clear g2 g3 b0 b9 hT G0 hlt lt0 lt9 h09
    obtain ⟨g, s8, A8, n8, c8, D8, m8, e8, rfl, b0, g8, g3, b9, hT, G0, hlt, hwg⟩ := hcut
    go_wp2_with fail
    refine (next_any 12 (by omega) (by omega) hT).mono ?_
    rintro e w200 ⟨r2, rfl, hr2, hT', hg⟩
    replace g8 := g8.tape hT hg
    replace g3 := g3.tape hT hg
    replace b9 := b9.other hg (by omega)
    replace b0 := b0.other hg (by omega)
    replace hlt := Nat.lt_of_lt_of_le hlt hg.size
    replace G0 := only_trans G0 hg
    clear hT
    have hT := hT'
    clear hT' hg
    rcases Decidable.em (r2 = 0) with h1 | h1
    · have hr0 : ((r2 : Int) == 0) = true := by rw [beq_iff_eq]; omega
      clear g3
      have cb00 := b0.cell 0 _ rfl
      have yb00 := b0.frozen 0
      have cb01 := b0.cell 1 _ rfl
      have yb01 := b0.frozen 1
      have cb02 := b0.cell 2 _ rfl
      have yb02 := b0.frozen 2
      have cb03 := b0.cell 3 _ rfl
      have yb03 := b0.frozen 3
      have cb04 := b0.cell 4 _ rfl
      have yb04 := b0.frozen 4
      have cb05 := b0.cell 5 _ rfl
      have yb05 := b0.frozen 5
      have cb90 := b9.cell 0 _ rfl
      have yb90 := b9.frozen 0
      have cb91 := b9.cell 1 _ rfl
      have yb91 := b9.frozen 1
      have cb92 := b9.cell 2 _ rfl
      have yb92 := b9.frozen 2
      have cb93 := b9.cell 3 _ rfl
      have yb93 := b9.frozen 3
      have cb94 := b9.cell 4 _ rfl
      have yb94 := b9.frozen 4
      have cb95 := b9.cell 5 _ rfl
      have yb95 := b9.frozen 5
      have nbg : w.heap.size ≠ g := by omega
      have nbg2 : g ≠ w.heap.size := by omega
      go_wp2_with fail
      clear cb00 yb00 cb01 yb01 cb02 yb02 cb03 yb03 cb04 yb04 cb05 yb05 cb90 yb90 cb91 yb91 cb92 yb92 cb93 yb93 cb94 yb94 cb95 yb95
      have hg := only_store3hi w200 g (.bool false) (.slice none 0 0) (.slice none 0 0)
      have hB := b0.stored3hi (.bool false) (.slice none 0 0) (.slice none 0 0)
      generalize hX : (((w200.setCell ⟨g, 3, none⟩ (.bool false)).setCell ⟨g, 4, none⟩ (.slice none 0 0)).setCell ⟨g, 5, none⟩ (.slice none 0 0)) = X201 at hg hB ⊢
      clear hX
      replace g8 := g8.kept b0 (by simp [notInt]) hg
      replace b9 := b9.other hg (by omega)
      replace b0 := hB
      have hBs := below_only (Below.refl w.heap.size w200) hg (by omega) G0.size
      replace hT := hT.keep hBs hb
      replace G0 := only_below G0 hBs (Nat.le_refl _)
      replace hlt := Nat.lt_of_lt_of_le hlt hg.size
      clear hg hB hBs
      have cb00 := b0.cell 0 _ rfl
      have cb01 := b0.cell 1 _ rfl
      have cb02 := b0.cell 2 _ rfl
      have cb03 := b0.cell 3 _ rfl
      have cb04 := b0.cell 4 _ rfl
      have cb05 := b0.cell 5 _ rfl
      have cb90 := b9.cell 0 _ rfl
      have yb90 := b9.frozen 0
      have cb91 := b9.cell 1 _ rfl
      have yb91 := b9.frozen 1
      have cb92 := b9.cell 2 _ rfl
      have yb92 := b9.frozen 2
      have cb93 := b9.cell 3 _ rfl
      have yb93 := b9.frozen 3
      have cb94 := b9.cell 4 _ rfl
      have yb94 := b9.frozen 4
      have cb95 := b9.cell 5 _ rfl
      have yb95 := b9.frozen 5
      clear cb00 cb01 cb02 cb03 cb04 cb05 cb90 yb90 cb91 yb91 cb92 yb92 cb93 yb93 cb94 yb94 cb95 yb95
      have hg := only_store6 X201 (w.heap.size) (.bool s8) (.slice A8 n8 c8) (.slice D8 m8 e8) (.bool false) (.slice none 0 0) (.slice none 0 0)
      have hB := b9.stored6 (.bool s8) (.slice A8 n8 c8) (.slice D8 m8 e8) (.bool false) (.slice none 0 0) (.slice none 0 0)
      generalize hX : ((((((X201.setCell ⟨w.heap.size, 0, none⟩ (.bool s8)).setCell ⟨w.heap.size, 1, none⟩ (.slice A8 n8 c8)).setCell ⟨w.heap.size, 2, none⟩ (.slice D8 m8 e8)).setCell ⟨w.heap.size, 3, none⟩ (.bool false)).setCell ⟨w.heap.size, 4, none⟩ (.slice none 0 0)).setCell ⟨w.heap.size, 5, none⟩ (.slice none 0 0)) = X202 at hg hB ⊢
      clear hX
      replace g8 := g8.kept b9 (by simp [notInt]) hg
      replace b0 := b0.other hg (by omega)
      replace b9 := hB
      have hBs := below_only (Below.refl w.heap.size X201) hg (by omega) G0.size
      replace hT := hT.keep hBs hb
      replace G0 := only_below G0 hBs (Nat.le_refl _)
      replace hlt := Nat.lt_of_lt_of_le hlt hg.size
      clear hg hB hBs
      refine bodyPost_ret (ret_point rfl rfl b9) rfl ?_
      exact ⟨_, _, s8, A8, n8, c8, D8, m8, e8, false, none, 0, 0, none, 0, 0, rfl, g8, rq_zero _, hT, G0⟩
    · have hr0 : ((r2 : Int) == 0) = false := by rw [beq_eq_false_iff_ne]; omega
      have cb00 := b0.cell 0 _ rfl
      have cb01 := b0.cell 1 _ rfl
      have cb02 := b0.cell 2 _ rfl
      have cb03 := b0.cell 3 _ rfl
      have cb04 := b0.cell 4 _ rfl
      have cb05 := b0.cell 5 _ rfl
      have cb90 := b9.cell 0 _ rfl
      have yb90 := b9.frozen 0
      have cb91 := b9.cell 1 _ rfl
      have yb91 := b9.frozen 1
      have cb92 := b9.cell 2 _ rfl
      have yb92 := b9.frozen 2
      have cb93 := b9.cell 3 _ rfl
      have yb93 := b9.frozen 3
      have cb94 := b9.cell 4 _ rfl
      have yb94 := b9.frozen 4
      have cb95 := b9.cell 5 _ rfl
      have yb95 := b9.frozen 5
      go_wp2_with fail
      clear cb00 cb01 cb02 cb03 cb04 cb05 cb90 yb90 cb91 yb91 cb92 yb92 cb93 yb93 cb94 yb94 cb95 yb95
      have hg := only_store6 w200 (w.heap.size) (.bool s8) (.slice A8 n8 c8) (.slice D8 m8 e8) (.bool s3) (.slice A3 n3 c3) (.slice D3 m3 e3)
      have hB := b9.stored6 (.bool s8) (.slice A8 n8 c8) (.slice D8 m8 e8) (.bool s3) (.slice A3 n3 c3) (.slice D3 m3 e3)
      generalize hX : ((((((w200.setCell ⟨w.heap.size, 0, none⟩ (.bool s8)).setCell ⟨w.heap.size, 1, none⟩ (.slice A8 n8 c8)).setCell ⟨w.heap.size, 2, none⟩ (.slice D8 m8 e8)).setCell ⟨w.heap.size, 3, none⟩ (.bool s3)).setCell ⟨w.heap.size, 4, none⟩ (.slice A3 n3 c3)).setCell ⟨w.heap.size, 5, none⟩ (.slice D3 m3 e3)) = X201 at hg hB ⊢
      clear hX
      replace g8 := g8.kept b9 (by simp [notInt]) hg
      replace g3 := g3.kept b9 (by simp [notInt]) hg
      replace b0 := b0.other hg (by omega)
      replace b9 := hB
      have hBs := below_only (Below.refl w.heap.size w200) hg (by omega) G0.size
      replace hT := hT.keep hBs hb
      replace G0 := only_below G0 hBs (Nat.le_refl _)
      replace hlt := Nat.lt_of_lt_of_le hlt hg.size
      clear hg hB hBs
      refine bodyPost_ret (ret_point rfl rfl b9) rfl ?_
      exact ⟨_, _, s8, A8, n8, c8, D8, m8, e8, s3, A3, n3, c3, D3, m3, e3, rfl, g8, g3, hT, G0⟩
end
end Go.Proofs.YtancgkmkbgkncaaGreatDoor
