/-
  The walk of the law PointForms.
-/
import Derived.Test.YtlpgbflajcfgpaaGreatDoorF1
import Derived.Test.YtlpgbflajcfgpaaGreatDoorPtK
import Derived.Test.YtlpgbflajcfgpaaGreatDoorPhase
import Derived.Deep.Cut
import Derived.Test.YtlpgbflajcfgpaaGreatDoorE1
import Derived.Test.YtlpgbflajcfgpaaGreatDoorE2
import Derived.Test.YtlpgbflajcfgpaaGreatDoorE3
import Derived.Test.YtlpgbflajcfgpaaGreatDoorE4
import Derived.Test.YtlpgbflajcfgpaaGreatDoorEY
import Derived.Test.YtlpgbflajcfgpaaGreatDoorEZ
namespace Go.Proofs.YtlpgbflajcfgpaaGreatDoor
open Go.RowKit

section
variable {A0 A1 A2 A3 A4 A5 A6 A7 D0 D1 D2 D3 D4 D5 D6 D7 : Option Addr} {n0 n1 n2 n3 n4 n5 n6 n7 c0 c1 c2 c3 c4 c5 c6 c7 m0 m1 m2 m3 m4 m5 m6 m7 e0 e1 e2 e3 e4 e5 e6 e7 : Nat} {s0 s1 s2 s3 s4 s5 s6 s7 : Bool} {q0 q1 q2 q3 q4 q5 q6 q7 : Rat} {L L0 L1 x x0 x1 y : Nat} {k : Int} {b : Bool} {w : World}
set_option maxRecDepth 100000 in
set_option maxHeartbeats 16000000 in
theorem pforms_small {ds0 es0 ds1 es1 : List Nat} (hs0 : few n0 m0 n1 m1) (hs1 : few n2 m2 n3 m3) (hl0 : ds0.length ≤ 6) (hl1 : es0.length ≤ 6) (hl2 : ds1.length ≤ 6) (hl3 : es1.length ≤ 6) (r0 : Raw w (.slice A0 n0 c0) ds0) (r1 : Raw w (.slice D0 m0 e0) es0) (r2 : Raw w (.slice A1 n1 c1) ds1) (r3 : Raw w (.slice D1 m1 e1) es1) (f0 : RQ w s0 (.slice A0 n0 c0) (.slice D0 m0 e0) q0 6) (f1 : RQ w s1 (.slice A1 n1 c1) (.slice D1 m1 e1) q1 6) (f2 : RQ w s2 (.slice A2 n2 c2) (.slice D2 m2 e2) q2 6) (f3 : RQ w s3 (.slice A3 n3 c3) (.slice D3 m3 e3) q3 6) (z z' : Int) (hz0 : -9223372036854775808 ≤ z) (hz1 : z ≤ 9223372036854775807) (hz2 : -9223372036854775808 ≤ z') (hz3 : z' ≤ 9223372036854775807) (htab : Lib.TabIs Tryz.prog w "internal/strconv.uint64pow10" .u64 Lib.pow10Tab) :
    Calls Tryz.prog 3 #[.agg #[.bool s0, .slice A0 n0 c0, .slice D0 m0 e0, .bool s1, .slice A1 n1 c1, .slice D1 m1 e1], .agg #[.bool s2, .slice A2 n2 c2, .slice D2 m2 e2, .bool s3, .slice A3 n3 c3, .slice D3 m3 e3], .int .i64 z, .int .i64 z'] w fun e w' => e = .returned (.bool true) ∧ Below w.heap.size w w' := by
  have HK := Lib.hid (fun (W : World) (h : Below w.heap.size w W) => known4_any (Go.Joins.tab_stays (show Tryz.prog.globalNamed "internal/strconv.uint64pow10" = some 5 by kernel_rfl) htab h (Nat.le_refl _)))
  clear htab
  go_enter Tryz.func3, Tryz.ntmps3
  go_wp2_with fail
  obtain ⟨W0, hW, b0, b1, bs, hbW, hszW0⟩ := boxes3 w #[.bool s0, .slice A0 n0 c0, .slice D0 m0 e0, .bool s1, .slice A1 n1 c1, .slice D1 m1 e1] #[.bool s2, .slice A2 n2 c2, .slice D2 m2 e2, .bool s3, .slice A3 n3 c3, .slice D3 m3 e3] #[.bool s0, .slice A0 n0 c0, .slice D0 m0 e0, .bool s1, .slice A1 n1 c1, .slice D1 m1 e1, .bool s2, .slice A2 n2 c2, .slice D2 m2 e2, .bool s3, .slice A3 n3 c3, .slice D3 m3 e3] 29 29 29
  rw [hW]
  clear hW
  replace r0 := r0.below hbW
  replace r1 := r1.below hbW
  replace r2 := r2.below hbW
  replace r3 := r3.below hbW
  replace f0 := f0.below hbW
  replace f1 := f1.below hbW
  replace f2 := f2.below hbW
  replace f3 := f3.below hbW
  have H0 := hbW
  clear hbW
  refine (smallp_yes bs hs0 hs1).mono ?_
  rintro e w1 ⟨rfl, hb⟩
  replace r0 := r0.below hb
  replace r1 := r1.below hb
  replace r2 := r2.below hb
  replace r3 := r3.below hb
  replace f0 := f0.below hb
  replace f1 := f1.below hb
  replace f2 := f2.below hb
  replace f3 := f3.below hb
  replace b0 := b0.below hb
  replace b1 := b1.below hb
  replace bs := bs.below hb
  replace H0 := H0.trans (hb.mono H0.size)
  clear hb
  clear bs
  have cb00 := b0.cell 0 _ rfl
  have cb01 := b0.cell 1 _ rfl
  have cb02 := b0.cell 2 _ rfl
  have cb03 := b0.cell 3 _ rfl
  have cb04 := b0.cell 4 _ rfl
  have cb05 := b0.cell 5 _ rfl
  have cb10 := b1.cell 0 _ rfl
  have cb11 := b1.cell 1 _ rfl
  have cb12 := b1.cell 2 _ rfl
  have cb13 := b1.cell 3 _ rfl
  have cb14 := b1.cell 4 _ rfl
  have cb15 := b1.cell 5 _ rfl
  go_wp2_with fail
  clear cb00 cb01 cb02 cb03 cb04 cb05 cb10 cb11 cb12 cb13 cb14 cb15
  go_cut [9, 10] from 11 (fun s_9 s_10 wx => ∃ g70 g71 s8 A8 n8 c8 D8 m8 e8 s9 A9 n9 c9 D9 m9 e9 s10 A10 n10 c10 D10 m10 e10 s11 A11 n11 c11 D11 m11 e11, s_9 = .pointer (some ⟨g70, 0, none⟩) ∧ s_10 = .pointer (some ⟨g71, 0, none⟩) ∧ PQ wx s8 (.slice A8 n8 c8) (.slice D8 m8 e8) q0 6 ∧ PQ wx s9 (.slice A9 n9 c9) (.slice D9 m9 e9) q1 6 ∧ PQ wx s10 (.slice A10 n10 c10) (.slice D10 m10 e10) q2 6 ∧ PQ wx s11 (.slice A11 n11 c11) (.slice D11 m11 e11) q3 6 ∧ Box wx g70 #[.bool s8, .slice A8 n8 c8, .slice D8 m8 e8, .bool s9, .slice A9 n9 c9, .slice D9 m9 e9] 38 ∧ Box wx g71 #[.bool s10, .slice A10 n10 c10, .slice D10 m10 e10, .bool s11, .slice A11 n11 c11, .slice D11 m11 e11] 38 ∧ Below w1.heap.size w1 wx)
  case first =>
    have lcb0_2 := b0.lt
    have lcb1_2 := b1.lt
    have hG := drawn_below w1
    refine wp_region_noPanic ?_
    refine wp_region_anyd (by kernel_rfl) ?_
    generalize w1.drew = v2 at hG ⊢
    refine wpAny_of_F (S := (fun V => V.cell? ⟨w.heap.size, 0, none⟩ = some (.bool s0) ∧ V.cell? ⟨w.heap.size, 1, none⟩ = some (.slice A0 n0 c0) ∧ V.cell? ⟨w.heap.size, 2, none⟩ = some (.slice D0 m0 e0) ∧ V.cell? ⟨w.heap.size, 3, none⟩ = some (.bool s1) ∧ V.cell? ⟨w.heap.size, 4, none⟩ = some (.slice A1 n1 c1) ∧ V.cell? ⟨w.heap.size, 5, none⟩ = some (.slice D1 m1 e1) ∧ V.cell? ⟨w.heap.size + 1, 0, none⟩ = some (.bool s2) ∧ V.cell? ⟨w.heap.size + 1, 1, none⟩ = some (.slice A2 n2 c2) ∧ V.cell? ⟨w.heap.size + 1, 2, none⟩ = some (.slice D2 m2 e2) ∧ V.cell? ⟨w.heap.size + 1, 3, none⟩ = some (.bool s3) ∧ V.cell? ⟨w.heap.size + 1, 4, none⟩ = some (.slice A3 n3 c3) ∧ V.cell? ⟨w.heap.size + 1, 5, none⟩ = some (.slice D3 m3 e3))) (F := (fun j => j == 6 || j == 7)) _ _ _ _ ?_
    refine wpAnyF_take (i := 0) (v := ?_) (fun j => j == 1 || j == 3 || j == 6 || j == 7) rfl (by kernel_rfl) (by kernel_rfl) (by kernel_rfl) (by kernel_rfl) (fun j hj => by have h6 : 8 ≤ j := hj; simp; omega) (fun _ _ _ h => h) (Or.inl ⟨by rfl, ?_⟩) ⟨(b0.below hG).cell 0 _ rfl, (b0.below hG).cell 1 _ rfl, (b0.below hG).cell 2 _ rfl, (b0.below hG).cell 3 _ rfl, (b0.below hG).cell 4 _ rfl, (b0.below hG).cell 5 _ rfl, (b1.below hG).cell 0 _ rfl, (b1.below hG).cell 1 _ rfl, (b1.below hG).cell 2 _ rfl, (b1.below hG).cell 3 _ rfl, (b1.below hG).cell 4 _ rfl, (b1.below hG).cell 5 _ rfl⟩ ?_
    rotate_left
    · (intro w hSw; (try dsimp only at hSw); go_simp; (try with_reducible rfl))
    (try simp only [List.getElem_toArray, List.getElem_cons_zero, Act.put, List.setIfInBounds_toArray, List.set_cons_zero, List.set_cons_succ])
    refine wpAnyF_take (i := 2) (v := ?_) (fun j => j == 3 || j == 6 || j == 7) rfl (by kernel_rfl) (by kernel_rfl) (by kernel_rfl) (by kernel_rfl) (fun j hj => by have h6 : 8 ≤ j := hj; simp; omega) (fun _ _ _ h => h) (Or.inl ⟨by rfl, ?_⟩) ⟨(b0.below hG).cell 0 _ rfl, (b0.below hG).cell 1 _ rfl, (b0.below hG).cell 2 _ rfl, (b0.below hG).cell 3 _ rfl, (b0.below hG).cell 4 _ rfl, (b0.below hG).cell 5 _ rfl, (b1.below hG).cell 0 _ rfl, (b1.below hG).cell 1 _ rfl, (b1.below hG).cell 2 _ rfl, (b1.below hG).cell 3 _ rfl, (b1.below hG).cell 4 _ rfl, (b1.below hG).cell 5 _ rfl⟩ ?_
    rotate_left
    · (intro w hSw; (try dsimp only at hSw); go_simp; (try with_reducible rfl))
    (try simp only [List.getElem_toArray, List.getElem_cons_succ, List.getElem_cons_zero, Act.put, List.setIfInBounds_toArray, List.set_cons_zero, List.set_cons_succ])
    refine wpAnyF_name (n' := 6) (l' := #[true, false, true, false, false, false, false, false]) (by kernel_rfl) (by kernel_rfl) (fun A0 hA => ?_)
    refine wpAnyF_phase (rs := [1, 3, 4, 5]) (full := #[true, true, true, true, true, true, false, false]) (states := [#[true, false, true, false, false, false, false, false], #[true, true, true, false, false, false, false, false], #[true, false, true, false, true, false, false, false], #[true, false, true, false, false, true, false, false], #[true, true, true, false, false, true, false, false], #[true, false, true, false, true, true, false, false], #[true, true, true, false, true, true, false, false], #[true, true, true, true, true, true, false, false], #[true, true, true, true, false, true, false, false], #[true, true, true, false, true, false, false, false], #[true, true, true, true, true, false, false, false], #[true, true, true, true, false, false, false, false]]) (k := 2) (I := fun listed a w => ∃ (y1_ y3_ y4_ y5_ : Value), a = ((((A0.put (some 18) y1_).put (some 20) y3_).put (some 9) y4_).put (some 10) y5_) ∧ Below w1.heap.size w1 w ∧ (listed.getD 1 false = true → ∃ s8 A8 n8 c8 D8 m8 e8 s9 A9 n9 c9 D9 m9 e9, y1_ = .agg #[.bool s8, .slice A8 n8 c8, .slice D8 m8 e8, .bool s9, .slice A9 n9 c9, .slice D9 m9 e9] ∧ PQ w s8 (.slice A8 n8 c8) (.slice D8 m8 e8) q0 6 ∧ PQ w s9 (.slice A9 n9 c9) (.slice D9 m9 e9) q1 6) ∧ (listed.getD 3 false = true → ∃ s10 A10 n10 c10 D10 m10 e10 s11 A11 n11 c11 D11 m11 e11, y3_ = .agg #[.bool s10, .slice A10 n10 c10, .slice D10 m10 e10, .bool s11, .slice A11 n11 c11, .slice D11 m11 e11] ∧ PQ w s10 (.slice A10 n10 c10) (.slice D10 m10 e10) q2 6 ∧ PQ w s11 (.slice A11 n11 c11) (.slice D11 m11 e11) q3 6) ∧ (listed.getD 4 false = true → ∃ g0_, y4_ = .pointer (some ⟨g0_, 0, none⟩) ∧ Box w g0_ #[.bool false, .slice none 0 0, .slice none 0 0, .bool false, .slice none 0 0, .slice none 0 0] 38 ∧ w1.heap.size ≤ g0_) ∧ (listed.getD 5 false = true → ∃ g1_, y5_ = .pointer (some ⟨g1_, 0, none⟩) ∧ Box w g1_ #[.bool false, .slice none 0 0, .slice none 0 0, .bool false, .slice none 0 0, .slice none 0 0] 38 ∧ w1.heap.size ≤ g1_) ∧ (listed.getD 4 false = true → listed.getD 5 false = true → y4_ ≠ y5_)) (by kernel_rfl) (by kernel_rfl) ?_ ?_ _ _ _ _ (by kernel_rfl) (by kernel_rfl) ⟨A0.tmps.getD 18 undef, A0.tmps.getD 20 undef, A0.tmps.getD 9 undef, A0.tmps.getD 10 undef, by subst hA; kernel_rfl, hG, fun h => (by cases h), fun h => (by cases h), fun h => (by cases h), fun h => (by cases h), fun h => (by cases h)⟩
    · refine (AllStepsF.cons (i := 1) (o := _) rfl rfl ?_ (AllStepsF.cons (i := 3) (o := _) rfl rfl ?_ (AllStepsF.cons (i := 4) (o := _) rfl rfl ?_ (AllStepsF.cons (i := 5) (o := _) rfl rfl ?_ AllStepsF.nil))))
      · rintro listed a wx ⟨y1_, y3_, y4_, y5_, rfl, hG, H1_, H3_, H4_, H5_, D4_5⟩ hi K hK
        subst hA
        (try simp only [Act.put, List.setIfInBounds_toArray, List.set_cons_zero, List.set_cons_succ])
        go_simp
        go_at_call 11
        refine (gpt_v (f0.below hG) (f1.below hG) (by omega)).mono ?_
        rintro e X ⟨s8, A8, n8, c8, D8, m8, e8, s9, A9, n9, c9, D9, m9, e9, rfl, h0, h1, hb9⟩
        go_wp2_with fail
        have hG9 := hG.trans (hb9.mono hG.size)
        refine hK.out _ _ ⟨(b0.below hG9).cell 0 _ rfl, (b0.below hG9).cell 1 _ rfl, (b0.below hG9).cell 2 _ rfl, (b0.below hG9).cell 3 _ rfl, (b0.below hG9).cell 4 _ rfl, (b0.below hG9).cell 5 _ rfl, (b1.below hG9).cell 0 _ rfl, (b1.below hG9).cell 1 _ rfl, (b1.below hG9).cell 2 _ rfl, (b1.below hG9).cell 3 _ rfl, (b1.below hG9).cell 4 _ rfl, (b1.below hG9).cell 5 _ rfl⟩ ?_
        clear hK K
        exact ⟨_, y3_, y4_, y5_, by kernel_rfl, hG9, fun _ => ⟨s8, A8, n8, c8, D8, m8, e8, s9, A9, n9, c9, D9, m9, e9, rfl, h0, h1⟩, fun h => by obtain ⟨s10, A10, n10, c10, D10, m10, e10, s11, A11, n11, c11, D11, m11, e11, e_, h2', h3'⟩ := H3_ (set_dep (by decide) h); exact ⟨s10, A10, n10, c10, D10, m10, e10, s11, A11, n11, c11, D11, m11, e11, e_, h2'.below hb9, h3'.below hb9⟩, fun h => by obtain ⟨g0_, e_, bx0', hl0'⟩ := H4_ (set_dep (by decide) h); exact ⟨g0_, e_, bx0'.below hb9, hl0'⟩, fun h => by obtain ⟨g1_, e_, bx1', hl1'⟩ := H5_ (set_dep (by decide) h); exact ⟨g1_, e_, bx1'.below hb9, hl1'⟩, fun h h9 => D4_5 (set_dep (by decide) h) (set_dep (by decide) h9)⟩
      · rintro listed a wx ⟨y1_, y3_, y4_, y5_, rfl, hG, H1_, H3_, H4_, H5_, D4_5⟩ hi K hK
        subst hA
        (try simp only [Act.put, List.setIfInBounds_toArray, List.set_cons_zero, List.set_cons_succ])
        go_simp
        go_at_call 11
        refine (gpt_v (f2.below hG) (f3.below hG) (by omega)).mono ?_
        rintro e X ⟨s10, A10, n10, c10, D10, m10, e10, s11, A11, n11, c11, D11, m11, e11, rfl, h2, h3, hb9⟩
        go_wp2_with fail
        have hG9 := hG.trans (hb9.mono hG.size)
        refine hK.out _ _ ⟨(b0.below hG9).cell 0 _ rfl, (b0.below hG9).cell 1 _ rfl, (b0.below hG9).cell 2 _ rfl, (b0.below hG9).cell 3 _ rfl, (b0.below hG9).cell 4 _ rfl, (b0.below hG9).cell 5 _ rfl, (b1.below hG9).cell 0 _ rfl, (b1.below hG9).cell 1 _ rfl, (b1.below hG9).cell 2 _ rfl, (b1.below hG9).cell 3 _ rfl, (b1.below hG9).cell 4 _ rfl, (b1.below hG9).cell 5 _ rfl⟩ ?_
        clear hK K
        exact ⟨y1_, _, y4_, y5_, by kernel_rfl, hG9, fun h => by obtain ⟨s8, A8, n8, c8, D8, m8, e8, s9, A9, n9, c9, D9, m9, e9, e_, h0', h1'⟩ := H1_ (set_dep (by decide) h); exact ⟨s8, A8, n8, c8, D8, m8, e8, s9, A9, n9, c9, D9, m9, e9, e_, h0'.below hb9, h1'.below hb9⟩, fun _ => ⟨s10, A10, n10, c10, D10, m10, e10, s11, A11, n11, c11, D11, m11, e11, rfl, h2, h3⟩, fun h => by obtain ⟨g0_, e_, bx0', hl0'⟩ := H4_ (set_dep (by decide) h); exact ⟨g0_, e_, bx0'.below hb9, hl0'⟩, fun h => by obtain ⟨g1_, e_, bx1', hl1'⟩ := H5_ (set_dep (by decide) h); exact ⟨g1_, e_, bx1'.below hb9, hl1'⟩, fun h h9 => D4_5 (set_dep (by decide) h) (set_dep (by decide) h9)⟩
      · rintro listed a wx ⟨y1_, y3_, y4_, y5_, rfl, hG, H1_, H3_, H4_, H5_, D4_5⟩ hi K hK
        subst hA
        (try simp only [Act.put, List.setIfInBounds_toArray, List.set_cons_zero, List.set_cons_succ])
        go_simp
        obtain ⟨X, hV, bx0, hb9, sz9⟩ := boxes1 wx #[.bool false, .slice none 0 0, .slice none 0 0, .bool false, .slice none 0 0, .slice none 0 0] 38
        rw [hV]
        clear hV
        have hl0 : w1.heap.size ≤ wx.heap.size := hG.size
        have hG9 := hG.trans (hb9.mono hG.size)
        refine hK.out _ _ ⟨(b0.below hG9).cell 0 _ rfl, (b0.below hG9).cell 1 _ rfl, (b0.below hG9).cell 2 _ rfl, (b0.below hG9).cell 3 _ rfl, (b0.below hG9).cell 4 _ rfl, (b0.below hG9).cell 5 _ rfl, (b1.below hG9).cell 0 _ rfl, (b1.below hG9).cell 1 _ rfl, (b1.below hG9).cell 2 _ rfl, (b1.below hG9).cell 3 _ rfl, (b1.below hG9).cell 4 _ rfl, (b1.below hG9).cell 5 _ rfl⟩ ?_
        clear hK K
        exact ⟨y1_, y3_, _, y5_, by kernel_rfl, hG9, fun h => by obtain ⟨s8, A8, n8, c8, D8, m8, e8, s9, A9, n9, c9, D9, m9, e9, e_, h0', h1'⟩ := H1_ (set_dep (by decide) h); exact ⟨s8, A8, n8, c8, D8, m8, e8, s9, A9, n9, c9, D9, m9, e9, e_, h0'.below hb9, h1'.below hb9⟩, fun h => by obtain ⟨s10, A10, n10, c10, D10, m10, e10, s11, A11, n11, c11, D11, m11, e11, e_, h2', h3'⟩ := H3_ (set_dep (by decide) h); exact ⟨s10, A10, n10, c10, D10, m10, e10, s11, A11, n11, c11, D11, m11, e11, e_, h2'.below hb9, h3'.below hb9⟩, fun _ => ⟨_, rfl, bx0, hl0⟩, fun h => by obtain ⟨g1_, e_, bx1', hl1'⟩ := H5_ (set_dep (by decide) h); exact ⟨g1_, e_, bx1'.below hb9, hl1'⟩, fun _ h => by obtain ⟨g1_, e_, bx_, _⟩ := H5_ (set_dep (by decide) h); rw [e_]; have lx_ := bx_.lt; intro heq; injection heq with heq; injection heq with heq; injection heq with heq; omega⟩
      · rintro listed a wx ⟨y1_, y3_, y4_, y5_, rfl, hG, H1_, H3_, H4_, H5_, D4_5⟩ hi K hK
        subst hA
        (try simp only [Act.put, List.setIfInBounds_toArray, List.set_cons_zero, List.set_cons_succ])
        go_simp
        obtain ⟨X, hV, bx1, hb9, sz9⟩ := boxes1 wx #[.bool false, .slice none 0 0, .slice none 0 0, .bool false, .slice none 0 0, .slice none 0 0] 38
        rw [hV]
        clear hV
        have hl1 : w1.heap.size ≤ wx.heap.size := hG.size
        have hG9 := hG.trans (hb9.mono hG.size)
        refine hK.out _ _ ⟨(b0.below hG9).cell 0 _ rfl, (b0.below hG9).cell 1 _ rfl, (b0.below hG9).cell 2 _ rfl, (b0.below hG9).cell 3 _ rfl, (b0.below hG9).cell 4 _ rfl, (b0.below hG9).cell 5 _ rfl, (b1.below hG9).cell 0 _ rfl, (b1.below hG9).cell 1 _ rfl, (b1.below hG9).cell 2 _ rfl, (b1.below hG9).cell 3 _ rfl, (b1.below hG9).cell 4 _ rfl, (b1.below hG9).cell 5 _ rfl⟩ ?_
        clear hK K
        exact ⟨y1_, y3_, y4_, _, by kernel_rfl, hG9, fun h => by obtain ⟨s8, A8, n8, c8, D8, m8, e8, s9, A9, n9, c9, D9, m9, e9, e_, h0', h1'⟩ := H1_ (set_dep (by decide) h); exact ⟨s8, A8, n8, c8, D8, m8, e8, s9, A9, n9, c9, D9, m9, e9, e_, h0'.below hb9, h1'.below hb9⟩, fun h => by obtain ⟨s10, A10, n10, c10, D10, m10, e10, s11, A11, n11, c11, D11, m11, e11, e_, h2', h3'⟩ := H3_ (set_dep (by decide) h); exact ⟨s10, A10, n10, c10, D10, m10, e10, s11, A11, n11, c11, D11, m11, e11, e_, h2'.below hb9, h3'.below hb9⟩, fun h => by obtain ⟨g0_, e_, bx0', hl0'⟩ := H4_ (set_dep (by decide) h); exact ⟨g0_, e_, bx0'.below hb9, hl0'⟩, fun _ => ⟨_, rfl, bx1, hl1⟩, fun h _ => by obtain ⟨g0_, e_, bx_, _⟩ := H4_ (set_dep (by decide) h); rw [e_]; have lx_ := bx_.lt; intro heq; injection heq with heq; injection heq with heq; injection heq with heq; omega⟩
    · rintro a wf ⟨y1_, y3_, y4_, y5_, rfl, hG, H1_, H3_, H4_, H5_, D4_5⟩
      have d4_5 := D4_5 rfl rfl
      obtain ⟨s8, A8, n8, c8, D8, m8, e8, s9, A9, n9, c9, D9, m9, e9, rfl, h0, h1⟩ := H1_ rfl
      obtain ⟨s10, A10, n10, c10, D10, m10, e10, s11, A11, n11, c11, D11, m11, e11, rfl, h2, h3⟩ := H3_ rfl
      obtain ⟨g0_, rfl, bx0, hl0⟩ := H4_ rfl
      obtain ⟨g1_, rfl, bx1, hl1⟩ := H5_ rfl
      clear D4_5
      subst hA
      (try simp only [Act.put, List.setIfInBounds_toArray, List.set_cons_zero, List.set_cons_succ])
      have hne01 : g0_ ≠ g1_ := fun h => d4_5 (by rw [h])
      clear d4_5
      have H0 := hG
      have cbx00 := bx0.cell 0 _ rfl
      have ybx00 := bx0.frozen 0
      have cbx01 := bx0.cell 1 _ rfl
      have ybx01 := bx0.frozen 1
      have cbx02 := bx0.cell 2 _ rfl
      have ybx02 := bx0.frozen 2
      have cbx03 := bx0.cell 3 _ rfl
      have ybx03 := bx0.frozen 3
      have cbx04 := bx0.cell 4 _ rfl
      have ybx04 := bx0.frozen 4
      have cbx05 := bx0.cell 5 _ rfl
      have ybx05 := bx0.frozen 5
      refine wpAnyF_last (i := 6) (by kernel_rfl) rfl rfl (fun K hK => ?_)
      go_simp
      refine hK.out _ _ ?_
      clear hK K
      (try simp only [List.setIfInBounds_toArray, List.set_cons_zero, List.set_cons_succ])
      clear cbx00 ybx00 cbx01 ybx01 cbx02 ybx02 cbx03 ybx03 cbx04 ybx04 cbx05 ybx05
      have hg := only_store6 wf (g0_) (.bool s8) (.slice A8 n8 c8) (.slice D8 m8 e8) (.bool s9) (.slice A9 n9 c9) (.slice D9 m9 e9)
      have hB := bx0.stored6 (.bool s8) (.slice A8 n8 c8) (.slice D8 m8 e8) (.bool s9) (.slice A9 n9 c9) (.slice D9 m9 e9)
      generalize hX : ((((((wf.setCell ⟨g0_, 0, none⟩ (.bool s8)).setCell ⟨g0_, 1, none⟩ (.slice A8 n8 c8)).setCell ⟨g0_, 2, none⟩ (.slice D8 m8 e8)).setCell ⟨g0_, 3, none⟩ (.bool s9)).setCell ⟨g0_, 4, none⟩ (.slice A9 n9 c9)).setCell ⟨g0_, 5, none⟩ (.slice D9 m9 e9)) = X53 at hg hB ⊢
      clear hX
      replace h0 := h0.kept bx0 (by simp [notInt]) hg
      replace h1 := h1.kept bx0 (by simp [notInt]) hg
      replace h2 := h2.kept bx0 (by simp [notInt]) hg
      replace h3 := h3.kept bx0 (by simp [notInt]) hg
      replace bx1 := bx1.other hg (by omega)
      replace bx0 := hB
      replace H0 := below_only H0 hg (by omega) H0.size
      clear hg hB
      have cbx10 := bx1.cell 0 _ rfl
      have ybx10 := bx1.frozen 0
      have cbx11 := bx1.cell 1 _ rfl
      have ybx11 := bx1.frozen 1
      have cbx12 := bx1.cell 2 _ rfl
      have ybx12 := bx1.frozen 2
      have cbx13 := bx1.cell 3 _ rfl
      have ybx13 := bx1.frozen 3
      have cbx14 := bx1.cell 4 _ rfl
      have ybx14 := bx1.frozen 4
      have cbx15 := bx1.cell 5 _ rfl
      have ybx15 := bx1.frozen 5
      refine wpAny_one (i := 7) (by kernel_rfl) rfl (fun K hK => ?_)
      go_simp
      refine hK.out _ _ ?_
      clear hK K
      (try simp only [List.setIfInBounds_toArray, List.set_cons_zero, List.set_cons_succ])
      clear cbx10 ybx10 cbx11 ybx11 cbx12 ybx12 cbx13 ybx13 cbx14 ybx14 cbx15 ybx15
      have hg := only_store6 X53 (g1_) (.bool s10) (.slice A10 n10 c10) (.slice D10 m10 e10) (.bool s11) (.slice A11 n11 c11) (.slice D11 m11 e11)
      have hB := bx1.stored6 (.bool s10) (.slice A10 n10 c10) (.slice D10 m10 e10) (.bool s11) (.slice A11 n11 c11) (.slice D11 m11 e11)
      generalize hX : ((((((X53.setCell ⟨g1_, 0, none⟩ (.bool s10)).setCell ⟨g1_, 1, none⟩ (.slice A10 n10 c10)).setCell ⟨g1_, 2, none⟩ (.slice D10 m10 e10)).setCell ⟨g1_, 3, none⟩ (.bool s11)).setCell ⟨g1_, 4, none⟩ (.slice A11 n11 c11)).setCell ⟨g1_, 5, none⟩ (.slice D11 m11 e11)) = X54 at hg hB ⊢
      clear hX
      replace h0 := h0.kept bx1 (by simp [notInt]) hg
      replace h1 := h1.kept bx1 (by simp [notInt]) hg
      replace h2 := h2.kept bx1 (by simp [notInt]) hg
      replace h3 := h3.kept bx1 (by simp [notInt]) hg
      replace bx0 := bx0.other hg (by omega)
      replace bx1 := hB
      replace H0 := below_only H0 hg (by omega) H0.size
      clear hg hB
      refine wpAny_done (by kernel_rfl) ?_ _
      refine NoPanic.normal ?_
      go_wp2_with fail
      go_meet
      exact ⟨g0_, g1_, s8, A8, n8, c8, D8, m8, e8, s9, A9, n9, c9, D9, m9, e9, s10, A10, n10, c10, D10, m10, e10, s11, A11, n11, c11, D11, m11, e11, rfl, rfl, h0, h1, h2, h3, bx0, bx1, H0⟩
  case rest =>
    obtain ⟨g70, g71, s8, A8, n8, c8, D8, m8, e8, s9, A9, n9, c9, D9, m9, e9, s10, A10, n10, c10, D10, m10, e10, s11, A11, n11, c11, D11, m11, e11, rfl, rfl, h0, h1, h2, h3, ba, bb, hG⟩ := hcut
    replace r0 := r0.below hG
    replace r1 := r1.below hG
    replace r2 := r2.below hG
    replace r3 := r3.below hG
    replace f0 := f0.below hG
    replace f1 := f1.below hG
    replace f2 := f2.below hG
    replace f3 := f3.below hG
    replace b0 := b0.below hG
    replace b1 := b1.below hG
    replace H0 := H0.trans (hG.mono H0.size)
    clear hG
    go_wp2_with fail
    obtain ⟨kc, hkc⟩ : ∃ k, cmpQ q0 q1 q2 q3 = k := ⟨_, rfl⟩
    have Hkc := Lib.hid hkc
    clear hkc
    obtain ⟨nb, hnb⟩ : ∃ b, (normQB s0 ds0 es0 && normQB s1 ds1 es1) = b := ⟨_, rfl⟩
    have HNB := Lib.hid hnb
    clear hnb
    have enb : ((nb : Bool) == nb) = true := by simp
    have ekc : (((kc : Int) == 0) == ((kc : Int) == 0)) = true := by simp
    have hD := drawn_below wc
    replace r0 := r0.below hD
    replace r1 := r1.below hD
    replace r2 := r2.below hD
    replace r3 := r3.below hD
    replace f0 := f0.below hD
    replace f1 := f1.below hD
    replace f2 := f2.below hD
    replace f3 := f3.below hD
    replace h0 := h0.below hD
    replace h1 := h1.below hD
    replace h2 := h2.below hD
    replace h3 := h3.below hD
    replace b0 := b0.below hD
    replace b1 := b1.below hD
    replace ba := ba.below hD
    replace bb := bb.below hD
    replace H0 := H0.trans (hD.mono H0.size)
    clear hD
    refine wp_region_noPanic ?_
    refine wp_region_held_drew (S := (fun V => V.cell? ⟨w.heap.size, 0, none⟩ = some (.bool s0) ∧ V.cell? ⟨w.heap.size, 1, none⟩ = some (.slice A0 n0 c0) ∧ V.cell? ⟨w.heap.size, 2, none⟩ = some (.slice D0 m0 e0) ∧ V.cell? ⟨w.heap.size, 3, none⟩ = some (.bool s1) ∧ V.cell? ⟨w.heap.size, 4, none⟩ = some (.slice A1 n1 c1) ∧ V.cell? ⟨w.heap.size, 5, none⟩ = some (.slice D1 m1 e1) ∧ V.cell? ⟨w.heap.size + 1, 0, none⟩ = some (.bool s2) ∧ V.cell? ⟨w.heap.size + 1, 1, none⟩ = some (.slice A2 n2 c2) ∧ V.cell? ⟨w.heap.size + 1, 2, none⟩ = some (.slice D2 m2 e2) ∧ V.cell? ⟨w.heap.size + 1, 3, none⟩ = some (.bool s3) ∧ V.cell? ⟨w.heap.size + 1, 4, none⟩ = some (.slice A3 n3 c3) ∧ V.cell? ⟨w.heap.size + 1, 5, none⟩ = some (.slice D3 m3 e3) ∧ V.cell? ⟨g70, 0, none⟩ = some (.bool s8) ∧ V.cell? ⟨g70, 1, none⟩ = some (.slice A8 n8 c8) ∧ V.cell? ⟨g70, 2, none⟩ = some (.slice D8 m8 e8) ∧ V.cell? ⟨g70, 3, none⟩ = some (.bool s9) ∧ V.cell? ⟨g70, 4, none⟩ = some (.slice A9 n9 c9) ∧ V.cell? ⟨g70, 5, none⟩ = some (.slice D9 m9 e9) ∧ V.cell? ⟨g71, 0, none⟩ = some (.bool s10) ∧ V.cell? ⟨g71, 1, none⟩ = some (.slice A10 n10 c10) ∧ V.cell? ⟨g71, 2, none⟩ = some (.slice D10 m10 e10) ∧ V.cell? ⟨g71, 3, none⟩ = some (.bool s11) ∧ V.cell? ⟨g71, 4, none⟩ = some (.slice A11 n11 c11) ∧ V.cell? ⟨g71, 5, none⟩ = some (.slice D11 m11 e11))) (by kernel_rfl) ⟨b0.cell 0 _ rfl, b0.cell 1 _ rfl, b0.cell 2 _ rfl, b0.cell 3 _ rfl, b0.cell 4 _ rfl, b0.cell 5 _ rfl, b1.cell 0 _ rfl, b1.cell 1 _ rfl, b1.cell 2 _ rfl, b1.cell 3 _ rfl, b1.cell 4 _ rfl, b1.cell 5 _ rfl, ba.cell 0 _ rfl, ba.cell 1 _ rfl, ba.cell 2 _ rfl, ba.cell 3 _ rfl, ba.cell 4 _ rfl, ba.cell 5 _ rfl, bb.cell 0 _ rfl, bb.cell 1 _ rfl, bb.cell 2 _ rfl, bb.cell 3 _ rfl, bb.cell 4 _ rfl, bb.cell 5 _ rfl⟩ (fun hHeld => ?_)
    generalize wc.drew = v502 at H0 hHeld r0 r1 r2 r3 f0 f1 f2 f3 h0 h1 h2 h3 b0 b1 ba bb ⊢
    refine wpAnyH_ready (rs := [0]) (by kernel_rfl) (by simp) (AllReadyH.cons (o := _) rfl (fun K hK => ?_) AllReadyH.nil)
    go_simp
    go_at_call 10
    refine (HK.out _ H0).mono ?_
    rintro e w503 ⟨rfl, hb⟩
    replace r0 := r0.below hb
    replace r1 := r1.below hb
    replace r2 := r2.below hb
    replace r3 := r3.below hb
    replace f0 := f0.below hb
    replace f1 := f1.below hb
    replace f2 := f2.below hb
    replace f3 := f3.below hb
    replace h0 := h0.below hb
    replace h1 := h1.below hb
    replace h2 := h2.below hb
    replace h3 := h3.below hb
    replace b0 := b0.below hb
    replace b1 := b1.below hb
    replace ba := ba.below hb
    replace bb := bb.below hb
    replace H0 := H0.trans (hb.mono H0.size)
    clear hb
    go_wp2_with fail
    refine hK.out _ _ ⟨b0.cell 0 _ rfl, b0.cell 1 _ rfl, b0.cell 2 _ rfl, b0.cell 3 _ rfl, b0.cell 4 _ rfl, b0.cell 5 _ rfl, b1.cell 0 _ rfl, b1.cell 1 _ rfl, b1.cell 2 _ rfl, b1.cell 3 _ rfl, b1.cell 4 _ rfl, b1.cell 5 _ rfl, ba.cell 0 _ rfl, ba.cell 1 _ rfl, ba.cell 2 _ rfl, ba.cell 3 _ rfl, ba.cell 4 _ rfl, ba.cell 5 _ rfl, bb.cell 0 _ rfl, bb.cell 1 _ rfl, bb.cell 2 _ rfl, bb.cell 3 _ rfl, bb.cell 4 _ rfl, bb.cell 5 _ rfl⟩ (fun hHeld => ?_)
    clear hK K
    (try simp only [List.getElem_toArray, List.getElem_cons_succ, List.getElem_cons_zero, Act.put, List.setIfInBounds_toArray, List.set_cons_zero, List.set_cons_succ])
    refine wpAnyH_take (i := 1) (v := ?_) rfl (by kernel_rfl) (by kernel_rfl) (by kernel_rfl) (fun _ _ _ h => h) (Or.inl ⟨by rfl, ?_⟩) (by assumption) ?_
    rotate_left
    · (intro w hSw; (try dsimp only at hSw); go_simp; (try with_reducible rfl))
    (try simp only [List.getElem_toArray, List.getElem_cons_succ, List.getElem_cons_zero, Act.put, List.setIfInBounds_toArray, List.set_cons_zero, List.set_cons_succ])
    refine wpAnyH_take (i := 2) (v := ?_) rfl (by kernel_rfl) (by kernel_rfl) (by kernel_rfl) (fun _ _ _ h => h) (Or.inl ⟨by rfl, ?_⟩) (by assumption) ?_
    rotate_left
    · (intro w hSw; (try dsimp only at hSw); go_simp; (try with_reducible rfl))
    (try simp only [List.getElem_toArray, List.getElem_cons_succ, List.getElem_cons_zero, Act.put, List.setIfInBounds_toArray, List.set_cons_zero, List.set_cons_succ])
    refine wpAnyH_take (i := 4) (v := ?_) rfl (by kernel_rfl) (by kernel_rfl) (by kernel_rfl) (fun _ _ _ h => h) (Or.inl ⟨by rfl, ?_⟩) (by assumption) ?_
    rotate_left
    · (intro w hSw; (try dsimp only at hSw); go_simp; (try with_reducible rfl))
    (try simp only [List.getElem_toArray, List.getElem_cons_succ, List.getElem_cons_zero, Act.put, List.setIfInBounds_toArray, List.set_cons_zero, List.set_cons_succ])
    refine wpAnyH_ready (rs := [3]) (by kernel_rfl) (by simp) (AllReadyH.cons (o := _) rfl (fun K hK => ?_) AllReadyH.nil)
    go_simp
    go_at_call 13
    refine (pnorm_v f0 f1 (by omega)).mono ?_
    rintro e w504 ⟨s12, A12, n12, c12, D12, m12, e12, s13, A13, n13, c13, D13, m13, e13, rfl, u0, u1, hb⟩
    replace r0 := r0.below hb
    replace r1 := r1.below hb
    replace r2 := r2.below hb
    replace r3 := r3.below hb
    replace f0 := f0.below hb
    replace f1 := f1.below hb
    replace f2 := f2.below hb
    replace f3 := f3.below hb
    replace h0 := h0.below hb
    replace h1 := h1.below hb
    replace h2 := h2.below hb
    replace h3 := h3.below hb
    replace b0 := b0.below hb
    replace b1 := b1.below hb
    replace ba := ba.below hb
    replace bb := bb.below hb
    replace H0 := H0.trans (hb.mono H0.size)
    clear hb
    go_wp2_with fail
    refine hK.out _ _ ⟨b0.cell 0 _ rfl, b0.cell 1 _ rfl, b0.cell 2 _ rfl, b0.cell 3 _ rfl, b0.cell 4 _ rfl, b0.cell 5 _ rfl, b1.cell 0 _ rfl, b1.cell 1 _ rfl, b1.cell 2 _ rfl, b1.cell 3 _ rfl, b1.cell 4 _ rfl, b1.cell 5 _ rfl, ba.cell 0 _ rfl, ba.cell 1 _ rfl, ba.cell 2 _ rfl, ba.cell 3 _ rfl, ba.cell 4 _ rfl, ba.cell 5 _ rfl, bb.cell 0 _ rfl, bb.cell 1 _ rfl, bb.cell 2 _ rfl, bb.cell 3 _ rfl, bb.cell 4 _ rfl, bb.cell 5 _ rfl⟩ (fun hHeld => ?_)
    clear hK K
    (try simp only [List.getElem_toArray, List.getElem_cons_succ, List.getElem_cons_zero, Act.put, List.setIfInBounds_toArray, List.set_cons_zero, List.set_cons_succ])
    refine wpAnyH_ready (rs := [5]) (by kernel_rfl) (by simp) (AllReadyH.cons (o := _) rfl (fun K hK => ?_) AllReadyH.nil)
    go_simp
    go_at_call 12
    refine (same4_t u0 u1 h0 h1 (by omega) rfl rfl).mono ?_
    rintro e w505 ⟨rfl, hb⟩
    replace r0 := r0.below hb
    replace r1 := r1.below hb
    replace r2 := r2.below hb
    replace r3 := r3.below hb
    replace f0 := f0.below hb
    replace f1 := f1.below hb
    replace f2 := f2.below hb
    replace f3 := f3.below hb
    replace h0 := h0.below hb
    replace h1 := h1.below hb
    replace h2 := h2.below hb
    replace h3 := h3.below hb
    replace u0 := u0.below hb
    replace u1 := u1.below hb
    replace b0 := b0.below hb
    replace b1 := b1.below hb
    replace ba := ba.below hb
    replace bb := bb.below hb
    replace H0 := H0.trans (hb.mono H0.size)
    clear hb
    clear u0
    clear u1
    go_wp2_with fail
    refine hK.out _ _ ⟨b0.cell 0 _ rfl, b0.cell 1 _ rfl, b0.cell 2 _ rfl, b0.cell 3 _ rfl, b0.cell 4 _ rfl, b0.cell 5 _ rfl, b1.cell 0 _ rfl, b1.cell 1 _ rfl, b1.cell 2 _ rfl, b1.cell 3 _ rfl, b1.cell 4 _ rfl, b1.cell 5 _ rfl, ba.cell 0 _ rfl, ba.cell 1 _ rfl, ba.cell 2 _ rfl, ba.cell 3 _ rfl, ba.cell 4 _ rfl, ba.cell 5 _ rfl, bb.cell 0 _ rfl, bb.cell 1 _ rfl, bb.cell 2 _ rfl, bb.cell 3 _ rfl, bb.cell 4 _ rfl, bb.cell 5 _ rfl⟩ (fun hHeld => ?_)
    clear hK K
    (try simp only [List.getElem_toArray, List.getElem_cons_succ, List.getElem_cons_zero, Act.put, List.setIfInBounds_toArray, List.set_cons_zero, List.set_cons_succ])
    refine wpAnyH_take (i := 6) (v := ?_) rfl (by kernel_rfl) (by kernel_rfl) (by kernel_rfl) (fun _ _ _ h => h) (Or.inl ⟨by rfl, ?_⟩) (by assumption) ?_
    rotate_left
    · (intro w hSw; (try dsimp only at hSw); go_simp; (try with_reducible rfl))
    (try simp only [List.getElem_toArray, List.getElem_cons_succ, List.getElem_cons_zero, Act.put, List.setIfInBounds_toArray, List.set_cons_zero, List.set_cons_succ])
    refine wpAnyH_take (i := 7) (v := ?_) rfl (by kernel_rfl) (by kernel_rfl) (by kernel_rfl) (fun _ _ _ h => h) (Or.inl ⟨by rfl, ?_⟩) (by assumption) ?_
    rotate_left
    · (intro w hSw; (try dsimp only at hSw); go_simp; (try with_reducible rfl))
    (try simp only [List.getElem_toArray, List.getElem_cons_succ, List.getElem_cons_zero, Act.put, List.setIfInBounds_toArray, List.set_cons_zero, List.set_cons_succ])
    refine wpAnyH_take (i := 8) (v := ?_) rfl (by kernel_rfl) (by kernel_rfl) (by kernel_rfl) (fun _ _ _ h => h) (Or.inl ⟨by rfl, ?_⟩) (by assumption) ?_
    rotate_left
    · (intro w hSw; (try dsimp only at hSw); go_simp; (try with_reducible rfl))
    (try simp only [List.getElem_toArray, List.getElem_cons_succ, List.getElem_cons_zero, Act.put, List.setIfInBounds_toArray, List.set_cons_zero, List.set_cons_succ])
    refine wpAnyH_take (i := 10) (v := ?_) rfl (by kernel_rfl) (by kernel_rfl) (by kernel_rfl) (fun _ _ _ h => h) (Or.inl ⟨by rfl, ?_⟩) (by assumption) ?_
    rotate_left
    · (intro w hSw; (try dsimp only at hSw); go_simp; (try with_reducible rfl))
    (try simp only [List.getElem_toArray, List.getElem_cons_succ, List.getElem_cons_zero, Act.put, List.setIfInBounds_toArray, List.set_cons_zero, List.set_cons_succ])
    refine wpAnyH_ready (rs := [9]) (by kernel_rfl) (by simp) (AllReadyH.cons (o := _) rfl (fun K hK => ?_) AllReadyH.nil)
    go_simp
    go_at_call 14
    refine (pnormal_b r0 r1 r2 r3 (by omega) (by omega) (by omega) (by omega) HNB.out).mono ?_
    rintro e w506 ⟨rfl, hb⟩
    replace r0 := r0.below hb
    replace r1 := r1.below hb
    replace r2 := r2.below hb
    replace r3 := r3.below hb
    replace f0 := f0.below hb
    replace f1 := f1.below hb
    replace f2 := f2.below hb
    replace f3 := f3.below hb
    replace h0 := h0.below hb
    replace h1 := h1.below hb
    replace h2 := h2.below hb
    replace h3 := h3.below hb
    replace b0 := b0.below hb
    replace b1 := b1.below hb
    replace ba := ba.below hb
    replace bb := bb.below hb
    replace H0 := H0.trans (hb.mono H0.size)
    clear hb
    go_wp2_with fail
    refine hK.out _ _ ⟨b0.cell 0 _ rfl, b0.cell 1 _ rfl, b0.cell 2 _ rfl, b0.cell 3 _ rfl, b0.cell 4 _ rfl, b0.cell 5 _ rfl, b1.cell 0 _ rfl, b1.cell 1 _ rfl, b1.cell 2 _ rfl, b1.cell 3 _ rfl, b1.cell 4 _ rfl, b1.cell 5 _ rfl, ba.cell 0 _ rfl, ba.cell 1 _ rfl, ba.cell 2 _ rfl, ba.cell 3 _ rfl, ba.cell 4 _ rfl, ba.cell 5 _ rfl, bb.cell 0 _ rfl, bb.cell 1 _ rfl, bb.cell 2 _ rfl, bb.cell 3 _ rfl, bb.cell 4 _ rfl, bb.cell 5 _ rfl⟩ (fun hHeld => ?_)
    clear hK K
    (try simp only [List.getElem_toArray, List.getElem_cons_succ, List.getElem_cons_zero, Act.put, List.setIfInBounds_toArray, List.set_cons_zero, List.set_cons_succ])
    refine wpAnyH_ready (rs := [11]) (by kernel_rfl) (by simp) (AllReadyH.cons (o := _) rfl (fun K hK => ?_) AllReadyH.nil)
    go_simp
    go_at_call 15
    refine (gnormal_b r0 r1 r2 r3 (by omega) (by omega) (by omega) (by omega) HNB.out).mono ?_
    rintro e w507 ⟨rfl, hb⟩
    replace r0 := r0.below hb
    replace r1 := r1.below hb
    replace r2 := r2.below hb
    replace r3 := r3.below hb
    replace f0 := f0.below hb
    replace f1 := f1.below hb
    replace f2 := f2.below hb
    replace f3 := f3.below hb
    replace h0 := h0.below hb
    replace h1 := h1.below hb
    replace h2 := h2.below hb
    replace h3 := h3.below hb
    replace b0 := b0.below hb
    replace b1 := b1.below hb
    replace ba := ba.below hb
    replace bb := bb.below hb
    replace H0 := H0.trans (hb.mono H0.size)
    clear hb
    go_wp2_with fail
    refine hK.out _ _ ⟨b0.cell 0 _ rfl, b0.cell 1 _ rfl, b0.cell 2 _ rfl, b0.cell 3 _ rfl, b0.cell 4 _ rfl, b0.cell 5 _ rfl, b1.cell 0 _ rfl, b1.cell 1 _ rfl, b1.cell 2 _ rfl, b1.cell 3 _ rfl, b1.cell 4 _ rfl, b1.cell 5 _ rfl, ba.cell 0 _ rfl, ba.cell 1 _ rfl, ba.cell 2 _ rfl, ba.cell 3 _ rfl, ba.cell 4 _ rfl, ba.cell 5 _ rfl, bb.cell 0 _ rfl, bb.cell 1 _ rfl, bb.cell 2 _ rfl, bb.cell 3 _ rfl, bb.cell 4 _ rfl, bb.cell 5 _ rfl⟩ (fun hHeld => ?_)
    clear hK K
    (try simp only [List.getElem_toArray, List.getElem_cons_succ, List.getElem_cons_zero, Act.put, List.setIfInBounds_toArray, List.set_cons_zero, List.set_cons_succ])
    refine wpAnyH_take (i := 12) (v := ?_) rfl (by kernel_rfl) (by kernel_rfl) (by kernel_rfl) (fun _ _ _ h => h) (Or.inl ⟨by rfl, ?_⟩) (by assumption) ?_
    rotate_left
    · (intro w hSw; (try dsimp only at hSw); go_simp; (try with_reducible rfl))
    (try simp only [List.getElem_toArray, List.getElem_cons_succ, List.getElem_cons_zero, Act.put, List.setIfInBounds_toArray, List.set_cons_zero, List.set_cons_succ])
    refine wpAnyH_take (i := 13) (v := ?_) rfl (by kernel_rfl) (by kernel_rfl) (by kernel_rfl) (fun _ _ _ h => h) (Or.inl ⟨by rfl, ?_⟩) (by assumption) ?_
    rotate_left
    · (intro w hSw; (try dsimp only at hSw); go_simp; (try with_reducible rfl))
    (try simp only [List.getElem_toArray, List.getElem_cons_succ, List.getElem_cons_zero, Act.put, List.setIfInBounds_toArray, List.set_cons_zero, List.set_cons_succ])
    refine wpAnyH_take (i := 14) (v := ?_) rfl (by kernel_rfl) (by kernel_rfl) (by kernel_rfl) (fun _ _ _ h => h) (Or.inl ⟨by rfl, ?_⟩) (by assumption) ?_
    rotate_left
    · (intro w hSw; (try dsimp only at hSw); go_simp; (try with_reducible rfl))
    (try simp only [List.getElem_toArray, List.getElem_cons_succ, List.getElem_cons_zero, Act.put, List.setIfInBounds_toArray, List.set_cons_zero, List.set_cons_succ])
    refine wpAnyH_take (i := 15) (v := ?_) rfl (by kernel_rfl) (by kernel_rfl) (by kernel_rfl) (fun _ _ _ h => h) (Or.inl ⟨by rfl, ?_⟩) (by assumption) ?_
    rotate_left
    · (intro w hSw; (try dsimp only at hSw); go_simp; (try with_reducible rfl))
    (try simp only [List.getElem_toArray, List.getElem_cons_succ, List.getElem_cons_zero, Act.put, List.setIfInBounds_toArray, List.set_cons_zero, List.set_cons_succ])
    refine wpAnyH_take (i := 16) (v := ?_) rfl (by kernel_rfl) (by kernel_rfl) (by kernel_rfl) (fun _ _ _ h => h) (Or.inl ⟨by rfl, ?_⟩) (by assumption) ?_
    rotate_left
    · (intro w hSw; (try dsimp only at hSw); go_simp; (try with_reducible rfl))
    (try simp only [List.getElem_toArray, List.getElem_cons_succ, List.getElem_cons_zero, Act.put, List.setIfInBounds_toArray, List.set_cons_zero, List.set_cons_succ])
    refine wpAnyH_take (i := 18) (v := ?_) rfl (by kernel_rfl) (by kernel_rfl) (by kernel_rfl) (fun _ _ _ h => h) (Or.inl ⟨by rfl, ?_⟩) (by assumption) ?_
    rotate_left
    · (intro w hSw; (try dsimp only at hSw); go_simp; (try with_reducible rfl))
    (try simp only [List.getElem_toArray, List.getElem_cons_succ, List.getElem_cons_zero, Act.put, List.setIfInBounds_toArray, List.set_cons_zero, List.set_cons_succ])
    refine wpAnyH_take (i := 19) (v := ?_) rfl (by kernel_rfl) (by kernel_rfl) (by kernel_rfl) (fun _ _ _ h => h) (Or.inl ⟨by rfl, ?_⟩) (by assumption) ?_
    rotate_left
    · (intro w hSw; (try dsimp only at hSw); go_simp; (try with_reducible rfl))
    (try simp only [List.getElem_toArray, List.getElem_cons_succ, List.getElem_cons_zero, Act.put, List.setIfInBounds_toArray, List.set_cons_zero, List.set_cons_succ])
    refine wpAnyH_ready (rs := [17]) (by kernel_rfl) (by simp) (AllReadyH.cons (o := _) rfl (fun K hK => ?_) AllReadyH.nil)
    go_simp
    go_at_call 16
    refine (psame_v f0 f1 f2 f3 (by omega) (by omega) Hkc.out).mono ?_
    rintro e w508 ⟨rfl, hb⟩
    replace r0 := r0.below hb
    replace r1 := r1.below hb
    replace r2 := r2.below hb
    replace r3 := r3.below hb
    replace f0 := f0.below hb
    replace f1 := f1.below hb
    replace f2 := f2.below hb
    replace f3 := f3.below hb
    replace h0 := h0.below hb
    replace h1 := h1.below hb
    replace h2 := h2.below hb
    replace h3 := h3.below hb
    replace b0 := b0.below hb
    replace b1 := b1.below hb
    replace ba := ba.below hb
    replace bb := bb.below hb
    replace H0 := H0.trans (hb.mono H0.size)
    clear hb
    go_wp2_with fail
    refine hK.out _ _ ⟨b0.cell 0 _ rfl, b0.cell 1 _ rfl, b0.cell 2 _ rfl, b0.cell 3 _ rfl, b0.cell 4 _ rfl, b0.cell 5 _ rfl, b1.cell 0 _ rfl, b1.cell 1 _ rfl, b1.cell 2 _ rfl, b1.cell 3 _ rfl, b1.cell 4 _ rfl, b1.cell 5 _ rfl, ba.cell 0 _ rfl, ba.cell 1 _ rfl, ba.cell 2 _ rfl, ba.cell 3 _ rfl, ba.cell 4 _ rfl, ba.cell 5 _ rfl, bb.cell 0 _ rfl, bb.cell 1 _ rfl, bb.cell 2 _ rfl, bb.cell 3 _ rfl, bb.cell 4 _ rfl, bb.cell 5 _ rfl⟩ (fun hHeld => ?_)
    clear hK K
    (try simp only [List.getElem_toArray, List.getElem_cons_succ, List.getElem_cons_zero, Act.put, List.setIfInBounds_toArray, List.set_cons_zero, List.set_cons_succ])
    refine wpAnyH_ready (rs := [20]) (by kernel_rfl) (by simp) (AllReadyH.cons (o := _) rfl (fun K hK => ?_) AllReadyH.nil)
    go_simp
    go_at_call 17
    refine (gsame_v h0 h1 h2 h3 (by omega) (by omega) Hkc.out).mono ?_
    rintro e w509 ⟨rfl, hb⟩
    replace r0 := r0.below hb
    replace r1 := r1.below hb
    replace r2 := r2.below hb
    replace r3 := r3.below hb
    replace f0 := f0.below hb
    replace f1 := f1.below hb
    replace f2 := f2.below hb
    replace f3 := f3.below hb
    replace h0 := h0.below hb
    replace h1 := h1.below hb
    replace h2 := h2.below hb
    replace h3 := h3.below hb
    replace b0 := b0.below hb
    replace b1 := b1.below hb
    replace ba := ba.below hb
    replace bb := bb.below hb
    replace H0 := H0.trans (hb.mono H0.size)
    clear hb
    go_wp2_with fail
    refine hK.out _ _ ⟨b0.cell 0 _ rfl, b0.cell 1 _ rfl, b0.cell 2 _ rfl, b0.cell 3 _ rfl, b0.cell 4 _ rfl, b0.cell 5 _ rfl, b1.cell 0 _ rfl, b1.cell 1 _ rfl, b1.cell 2 _ rfl, b1.cell 3 _ rfl, b1.cell 4 _ rfl, b1.cell 5 _ rfl, ba.cell 0 _ rfl, ba.cell 1 _ rfl, ba.cell 2 _ rfl, ba.cell 3 _ rfl, ba.cell 4 _ rfl, ba.cell 5 _ rfl, bb.cell 0 _ rfl, bb.cell 1 _ rfl, bb.cell 2 _ rfl, bb.cell 3 _ rfl, bb.cell 4 _ rfl, bb.cell 5 _ rfl⟩ (fun hHeld => ?_)
    clear hK K
    (try simp only [List.getElem_toArray, List.getElem_cons_succ, List.getElem_cons_zero, Act.put, List.setIfInBounds_toArray, List.set_cons_zero, List.set_cons_succ])
    refine wpAnyH_take (i := 21) (v := ?_) rfl (by kernel_rfl) (by kernel_rfl) (by kernel_rfl) (fun _ _ _ h => h) (Or.inl ⟨by rfl, ?_⟩) (by assumption) ?_
    rotate_left
    · (intro w hSw; (try dsimp only at hSw); go_simp; (try with_reducible rfl))
    (try simp only [List.getElem_toArray, List.getElem_cons_succ, List.getElem_cons_zero, Act.put, List.setIfInBounds_toArray, List.set_cons_zero, List.set_cons_succ])
    refine wpAnyH_take (i := 22) (v := ?_) rfl (by kernel_rfl) (by kernel_rfl) (by kernel_rfl) (fun _ _ _ h => h) (Or.inl ⟨by rfl, ?_⟩) (by assumption) ?_
    rotate_left
    · (intro w hSw; (try dsimp only at hSw); go_simp; (try with_reducible rfl))
    (try simp only [List.getElem_toArray, List.getElem_cons_succ, List.getElem_cons_zero, Act.put, List.setIfInBounds_toArray, List.set_cons_zero, List.set_cons_succ])
    refine wpAnyH_take (i := 23) (v := ?_) rfl (by kernel_rfl) (by kernel_rfl) (by kernel_rfl) (fun _ _ _ h => h) (Or.inl ⟨by rfl, ?_⟩) (by assumption) ?_
    rotate_left
    · (intro w hSw; (try dsimp only at hSw); go_simp; (try with_reducible rfl))
    (try simp only [List.getElem_toArray, List.getElem_cons_succ, List.getElem_cons_zero, Act.put, List.setIfInBounds_toArray, List.set_cons_zero, List.set_cons_succ])
    refine wpAnyH_take (i := 24) (v := ?_) rfl (by kernel_rfl) (by kernel_rfl) (by kernel_rfl) (fun _ _ _ h => h) (Or.inl ⟨by rfl, ?_⟩) (by assumption) ?_
    rotate_left
    · (intro w hSw; (try dsimp only at hSw); go_simp; (try with_reducible rfl))
    (try simp only [List.getElem_toArray, List.getElem_cons_succ, List.getElem_cons_zero, Act.put, List.setIfInBounds_toArray, List.set_cons_zero, List.set_cons_succ])
    refine wpAnyH_take (i := 25) (v := ?_) rfl (by kernel_rfl) (by kernel_rfl) (by kernel_rfl) (fun _ _ _ h => h) (Or.inl ⟨by rfl, ?_⟩) (by assumption) ?_
    rotate_left
    · (intro w hSw; (try dsimp only at hSw); go_simp; (try with_reducible rfl))
    (try simp only [List.getElem_toArray, List.getElem_cons_succ, List.getElem_cons_zero, Act.put, List.setIfInBounds_toArray, List.set_cons_zero, List.set_cons_succ])
    refine wpAnyH_take (i := 27) (v := ?_) rfl (by kernel_rfl) (by kernel_rfl) (by kernel_rfl) (fun _ _ _ h => h) (Or.inl ⟨by rfl, ?_⟩) (by assumption) ?_
    rotate_left
    · (intro w hSw; (try dsimp only at hSw); go_simp; (try with_reducible rfl))
    (try simp only [List.getElem_toArray, List.getElem_cons_succ, List.getElem_cons_zero, Act.put, List.setIfInBounds_toArray, List.set_cons_zero, List.set_cons_succ])
    refine wpAnyH_take (i := 28) (v := ?_) rfl (by kernel_rfl) (by kernel_rfl) (by kernel_rfl) (fun _ _ _ h => h) (Or.inl ⟨by rfl, ?_⟩) (by assumption) ?_
    rotate_left
    · (intro w hSw; (try dsimp only at hSw); go_simp; (try with_reducible rfl))
    (try simp only [List.getElem_toArray, List.getElem_cons_succ, List.getElem_cons_zero, Act.put, List.setIfInBounds_toArray, List.set_cons_zero, List.set_cons_succ])
    refine wpAnyH_ready (rs := [26]) (by kernel_rfl) (by simp) (AllReadyH.cons (o := _) rfl (fun K hK => ?_) AllReadyH.nil)
    go_simp
    go_at_call 18
    refine (pfromints_v z z' hz0 hz1 hz2 hz3 _).mono ?_
    rintro e w510 ⟨s14, A14, n14, c14, D14, m14, e14, s15, A15, n15, c15, D15, m15, e15, rfl, u2, u3, hb⟩
    replace r0 := r0.below hb
    replace r1 := r1.below hb
    replace r2 := r2.below hb
    replace r3 := r3.below hb
    replace f0 := f0.below hb
    replace f1 := f1.below hb
    replace f2 := f2.below hb
    replace f3 := f3.below hb
    replace h0 := h0.below hb
    replace h1 := h1.below hb
    replace h2 := h2.below hb
    replace h3 := h3.below hb
    replace b0 := b0.below hb
    replace b1 := b1.below hb
    replace ba := ba.below hb
    replace bb := bb.below hb
    replace H0 := H0.trans (hb.mono H0.size)
    clear hb
    go_wp2_with fail
    refine hK.out _ _ ⟨b0.cell 0 _ rfl, b0.cell 1 _ rfl, b0.cell 2 _ rfl, b0.cell 3 _ rfl, b0.cell 4 _ rfl, b0.cell 5 _ rfl, b1.cell 0 _ rfl, b1.cell 1 _ rfl, b1.cell 2 _ rfl, b1.cell 3 _ rfl, b1.cell 4 _ rfl, b1.cell 5 _ rfl, ba.cell 0 _ rfl, ba.cell 1 _ rfl, ba.cell 2 _ rfl, ba.cell 3 _ rfl, ba.cell 4 _ rfl, ba.cell 5 _ rfl, bb.cell 0 _ rfl, bb.cell 1 _ rfl, bb.cell 2 _ rfl, bb.cell 3 _ rfl, bb.cell 4 _ rfl, bb.cell 5 _ rfl⟩ (fun hHeld => ?_)
    clear hK K
    (try simp only [List.getElem_toArray, List.getElem_cons_succ, List.getElem_cons_zero, Act.put, List.setIfInBounds_toArray, List.set_cons_zero, List.set_cons_succ])
    refine wpAnyH_ready (rs := [29]) (by kernel_rfl) (by simp) (AllReadyH.cons (o := _) rfl (fun K hK => ?_) AllReadyH.nil)
    go_simp
    go_at_call 19
    refine (gxy_v z z' hz0 hz1 hz2 hz3 _).mono ?_
    rintro e w511 ⟨s16, A16, n16, c16, D16, m16, e16, s17, A17, n17, c17, D17, m17, e17, rfl, u4, u5, hb⟩
    replace r0 := r0.below hb
    replace r1 := r1.below hb
    replace r2 := r2.below hb
    replace r3 := r3.below hb
    replace f0 := f0.below hb
    replace f1 := f1.below hb
    replace f2 := f2.below hb
    replace f3 := f3.below hb
    replace h0 := h0.below hb
    replace h1 := h1.below hb
    replace h2 := h2.below hb
    replace h3 := h3.below hb
    replace u2 := u2.below hb
    replace u3 := u3.below hb
    replace b0 := b0.below hb
    replace b1 := b1.below hb
    replace ba := ba.below hb
    replace bb := bb.below hb
    replace H0 := H0.trans (hb.mono H0.size)
    clear hb
    go_wp2_with fail
    refine hK.out _ _ ⟨b0.cell 0 _ rfl, b0.cell 1 _ rfl, b0.cell 2 _ rfl, b0.cell 3 _ rfl, b0.cell 4 _ rfl, b0.cell 5 _ rfl, b1.cell 0 _ rfl, b1.cell 1 _ rfl, b1.cell 2 _ rfl, b1.cell 3 _ rfl, b1.cell 4 _ rfl, b1.cell 5 _ rfl, ba.cell 0 _ rfl, ba.cell 1 _ rfl, ba.cell 2 _ rfl, ba.cell 3 _ rfl, ba.cell 4 _ rfl, ba.cell 5 _ rfl, bb.cell 0 _ rfl, bb.cell 1 _ rfl, bb.cell 2 _ rfl, bb.cell 3 _ rfl, bb.cell 4 _ rfl, bb.cell 5 _ rfl⟩ (fun hHeld => ?_)
    clear hK K
    (try simp only [List.getElem_toArray, List.getElem_cons_succ, List.getElem_cons_zero, Act.put, List.setIfInBounds_toArray, List.set_cons_zero, List.set_cons_succ])
    refine wpAnyH_ready (rs := [30]) (by kernel_rfl) (by simp) (AllReadyH.cons (o := _) rfl (fun K hK => ?_) AllReadyH.nil)
    go_simp
    go_at_call 12
    refine (same4_t u2 u3 u4 u5 (by omega) rfl rfl).mono ?_
    rintro e w512 ⟨rfl, hb⟩
    replace r0 := r0.below hb
    replace r1 := r1.below hb
    replace r2 := r2.below hb
    replace r3 := r3.below hb
    replace f0 := f0.below hb
    replace f1 := f1.below hb
    replace f2 := f2.below hb
    replace f3 := f3.below hb
    replace h0 := h0.below hb
    replace h1 := h1.below hb
    replace h2 := h2.below hb
    replace h3 := h3.below hb
    replace u2 := u2.below hb
    replace u3 := u3.below hb
    replace u4 := u4.below hb
    replace u5 := u5.below hb
    replace b0 := b0.below hb
    replace b1 := b1.below hb
    replace ba := ba.below hb
    replace bb := bb.below hb
    replace H0 := H0.trans (hb.mono H0.size)
    clear hb
    clear u2
    clear u3
    clear u4
    clear u5
    go_wp2_with fail
    refine hK.out _ _ ⟨b0.cell 0 _ rfl, b0.cell 1 _ rfl, b0.cell 2 _ rfl, b0.cell 3 _ rfl, b0.cell 4 _ rfl, b0.cell 5 _ rfl, b1.cell 0 _ rfl, b1.cell 1 _ rfl, b1.cell 2 _ rfl, b1.cell 3 _ rfl, b1.cell 4 _ rfl, b1.cell 5 _ rfl, ba.cell 0 _ rfl, ba.cell 1 _ rfl, ba.cell 2 _ rfl, ba.cell 3 _ rfl, ba.cell 4 _ rfl, ba.cell 5 _ rfl, bb.cell 0 _ rfl, bb.cell 1 _ rfl, bb.cell 2 _ rfl, bb.cell 3 _ rfl, bb.cell 4 _ rfl, bb.cell 5 _ rfl⟩ (fun hHeld => ?_)
    clear hK K
    (try simp only [List.getElem_toArray, List.getElem_cons_succ, List.getElem_cons_zero, Act.put, List.setIfInBounds_toArray, List.set_cons_zero, List.set_cons_succ])
    refine wpAnyH_take (i := 31) (v := ?_) rfl (by kernel_rfl) (by kernel_rfl) (by kernel_rfl) (fun _ _ _ h => h) (Or.inl ⟨by rfl, ?_⟩) (by assumption) ?_
    rotate_left
    · (intro w hSw; (try dsimp only at hSw); go_simp; (try with_reducible rfl))
    (try simp only [List.getElem_toArray, List.getElem_cons_succ, List.getElem_cons_zero, Act.put, List.setIfInBounds_toArray, List.set_cons_zero, List.set_cons_succ])
    refine wpAnyH_take (i := 32) (v := ?_) rfl (by kernel_rfl) (by kernel_rfl) (by kernel_rfl) (fun _ _ _ h => h) (Or.inl ⟨by rfl, ?_⟩) (by assumption) ?_
    rotate_left
    · (intro w hSw; (try dsimp only at hSw); go_simp; (try with_reducible rfl))
    (try simp only [List.getElem_toArray, List.getElem_cons_succ, List.getElem_cons_zero, Act.put, List.setIfInBounds_toArray, List.set_cons_zero, List.set_cons_succ])
    refine wpAnyH_done (by kernel_rfl) ?_ _
    refine NoPanic.normal ?_
    go_wp2_with fail
    go_returns
    exact ⟨rfl, H0⟩
theorem rq_of_raw {ds es : List Nat} {A D : Option Addr} {n c m e : Nat} {s : Bool} (h : Raw w (.slice A n c) ds) (h' : Raw w (.slice D m e) es) (hn : n ≤ 6) (hm : m ≤ 6) : RQ w s (.slice A n c) (.slice D m e) (mkRat (sg s (val ds)) (val es)) 6 :=
  ⟨_, _, ⟨_, ⟨ds, h, rfl, by have := h.cap.1; omega⟩, rfl⟩, ⟨es, h', rfl, by have := h'.cap.1; omega⟩, rfl⟩
set_option maxRecDepth 100000 in
set_option maxHeartbeats 16000000 in
theorem pointforms_any (HR0 : n0 ≤ 6 → ∃ ds, Raw w (.slice A0 n0 c0) ds) (HR1 : m0 ≤ 6 → ∃ ds, Raw w (.slice D0 m0 e0) ds) (HR2 : n1 ≤ 6 → ∃ ds, Raw w (.slice A1 n1 c1) ds) (HR3 : m1 ≤ 6 → ∃ ds, Raw w (.slice D1 m1 e1) ds) (HR4 : n2 ≤ 6 → ∃ ds, Raw w (.slice A2 n2 c2) ds) (HR5 : m2 ≤ 6 → ∃ ds, Raw w (.slice D2 m2 e2) ds) (HR6 : n3 ≤ 6 → ∃ ds, Raw w (.slice A3 n3 c3) ds) (HR7 : m3 ≤ 6 → ∃ ds, Raw w (.slice D3 m3 e3) ds) (z z' : Int) (hz0 : -9223372036854775808 ≤ z) (hz1 : z ≤ 9223372036854775807) (hz2 : -9223372036854775808 ≤ z') (hz3 : z' ≤ 9223372036854775807) (htab : Lib.TabIs Tryz.prog w "internal/strconv.uint64pow10" .u64 Lib.pow10Tab) :
    Calls Tryz.prog 3 #[.agg #[.bool s0, .slice A0 n0 c0, .slice D0 m0 e0, .bool s1, .slice A1 n1 c1, .slice D1 m1 e1], .agg #[.bool s2, .slice A2 n2 c2, .slice D2 m2 e2, .bool s3, .slice A3 n3 c3, .slice D3 m3 e3], .int .i64 z, .int .i64 z'] w fun e w' => e = .returned (.bool true) ∧ Below w.heap.size w w' := by
  rcases Classical.em (few n0 m0 n1 m1) with hs0 | hs0
  · rcases Classical.em (few n2 m2 n3 m3) with hs1 | hs1
    · obtain ⟨d0, r0⟩ := HR0 hs0.1
      obtain ⟨d1, r1⟩ := HR1 hs0.2.1
      obtain ⟨d2, r2⟩ := HR2 hs0.2.2.1
      obtain ⟨d3, r3⟩ := HR3 hs0.2.2.2
      obtain ⟨d4, r4⟩ := HR4 hs1.1
      obtain ⟨d5, r5⟩ := HR5 hs1.2.1
      obtain ⟨d6, r6⟩ := HR6 hs1.2.2.1
      obtain ⟨d7, r7⟩ := HR7 hs1.2.2.2
      have l0 := r0.cap.1
      have l1 := r1.cap.1
      have l2 := r2.cap.1
      have l3 := r3.cap.1
      have k0 := hs0.1
      have k1 := hs0.2.1
      have k2 := hs0.2.2.1
      have k3 := hs0.2.2.2
      exact pforms_small hs0 hs1 (by omega) (by omega) (by omega) (by omega) r0 r1 r2 r3 (rq_of_raw r0 r1 hs0.1 hs0.2.1) (rq_of_raw r2 r3 hs0.2.2.1 hs0.2.2.2) (rq_of_raw r4 r5 hs1.1 hs1.2.1) (rq_of_raw r6 r7 hs1.2.2.1 hs1.2.2.2) z z' hz0 hz1 hz2 hz3 htab
    · skip
      have HK := Lib.hid (fun (W : World) (h : Below w.heap.size w W) => known4_any (Go.Joins.tab_stays (show Tryz.prog.globalNamed "internal/strconv.uint64pow10" = some 5 by kernel_rfl) htab h (Nat.le_refl _)))
      clear htab
      clear HR0
      clear HR1
      clear HR2
      clear HR3
      clear HR4
      clear HR5
      clear HR6
      clear HR7
      go_enter Tryz.func3, Tryz.ntmps3
      go_wp2_with fail
      obtain ⟨W0, hW, b0, b1, bs, hbW, hszW0⟩ := boxes3 w #[.bool s0, .slice A0 n0 c0, .slice D0 m0 e0, .bool s1, .slice A1 n1 c1, .slice D1 m1 e1] #[.bool s2, .slice A2 n2 c2, .slice D2 m2 e2, .bool s3, .slice A3 n3 c3, .slice D3 m3 e3] #[.bool s0, .slice A0 n0 c0, .slice D0 m0 e0, .bool s1, .slice A1 n1 c1, .slice D1 m1 e1, .bool s2, .slice A2 n2 c2, .slice D2 m2 e2, .bool s3, .slice A3 n3 c3, .slice D3 m3 e3] 29 29 29
      rw [hW]
      clear hW
      have H0 := hbW
      clear hbW
      refine (smallp_second bs hs0 hs1).mono ?_
      rintro e w1 ⟨rfl, hb⟩
      replace b0 := b0.below hb
      replace b1 := b1.below hb
      replace bs := bs.below hb
      replace H0 := H0.trans (hb.mono H0.size)
      clear hb
      go_wp2_with fail
      refine (HK.out _ H0).mono ?_
      rintro e w2 ⟨rfl, hb⟩
      replace b0 := b0.below hb
      replace b1 := b1.below hb
      replace bs := bs.below hb
      replace H0 := H0.trans (hb.mono H0.size)
      clear hb
      go_wp2_with fail
      go_returns
      exact ⟨rfl, H0⟩
  · skip
    have HK := Lib.hid (fun (W : World) (h : Below w.heap.size w W) => known4_any (Go.Joins.tab_stays (show Tryz.prog.globalNamed "internal/strconv.uint64pow10" = some 5 by kernel_rfl) htab h (Nat.le_refl _)))
    clear htab
    clear HR0
    clear HR1
    clear HR2
    clear HR3
    clear HR4
    clear HR5
    clear HR6
    clear HR7
    go_enter Tryz.func3, Tryz.ntmps3
    go_wp2_with fail
    obtain ⟨W0, hW, b0, b1, bs, hbW, hszW0⟩ := boxes3 w #[.bool s0, .slice A0 n0 c0, .slice D0 m0 e0, .bool s1, .slice A1 n1 c1, .slice D1 m1 e1] #[.bool s2, .slice A2 n2 c2, .slice D2 m2 e2, .bool s3, .slice A3 n3 c3, .slice D3 m3 e3] #[.bool s0, .slice A0 n0 c0, .slice D0 m0 e0, .bool s1, .slice A1 n1 c1, .slice D1 m1 e1, .bool s2, .slice A2 n2 c2, .slice D2 m2 e2, .bool s3, .slice A3 n3 c3, .slice D3 m3 e3] 29 29 29
    rw [hW]
    clear hW
    have H0 := hbW
    clear hbW
    refine (smallp_first bs hs0).mono ?_
    rintro e w1 ⟨rfl, hb⟩
    replace b0 := b0.below hb
    replace b1 := b1.below hb
    replace bs := bs.below hb
    replace H0 := H0.trans (hb.mono H0.size)
    clear hb
    go_wp2_with fail
    refine (HK.out _ H0).mono ?_
    rintro e w2 ⟨rfl, hb⟩
    replace b0 := b0.below hb
    replace b1 := b1.below hb
    replace bs := bs.below hb
    replace H0 := H0.trans (hb.mono H0.size)
    clear hb
    go_wp2_with fail
    go_returns
    exact ⟨rfl, H0⟩
end
end Go.Proofs.YtlpgbflajcfgpaaGreatDoor
