/-
  What some of the statements need.
-/
import Derived.Test.YtancgkmkbgkncaaGreatSBox
import Derived.Test.YtancgkmkbgkncaaGreatSDivLong
import Derived.Test.YtancgkmkbgkncaaGreatSFormI
import Derived.Test.YtancgkmkbgkncaaGreatSIGcd
import Derived.Test.YtancgkmkbgkncaaGreatSK1
import Derived.Test.YtancgkmkbgkncaaGreatSK2
import Derived.Test.YtancgkmkbgkncaaGreatSK3
import Derived.Test.YtancgkmkbgkncaaGreatSK4
import Derived.Test.YtancgkmkbgkncaaGreatSK5
import Derived.Test.YtancgkmkbgkncaaGreatSK6
import Derived.Test.YtancgkmkbgkncaaGreatSK7
import Derived.Test.YtancgkmkbgkncaaGreatSK8
import Derived.Test.YtancgkmkbgkncaaGreatSK9
import Derived.Test.YtancgkmkbgkncaaGreatSLnA
import Derived.Test.YtancgkmkbgkncaaGreatSLnB
import Derived.Test.YtancgkmkbgkncaaGreatSLnD
import Derived.Test.YtancgkmkbgkncaaGreatSLnG
import Derived.Test.YtancgkmkbgkncaaGreatSLnM
import Derived.Test.YtancgkmkbgkncaaGreatSLnP
import Derived.Test.YtancgkmkbgkncaaGreatSLnQ
import Derived.Test.YtancgkmkbgkncaaGreatSLnV
import Derived.Test.YtancgkmkbgkncaaGreatSLnW
import Derived.Test.YtancgkmkbgkncaaGreatSN1
import Derived.Test.YtancgkmkbgkncaaGreatSOrd
import Derived.Test.YtancgkmkbgkncaaGreatSPhase
import Derived.Test.YtancgkmkbgkncaaGreatSPtA
import Derived.Test.YtancgkmkbgkncaaGreatSPtG
import Derived.Test.YtancgkmkbgkncaaGreatSPtT
import Derived.Test.YtancgkmkbgkncaaGreatSR1
import Derived.Test.YtancgkmkbgkncaaGreatSRatA
import Derived.Test.YtancgkmkbgkncaaGreatSRatC
import Derived.Test.YtancgkmkbgkncaaGreatSRatD
import Derived.Test.YtancgkmkbgkncaaGreatSRatR
import Derived.Test.YtancgkmkbgkncaaGreatSRatS
import Derived.Test.YtancgkmkbgkncaaGreatSRatT
import Derived.Test.YtancgkmkbgkncaaGreatSS1
import Derived.Test.YtancgkmkbgkncaaGreatSShelf
import Derived.Deep.Cut
namespace Go.Proofs.YtancgkmkbgkncaaGreat
open Go.RowKit

section
variable {A0 A1 A2 A3 D0 D1 D2 D3 : Option Addr} {n0 n1 n2 n3 c0 c1 c2 c3 m0 m1 m2 m3 e0 e1 e2 e3 : Nat} {s0 s1 s2 s3 : Bool} {z z' z0 z1 z2 : Int} {q q' q0 q1 q2 : Rat} {L L0 L1 L2 x x0 x1 y : Nat} {k : Int} {w : World}
theorem div_mk {z0 z1 : Int} {d0 d1 : Nat} : mkRat z0 d0 / mkRat z1 d1 = Rat.divInt (z0 * (d1 : Int)) (z1 * (d0 : Int)) := by
  rw [Rat.div_def, ← Rat.divInt_ofNat z1 d1, Rat.inv_divInt, ← Rat.divInt_ofNat z0 d0, Rat.divInt_mul_divInt, Int.mul_comm (d0 : Int) z1]
end
end Go.Proofs.YtancgkmkbgkncaaGreat
namespace Go.Proofs.YtancgkmkbgkncaaGreat
open Go.RowKit

section
variable {A0 A1 A2 A3 A4 A5 A6 A7 D0 D1 D2 D3 D4 D5 D6 D7 : Option Addr} {n0 n1 n2 n3 n4 n5 n6 n7 c0 c1 c2 c3 c4 c5 c6 c7 m0 m1 m2 m3 m4 m5 m6 m7 e0 e1 e2 e3 e4 e5 e6 e7 : Nat} {s0 s1 s2 s3 s4 s5 s6 s7 : Bool} {q0 q1 q2 q3 q4 q5 q6 q7 : Rat} {z z' z0 z1 : Int} {L L0 L1 x x0 x1 y : Nat} {k : Int} {b : Bool} {w : World}
set_option maxRecDepth 100000 in
set_option maxHeartbeats 4000000 in
theorem gdot_v (h : PQ w s0 (.slice A0 n0 c0) (.slice D0 m0 e0) q0 L) (h' : PQ w s1 (.slice A1 n1 c1) (.slice D1 m1 e1) q1 L) (k1 : PQ w s2 (.slice A2 n2 c2) (.slice D2 m2 e2) q2 L0) (k1' : PQ w s3 (.slice A3 n3 c3) (.slice D3 m3 e3) q3 L0) (hL : L ≤ 45) (hL0 : L0 ≤ 45) :
    Calls Tryz.prog 90 #[.agg #[.bool s0, .slice A0 n0 c0, .slice D0 m0 e0, .bool s1, .slice A1 n1 c1, .slice D1 m1 e1], .agg #[.bool s2, .slice A2 n2 c2, .slice D2 m2 e2, .bool s3, .slice A3 n3 c3, .slice D3 m3 e3]] w fun e w' => ∃ s6 A6 n6 c6 D6 m6 e6, e = .returned (.agg #[.bool s6, .slice A6 n6 c6, .slice D6 m6 e6]) ∧ PQ w' s6 (.slice A6 n6 c6) (.slice D6 m6 e6) (q0 * q2 + q1 * q3) (2 * (max L 1 + max L0 1) + 3) ∧ Below w.heap.size w w' := by
  go_enter Tryz.func90, Tryz.ntmps90
  go_wp2_with fail
  obtain ⟨W0, hW, b0, b1, b9, hbW, hszW0⟩ := boxes3 w #[.bool s0, .slice A0 n0 c0, .slice D0 m0 e0, .bool s1, .slice A1 n1 c1, .slice D1 m1 e1] #[.bool s2, .slice A2 n2 c2, .slice D2 m2 e2, .bool s3, .slice A3 n3 c3, .slice D3 m3 e3] #[.bool false, .slice none 0 0, .slice none 0 0] 48 48 46
  rw [hW]
  clear hW
  replace h := h.below hbW
  replace h' := h'.below hbW
  replace k1 := k1.below hbW
  replace k1' := k1'.below hbW
  have H0 := hbW
  clear hbW
  have hD := drawn_below W0
  replace h := h.below hD
  replace h' := h'.below hD
  replace k1 := k1.below hD
  replace k1' := k1'.below hD
  replace b0 := b0.below hD
  replace b1 := b1.below hD
  replace b9 := b9.below hD
  replace H0 := H0.trans (hD.mono H0.size)
  clear hD
  refine wp_region_noPanic ?_
  refine wp_region_held_drew (S := (fun V => V.cell? ⟨w.heap.size, 0, none⟩ = some (.bool s0) ∧ V.cell? ⟨w.heap.size, 1, none⟩ = some (.slice A0 n0 c0) ∧ V.cell? ⟨w.heap.size, 2, none⟩ = some (.slice D0 m0 e0) ∧ V.cell? ⟨w.heap.size, 3, none⟩ = some (.bool s1) ∧ V.cell? ⟨w.heap.size, 4, none⟩ = some (.slice A1 n1 c1) ∧ V.cell? ⟨w.heap.size, 5, none⟩ = some (.slice D1 m1 e1) ∧ V.cell? ⟨w.heap.size + 1, 0, none⟩ = some (.bool s2) ∧ V.cell? ⟨w.heap.size + 1, 1, none⟩ = some (.slice A2 n2 c2) ∧ V.cell? ⟨w.heap.size + 1, 2, none⟩ = some (.slice D2 m2 e2) ∧ V.cell? ⟨w.heap.size + 1, 3, none⟩ = some (.bool s3) ∧ V.cell? ⟨w.heap.size + 1, 4, none⟩ = some (.slice A3 n3 c3) ∧ V.cell? ⟨w.heap.size + 1, 5, none⟩ = some (.slice D3 m3 e3))) (by kernel_rfl) ⟨b0.cell 0 _ rfl, b0.cell 1 _ rfl, b0.cell 2 _ rfl, b0.cell 3 _ rfl, b0.cell 4 _ rfl, b0.cell 5 _ rfl, b1.cell 0 _ rfl, b1.cell 1 _ rfl, b1.cell 2 _ rfl, b1.cell 3 _ rfl, b1.cell 4 _ rfl, b1.cell 5 _ rfl⟩ (fun hHeld => ?_)
  generalize W0.drew = v1 at H0 hHeld h h' k1 k1' b0 b1 b9 ⊢
  refine wpAnyH_take (i := 0) (v := ?_) rfl (by kernel_rfl) (by kernel_rfl) (by kernel_rfl) (fun _ _ _ h => h) (Or.inl ⟨by rfl, ?_⟩) (by assumption) ?_
  rotate_left
  · (intro w hSw; (try dsimp only at hSw); go_simp; (try with_reducible rfl))
  (try simp only [List.getElem_toArray, List.getElem_cons_zero, Act.put, List.setIfInBounds_toArray, List.set_cons_zero, List.set_cons_succ])
  refine wpAnyH_take (i := 2) (v := ?_) rfl (by kernel_rfl) (by kernel_rfl) (by kernel_rfl) (fun _ _ _ h => h) (Or.inl ⟨by rfl, ?_⟩) (by assumption) ?_
  rotate_left
  · (intro w hSw; (try dsimp only at hSw); go_simp; (try with_reducible rfl))
  (try simp only [List.getElem_toArray, List.getElem_cons_succ, List.getElem_cons_zero, Act.put, List.setIfInBounds_toArray, List.set_cons_zero, List.set_cons_succ])
  refine wpAnyH_take (i := 5) (v := ?_) rfl (by kernel_rfl) (by kernel_rfl) (by kernel_rfl) (fun _ _ _ h => h) (Or.inl ⟨by rfl, ?_⟩) (by assumption) ?_
  rotate_left
  · (intro w hSw; (try dsimp only at hSw); go_simp; (try with_reducible rfl))
  (try simp only [List.getElem_toArray, List.getElem_cons_succ, List.getElem_cons_zero, Act.put, List.setIfInBounds_toArray, List.set_cons_zero, List.set_cons_succ])
  refine wpAnyH_take (i := 7) (v := ?_) rfl (by kernel_rfl) (by kernel_rfl) (by kernel_rfl) (fun _ _ _ h => h) (Or.inl ⟨by rfl, ?_⟩) (by assumption) ?_
  rotate_left
  · (intro w hSw; (try dsimp only at hSw); go_simp; (try with_reducible rfl))
  (try simp only [List.getElem_toArray, List.getElem_cons_succ, List.getElem_cons_zero, Act.put, List.setIfInBounds_toArray, List.set_cons_zero, List.set_cons_succ])
  refine wpAnyH_take (i := 1) (v := ?_) rfl (by kernel_rfl) (by kernel_rfl) (by kernel_rfl) (fun _ _ _ h => h) (Or.inl ⟨by rfl, ?_⟩) (by assumption) ?_
  rotate_left
  · (intro w hSw; (try dsimp only at hSw); go_simp; (try with_reducible rfl))
  (try simp only [List.getElem_toArray, List.getElem_cons_succ, List.getElem_cons_zero, Act.put, List.setIfInBounds_toArray, List.set_cons_zero, List.set_cons_succ])
  refine wpAnyH_take (i := 3) (v := ?_) rfl (by kernel_rfl) (by kernel_rfl) (by kernel_rfl) (fun _ _ _ h => h) (Or.inl ⟨by rfl, ?_⟩) (by assumption) ?_
  rotate_left
  · (intro w hSw; (try dsimp only at hSw); go_simp; (try with_reducible rfl))
  (try simp only [List.getElem_toArray, List.getElem_cons_succ, List.getElem_cons_zero, Act.put, List.setIfInBounds_toArray, List.set_cons_zero, List.set_cons_succ])
  refine wpAnyH_take (i := 6) (v := ?_) rfl (by kernel_rfl) (by kernel_rfl) (by kernel_rfl) (fun _ _ _ h => h) (Or.inl ⟨by rfl, ?_⟩) (by assumption) ?_
  rotate_left
  · (intro w hSw; (try dsimp only at hSw); go_simp; (try with_reducible rfl))
  (try simp only [List.getElem_toArray, List.getElem_cons_succ, List.getElem_cons_zero, Act.put, List.setIfInBounds_toArray, List.set_cons_zero, List.set_cons_succ])
  refine wpAnyH_take (i := 8) (v := ?_) rfl (by kernel_rfl) (by kernel_rfl) (by kernel_rfl) (fun _ _ _ h => h) (Or.inl ⟨by rfl, ?_⟩) (by assumption) ?_
  rotate_left
  · (intro w hSw; (try dsimp only at hSw); go_simp; (try with_reducible rfl))
  (try simp only [List.getElem_toArray, List.getElem_cons_succ, List.getElem_cons_zero, Act.put, List.setIfInBounds_toArray, List.set_cons_zero, List.set_cons_succ])
  refine wpAnyH_ready (rs := [4]) (by kernel_rfl) (by simp) (AllReadyH.cons (o := _) rfl (fun K hK => ?_) AllReadyH.nil)
  go_simp
  go_at_call 70
  refine (ntimes_v h k1 (by omega) (by omega)).mono ?_
  rintro e w2 ⟨s4, A4, n4, c4, D4, m4, e4, rfl, g4, hb⟩
  replace h := h.below hb
  replace h' := h'.below hb
  replace k1 := k1.below hb
  replace k1' := k1'.below hb
  replace b0 := b0.below hb
  replace b1 := b1.below hb
  replace b9 := b9.below hb
  replace H0 := H0.trans (hb.mono H0.size)
  clear hb
  go_wp2_with fail
  refine hK.out _ _ ⟨b0.cell 0 _ rfl, b0.cell 1 _ rfl, b0.cell 2 _ rfl, b0.cell 3 _ rfl, b0.cell 4 _ rfl, b0.cell 5 _ rfl, b1.cell 0 _ rfl, b1.cell 1 _ rfl, b1.cell 2 _ rfl, b1.cell 3 _ rfl, b1.cell 4 _ rfl, b1.cell 5 _ rfl⟩ (fun hHeld => ?_)
  clear hK K
  (try simp only [List.getElem_toArray, List.getElem_cons_succ, List.getElem_cons_zero, Act.put, List.setIfInBounds_toArray, List.set_cons_zero, List.set_cons_succ])
  refine wpAnyH_ready (rs := [9]) (by kernel_rfl) (by simp) (AllReadyH.cons (o := _) rfl (fun K hK => ?_) AllReadyH.nil)
  go_simp
  go_at_call 70
  refine (ntimes_v h' k1' (by omega) (by omega)).mono ?_
  rintro e w3 ⟨s5, A5, n5, c5, D5, m5, e5, rfl, g5, hb⟩
  replace h := h.below hb
  replace h' := h'.below hb
  replace k1 := k1.below hb
  replace k1' := k1'.below hb
  replace g4 := g4.below hb
  replace b0 := b0.below hb
  replace b1 := b1.below hb
  replace b9 := b9.below hb
  replace H0 := H0.trans (hb.mono H0.size)
  clear hb
  go_wp2_with fail
  refine hK.out _ _ ⟨b0.cell 0 _ rfl, b0.cell 1 _ rfl, b0.cell 2 _ rfl, b0.cell 3 _ rfl, b0.cell 4 _ rfl, b0.cell 5 _ rfl, b1.cell 0 _ rfl, b1.cell 1 _ rfl, b1.cell 2 _ rfl, b1.cell 3 _ rfl, b1.cell 4 _ rfl, b1.cell 5 _ rfl⟩ (fun hHeld => ?_)
  clear hK K
  (try simp only [List.getElem_toArray, List.getElem_cons_succ, List.getElem_cons_zero, Act.put, List.setIfInBounds_toArray, List.set_cons_zero, List.set_cons_succ])
  refine wpAnyH_ready (rs := [10]) (by kernel_rfl) (by simp) (AllReadyH.cons (o := _) rfl (fun K hK => ?_) AllReadyH.nil)
  go_simp
  go_at_call 69
  refine (nplus_v g4 g5 (by omega) (by omega)).mono ?_
  rintro e w4 ⟨s6, A6, n6, c6, D6, m6, e6, rfl, g6, hb⟩
  replace h := h.below hb
  replace h' := h'.below hb
  replace k1 := k1.below hb
  replace k1' := k1'.below hb
  replace g4 := g4.below hb
  replace g5 := g5.below hb
  replace b0 := b0.below hb
  replace b1 := b1.below hb
  replace b9 := b9.below hb
  replace H0 := H0.trans (hb.mono H0.size)
  clear hb
  clear g4
  clear g5
  go_wp2_with fail
  refine hK.out _ _ ⟨b0.cell 0 _ rfl, b0.cell 1 _ rfl, b0.cell 2 _ rfl, b0.cell 3 _ rfl, b0.cell 4 _ rfl, b0.cell 5 _ rfl, b1.cell 0 _ rfl, b1.cell 1 _ rfl, b1.cell 2 _ rfl, b1.cell 3 _ rfl, b1.cell 4 _ rfl, b1.cell 5 _ rfl⟩ (fun hHeld => ?_)
  clear hK K
  (try simp only [List.getElem_toArray, List.getElem_cons_succ, List.getElem_cons_zero, Act.put, List.setIfInBounds_toArray, List.set_cons_zero, List.set_cons_succ])
  have cb90 := b9.cell 0 _ rfl
  have yb90 := b9.frozen 0
  have cb91 := b9.cell 1 _ rfl
  have yb91 := b9.frozen 1
  have cb92 := b9.cell 2 _ rfl
  have yb92 := b9.frozen 2
  refine wpAnyH_ready (rs := [11]) (by kernel_rfl) (by simp) (AllReadyH.cons (o := _) rfl (fun K hK => ?_) AllReadyH.nil)
  go_simp
  clear cb90 yb90 cb91 yb91 cb92 yb92
  have hg := only_store3 w4 (w.heap.size + 1 + 1) (.bool s6) (.slice A6 n6 c6) (.slice D6 m6 e6)
  have hB := b9.stored3 (.bool s6) (.slice A6 n6 c6) (.slice D6 m6 e6)
  generalize hX : (((w4.setCell ⟨w.heap.size + 1 + 1, 0, none⟩ (.bool s6)).setCell ⟨w.heap.size + 1 + 1, 1, none⟩ (.slice A6 n6 c6)).setCell ⟨w.heap.size + 1 + 1, 2, none⟩ (.slice D6 m6 e6)) = X5 at hg hB ⊢
  clear hX
  replace h := h.kept b9 (by simp [notInt]) hg
  replace h' := h'.kept b9 (by simp [notInt]) hg
  replace k1 := k1.kept b9 (by simp [notInt]) hg
  replace k1' := k1'.kept b9 (by simp [notInt]) hg
  replace g6 := g6.kept b9 (by simp [notInt]) hg
  replace b0 := b0.other hg (by omega)
  replace b1 := b1.other hg (by omega)
  replace b9 := hB
  replace H0 := below_only H0 hg (by omega) H0.size
  clear hg hB
  refine hK.out _ _ ⟨b0.cell 0 _ rfl, b0.cell 1 _ rfl, b0.cell 2 _ rfl, b0.cell 3 _ rfl, b0.cell 4 _ rfl, b0.cell 5 _ rfl, b1.cell 0 _ rfl, b1.cell 1 _ rfl, b1.cell 2 _ rfl, b1.cell 3 _ rfl, b1.cell 4 _ rfl, b1.cell 5 _ rfl⟩ (fun hHeld => ?_)
  clear hK K
  (try simp only [List.getElem_toArray, List.getElem_cons_succ, List.getElem_cons_zero, Act.put, List.setIfInBounds_toArray, List.set_cons_zero, List.set_cons_succ])
  refine wpAnyH_done (by kernel_rfl) ?_ _
  refine NoPanic.normal ?_
  go_wp2_with fail
  refine bodyPost_ret (ret_numq rfl rfl b9) rfl ?_
  exact ⟨s6, A6, n6, c6, D6, m6, e6, rfl, g6.more (by omega), H0⟩
end
end Go.Proofs.YtancgkmkbgkncaaGreat
namespace Go.Proofs.YtancgkmkbgkncaaGreat
open Go.RowKit

section
variable {A0 A1 A2 A3 D0 D1 D2 D3 : Option Addr} {n0 n1 n2 n3 c0 c1 c2 c3 m0 m1 m2 m3 e0 e1 e2 e3 : Nat} {s0 s1 s2 s3 : Bool} {z z' z0 z1 z2 : Int} {q q' q0 q1 q2 : Rat} {L L0 L1 L2 x x0 x1 y : Nat} {k : Int} {w : World}
theorem over_mk {q q' : Rat} {s : Bool} (hs : s = decide (q'.num < 0)) : mkRat (q.num * sg s q'.den) (q.den * q'.num.natAbs) = q / q' := by
  have h0 : q / q' = mkRat q.num q.den / mkRat q'.num q'.den := by rw [Rat.mkRat_self, Rat.mkRat_self]
  rw [h0, div_mk]
  have hsg : q'.num = sg s q'.num.natAbs := by
    subst hs
    by_cases h : q'.num < 0
    · rw [decide_eq_true h, sg_true]; omega
    · rw [decide_eq_false h, sg_false]; omega
  generalize q'.num.natAbs = m at hsg ⊢
  rw [hsg]
  cases s
  · rw [sg_false, sg_false, ← Rat.divInt_ofNat, Int.natCast_mul, Int.mul_comm (m : Int)]
  · rw [sg_true, sg_true, Int.neg_mul, Rat.divInt_neg', ← Rat.divInt_ofNat, Int.natCast_mul, Int.mul_comm (m : Int), Int.mul_neg]
theorem over_ne {q' : Rat} (h : q' ≠ 0) : q'.num.natAbs ≠ 0 := fun h1 => h (Rat.num_eq_zero.1 (by omega))
set_option maxRecDepth 100000 in
set_option maxHeartbeats 800000 in
theorem nover_v (h : PQ w s0 (.slice A0 n0 c0) (.slice D0 m0 e0) q L) (h' : PQ w s1 (.slice A1 n1 c1) (.slice D1 m1 e1) q' L0) (hL : L ≤ 100) (hL' : L0 ≤ 100) (h0 : q' ≠ 0) :
    Calls Tryz.prog 89 #[.agg #[.bool s0, .slice A0 n0 c0, .slice D0 m0 e0], .agg #[.bool s1, .slice A1 n1 c1, .slice D1 m1 e1]] w fun e w' => ∃ s3 A3 n3 c3 D3 m3 e3, e = .returned (.agg #[.bool s3, .slice A3 n3 c3, .slice D3 m3 e3]) ∧ PQ w' s3 (.slice A3 n3 c3) (.slice D3 m3 e3) (q / q') (max L 1 + max L0 1) ∧ Below w.heap.size w w' := by
  have HE : Hid (q / q' = mkRat (q.num * sg s1 q'.den) (q.den * q'.num.natAbs)) := Lib.hid (over_mk h'.1.2).symm
  have HN : Hid (q.den * q'.num.natAbs ≠ 0) := Lib.hid (Nat.mul_ne_zero q.den_nz (over_ne h0))
  have h1 := h.1
  have h1' := h'.1.1
  clear h0
  go_enter Tryz.func89, Tryz.ntmps89
  go_wp2_with fail
  obtain ⟨W0, hW, b0, b1, b2, hbW, hszW0⟩ := boxes3 w #[.bool s0, .slice A0 n0 c0, .slice D0 m0 e0] #[.bool s1, .slice A1 n1 c1, .slice D1 m1 e1] #[.bool false, .slice none 0 0, .slice none 0 0] 46 46 46
  rw [hW]
  clear hW
  replace h := h.below hbW
  replace h' := h'.below hbW
  replace h1 := h1.below hbW
  replace h1' := h1'.below hbW
  have H0 := hbW
  clear hbW
  have lcb0_1 := b0.lt
  have lcb1_1 := b1.lt
  have lcb2_1 := b2.lt
  go_cut [5] from 6 (fun u1_0 wx => ∃ g1_0 s6 A6 n6 c6, u1_0 = .pointer (some ⟨g1_0, 0, none⟩) ∧ NI wx s6 (.slice A6 n6 c6) (q.num * sg s1 q'.den) (L + max L0 1) ∧ Box wx g1_0 #[.bool s6, .slice A6 n6 c6] 35 ∧ W0.heap.size ≤ g1_0 ∧ Below W0.heap.size W0 wx)
  case first =>
    have hG := drawn_below W0
    refine wp_region_noPanic ?_
    refine wp_region_held_drew (S := (fun V => V.cell? ⟨w.heap.size, 0, none⟩ = some (.bool s0) ∧ V.cell? ⟨w.heap.size, 1, none⟩ = some (.slice A0 n0 c0) ∧ V.cell? ⟨w.heap.size, 2, none⟩ = some (.slice D0 m0 e0) ∧ V.cell? ⟨w.heap.size + 1, 0, none⟩ = some (.bool s1) ∧ V.cell? ⟨w.heap.size + 1, 1, none⟩ = some (.slice A1 n1 c1) ∧ V.cell? ⟨w.heap.size + 1, 2, none⟩ = some (.slice D1 m1 e1))) (by kernel_rfl) ⟨(b0.below hG).cell 0 _ rfl, (b0.below hG).cell 1 _ rfl, (b0.below hG).cell 2 _ rfl, (b1.below hG).cell 0 _ rfl, (b1.below hG).cell 1 _ rfl, (b1.below hG).cell 2 _ rfl⟩ (fun hHeld => ?_)
    generalize W0.drew = v1 at hG hHeld ⊢
    have sG := hG.size
    refine wpAnyH_take (i := 0) (v := ?_) rfl (by kernel_rfl) (by kernel_rfl) (by kernel_rfl) (fun _ _ _ h => h) (Or.inl ⟨by rfl, ?_⟩) (by assumption) ?_
    rotate_left
    · (intro w hSw; (try dsimp only at hSw); go_simp; (try with_reducible rfl))
    (try simp only [List.getElem_toArray, List.getElem_cons_zero, Act.put, List.setIfInBounds_toArray, List.set_cons_zero, List.set_cons_succ])
    refine wpAnyH_take (i := 1) (v := ?_) rfl (by kernel_rfl) (by kernel_rfl) (by kernel_rfl) (fun _ _ _ h => h) (Or.inl ⟨by rfl, ?_⟩) (by assumption) ?_
    rotate_left
    · (intro w hSw; (try dsimp only at hSw); go_simp; (try with_reducible rfl))
    (try simp only [List.getElem_toArray, List.getElem_cons_succ, List.getElem_cons_zero, Act.put, List.setIfInBounds_toArray, List.set_cons_zero, List.set_cons_succ])
    refine wpAnyH_take (i := 2) (v := ?_) rfl (by kernel_rfl) (by kernel_rfl) (by kernel_rfl) (fun _ _ _ h => h) (Or.inl ⟨by rfl, ?_⟩) (by assumption) ?_
    rotate_left
    · (intro w hSw; (try dsimp only at hSw); go_simp; (try with_reducible rfl))
    (try simp only [List.getElem_toArray, List.getElem_cons_succ, List.getElem_cons_zero, Act.put, List.setIfInBounds_toArray, List.set_cons_zero, List.set_cons_succ])
    refine wpAnyH_take (i := 3) (v := ?_) rfl (by kernel_rfl) (by kernel_rfl) (by kernel_rfl) (fun _ _ _ h => h) (Or.inl ⟨by rfl, ?_⟩) (by assumption) ?_
    rotate_left
    · (intro w hSw; (try dsimp only at hSw); go_simp; (try with_reducible rfl))
    (try simp only [List.getElem_toArray, List.getElem_cons_succ, List.getElem_cons_zero, Act.put, List.setIfInBounds_toArray, List.set_cons_zero, List.set_cons_succ])
    refine wpAnyH_take (i := 4) (v := ?_) rfl (by kernel_rfl) (by kernel_rfl) (by kernel_rfl) (fun _ _ _ h => h) (Or.inl ⟨by rfl, ?_⟩) (by assumption) ?_
    rotate_left
    · (intro w hSw; (try dsimp only at hSw); go_simp; (try with_reducible rfl))
    (try simp only [List.getElem_toArray, List.getElem_cons_succ, List.getElem_cons_zero, Act.put, List.setIfInBounds_toArray, List.set_cons_zero, List.set_cons_succ])
    refine wpAnyH_take (i := 5) (v := ?_) rfl (by kernel_rfl) (by kernel_rfl) (by kernel_rfl) (fun _ _ _ h => h) (Or.inl ⟨by rfl, ?_⟩) (by assumption) ?_
    rotate_left
    · (intro w hSw; (try dsimp only at hSw); go_simp; (try with_reducible rfl))
    (try simp only [List.getElem_toArray, List.getElem_cons_succ, List.getElem_cons_zero, Act.put, List.setIfInBounds_toArray, List.set_cons_zero, List.set_cons_succ])
    refine wpAnyH_ready (rs := [6, 9]) (by kernel_rfl) (by simp) (AllReadyH.cons (o := _) rfl (fun K hK => ?_) (AllReadyH.cons (o := _) rfl (fun K hK => ?_) AllReadyH.nil))
    · go_simp
      go_at_call 72
      refine (nden_v (h'.below hG)).mono ?_
      rintro e y1_1 ⟨A4, n4, c4, rfl, f4, hb9⟩
      have szy1_1 := hb9.size
      replace hG := hG.trans (hb9.mono sG)
      replace sG := hG.size
      clear hb9
      go_wp2_with fail
      refine hK.out _ _ ⟨(b0.below hG).cell 0 _ rfl, (b0.below hG).cell 1 _ rfl, (b0.below hG).cell 2 _ rfl, (b1.below hG).cell 0 _ rfl, (b1.below hG).cell 1 _ rfl, (b1.below hG).cell 2 _ rfl⟩ (fun hHeld => ?_)
      clear hK K
      (try simp only [List.getElem_toArray, List.getElem_cons_succ, List.getElem_cons_zero, Act.put, List.setIfInBounds_toArray, List.set_cons_zero, List.set_cons_succ])
      refine wpAnyH_ready (rs := [7, 9]) (by kernel_rfl) (by simp) (AllReadyH.cons (o := _) rfl (fun K hK => ?_) (AllReadyH.cons (o := _) rfl (fun K hK => ?_) AllReadyH.nil))
      · go_simp
        go_at_call 63
        refine (nmake_v s1 f4 rfl).mono ?_
        rintro e y1_2 ⟨s5, rfl, f5, hb9⟩
        have szy1_2 := hb9.size
        replace f4 := f4.below hb9
        replace hG := hG.trans (hb9.mono sG)
        replace sG := hG.size
        clear hb9
        clear f4
        go_wp2_with fail
        refine hK.out _ _ ⟨(b0.below hG).cell 0 _ rfl, (b0.below hG).cell 1 _ rfl, (b0.below hG).cell 2 _ rfl, (b1.below hG).cell 0 _ rfl, (b1.below hG).cell 1 _ rfl, (b1.below hG).cell 2 _ rfl⟩ (fun hHeld => ?_)
        clear hK K
        (try simp only [List.getElem_toArray, List.getElem_cons_succ, List.getElem_cons_zero, Act.put, List.setIfInBounds_toArray, List.set_cons_zero, List.set_cons_succ])
        refine wpAnyH_ready (rs := [8, 9]) (by kernel_rfl) (by simp) (AllReadyH.cons (o := _) rfl (fun K hK => ?_) (AllReadyH.cons (o := _) rfl (fun K hK => ?_) AllReadyH.nil))
        · go_simp
          go_at_call 123
          refine (nmul_v (h1.below hG) f5 (by omega) (by omega)).mono ?_
          rintro e y1_3 ⟨s6, A6, n6, c6, rfl, f6, hb9⟩
          have szy1_3 := hb9.size
          replace f5 := f5.below hb9
          replace hG := hG.trans (hb9.mono sG)
          replace sG := hG.size
          clear hb9
          clear f5
          go_wp2_with fail
          refine hK.out _ _ ⟨(b0.below hG).cell 0 _ rfl, (b0.below hG).cell 1 _ rfl, (b0.below hG).cell 2 _ rfl, (b1.below hG).cell 0 _ rfl, (b1.below hG).cell 1 _ rfl, (b1.below hG).cell 2 _ rfl⟩ (fun hHeld => ?_)
          clear hK K
          (try simp only [List.getElem_toArray, List.getElem_cons_succ, List.getElem_cons_zero, Act.put, List.setIfInBounds_toArray, List.set_cons_zero, List.set_cons_succ])
          refine wpAnyH_ready (rs := [9]) (by kernel_rfl) (by simp) (AllReadyH.cons (o := _) rfl (fun K hK => ?_) AllReadyH.nil)
          go_simp
          obtain ⟨y1_4, hV, b3, hb9, szy1_4⟩ := boxes1 y1_3 #[.bool false, .slice none 0 0] 35
          rw [hV]
          clear hV
          have gly1_4 : W0.heap.size ≤ y1_3.heap.size := sG
          replace f6 := f6.below hb9
          replace hG := hG.trans (hb9.mono sG)
          replace sG := hG.size
          clear hb9
          refine hK.out _ _ ⟨(b0.below hG).cell 0 _ rfl, (b0.below hG).cell 1 _ rfl, (b0.below hG).cell 2 _ rfl, (b1.below hG).cell 0 _ rfl, (b1.below hG).cell 1 _ rfl, (b1.below hG).cell 2 _ rfl⟩ (fun hHeld => ?_)
          clear hK K
          (try simp only [List.getElem_toArray, List.getElem_cons_succ, List.getElem_cons_zero, Act.put, List.setIfInBounds_toArray, List.set_cons_zero, List.set_cons_succ])
          have rb30 := b3.cell 0 _ rfl
          have qb30 := b3.frozen 0
          have rb31 := b3.cell 1 _ rfl
          have qb31 := b3.frozen 1
          refine wpAnyH_ready (rs := [10]) (by kernel_rfl) (by simp) (AllReadyH.cons (o := _) rfl (fun K hK => ?_) AllReadyH.nil)
          go_simp
          clear rb30 qb30
          clear rb31 qb31
          have hg := only_store y1_4 (y1_3.heap.size) (.bool s6) (.slice A6 n6 c6)
          have hB := b3.stored (.bool s6) (.slice A6 n6 c6)
          generalize hX : ((y1_4.setCell ⟨y1_3.heap.size, 0, none⟩ (.bool s6)).setCell ⟨y1_3.heap.size, 1, none⟩ (.slice A6 n6 c6)) = Y1_5 at hg hB ⊢
          clear hX
          replace f6 := f6.kept b3 (by simp [notInt]) hg
          replace b3 := hB
          replace hG := below_only hG hg (by omega) sG
          replace sG := hG.size
          clear hg hB
          refine hK.out _ _ ⟨(b0.below hG).cell 0 _ rfl, (b0.below hG).cell 1 _ rfl, (b0.below hG).cell 2 _ rfl, (b1.below hG).cell 0 _ rfl, (b1.below hG).cell 1 _ rfl, (b1.below hG).cell 2 _ rfl⟩ (fun hHeld => ?_)
          clear hK K
          (try simp only [List.getElem_toArray, List.getElem_cons_succ, List.getElem_cons_zero, Act.put, List.setIfInBounds_toArray, List.set_cons_zero, List.set_cons_succ])
          refine wpAnyH_done (by kernel_rfl) ?_ _
          refine NoPanic.normal ?_
          go_wp2_with fail
          go_meet
          exact ⟨y1_3.heap.size, s6, A6, n6, c6, rfl, f6.more (by omega), b3, (by omega), hG⟩
        · go_simp
          obtain ⟨y1_6, hV, b3, hb9, szy1_6⟩ := boxes1 y1_2 #[.bool false, .slice none 0 0] 35
          rw [hV]
          clear hV
          have gly1_6 : W0.heap.size ≤ y1_2.heap.size := sG
          replace f5 := f5.below hb9
          replace hG := hG.trans (hb9.mono sG)
          replace sG := hG.size
          clear hb9
          refine hK.out _ _ ⟨(b0.below hG).cell 0 _ rfl, (b0.below hG).cell 1 _ rfl, (b0.below hG).cell 2 _ rfl, (b1.below hG).cell 0 _ rfl, (b1.below hG).cell 1 _ rfl, (b1.below hG).cell 2 _ rfl⟩ (fun hHeld => ?_)
          clear hK K
          (try simp only [List.getElem_toArray, List.getElem_cons_succ, List.getElem_cons_zero, Act.put, List.setIfInBounds_toArray, List.set_cons_zero, List.set_cons_succ])
          refine wpAnyH_ready (rs := [8]) (by kernel_rfl) (by simp) (AllReadyH.cons (o := _) rfl (fun K hK => ?_) AllReadyH.nil)
          go_simp
          go_at_call 123
          refine (nmul_v (h1.below hG) f5 (by omega) (by omega)).mono ?_
          rintro e y1_7 ⟨s6, A6, n6, c6, rfl, f6, hb9⟩
          have szy1_7 := hb9.size
          replace f5 := f5.below hb9
          replace b3 := b3.below hb9
          replace hG := hG.trans (hb9.mono sG)
          replace sG := hG.size
          clear hb9
          clear f5
          go_wp2_with fail
          refine hK.out _ _ ⟨(b0.below hG).cell 0 _ rfl, (b0.below hG).cell 1 _ rfl, (b0.below hG).cell 2 _ rfl, (b1.below hG).cell 0 _ rfl, (b1.below hG).cell 1 _ rfl, (b1.below hG).cell 2 _ rfl⟩ (fun hHeld => ?_)
          clear hK K
          (try simp only [List.getElem_toArray, List.getElem_cons_succ, List.getElem_cons_zero, Act.put, List.setIfInBounds_toArray, List.set_cons_zero, List.set_cons_succ])
          have rb30 := b3.cell 0 _ rfl
          have qb30 := b3.frozen 0
          have rb31 := b3.cell 1 _ rfl
          have qb31 := b3.frozen 1
          refine wpAnyH_ready (rs := [10]) (by kernel_rfl) (by simp) (AllReadyH.cons (o := _) rfl (fun K hK => ?_) AllReadyH.nil)
          go_simp
          clear rb30 qb30
          clear rb31 qb31
          have hg := only_store y1_7 (y1_2.heap.size) (.bool s6) (.slice A6 n6 c6)
          have hB := b3.stored (.bool s6) (.slice A6 n6 c6)
          generalize hX : ((y1_7.setCell ⟨y1_2.heap.size, 0, none⟩ (.bool s6)).setCell ⟨y1_2.heap.size, 1, none⟩ (.slice A6 n6 c6)) = Y1_8 at hg hB ⊢
          clear hX
          replace f6 := f6.kept b3 (by simp [notInt]) hg
          replace b3 := hB
          replace hG := below_only hG hg (by omega) sG
          replace sG := hG.size
          clear hg hB
          refine hK.out _ _ ⟨(b0.below hG).cell 0 _ rfl, (b0.below hG).cell 1 _ rfl, (b0.below hG).cell 2 _ rfl, (b1.below hG).cell 0 _ rfl, (b1.below hG).cell 1 _ rfl, (b1.below hG).cell 2 _ rfl⟩ (fun hHeld => ?_)
          clear hK K
          (try simp only [List.getElem_toArray, List.getElem_cons_succ, List.getElem_cons_zero, Act.put, List.setIfInBounds_toArray, List.set_cons_zero, List.set_cons_succ])
          refine wpAnyH_done (by kernel_rfl) ?_ _
          refine NoPanic.normal ?_
          go_wp2_with fail
          go_meet
          exact ⟨y1_2.heap.size, s6, A6, n6, c6, rfl, f6.more (by omega), b3, (by omega), hG⟩
      · go_simp
        obtain ⟨y1_9, hV, b3, hb9, szy1_9⟩ := boxes1 y1_1 #[.bool false, .slice none 0 0] 35
        rw [hV]
        clear hV
        have gly1_9 : W0.heap.size ≤ y1_1.heap.size := sG
        replace f4 := f4.below hb9
        replace hG := hG.trans (hb9.mono sG)
        replace sG := hG.size
        clear hb9
        refine hK.out _ _ ⟨(b0.below hG).cell 0 _ rfl, (b0.below hG).cell 1 _ rfl, (b0.below hG).cell 2 _ rfl, (b1.below hG).cell 0 _ rfl, (b1.below hG).cell 1 _ rfl, (b1.below hG).cell 2 _ rfl⟩ (fun hHeld => ?_)
        clear hK K
        (try simp only [List.getElem_toArray, List.getElem_cons_succ, List.getElem_cons_zero, Act.put, List.setIfInBounds_toArray, List.set_cons_zero, List.set_cons_succ])
        refine wpAnyH_ready (rs := [7]) (by kernel_rfl) (by simp) (AllReadyH.cons (o := _) rfl (fun K hK => ?_) AllReadyH.nil)
        go_simp
        go_at_call 63
        refine (nmake_v s1 f4 rfl).mono ?_
        rintro e y1_10 ⟨s5, rfl, f5, hb9⟩
        have szy1_10 := hb9.size
        replace f4 := f4.below hb9
        replace b3 := b3.below hb9
        replace hG := hG.trans (hb9.mono sG)
        replace sG := hG.size
        clear hb9
        clear f4
        go_wp2_with fail
        refine hK.out _ _ ⟨(b0.below hG).cell 0 _ rfl, (b0.below hG).cell 1 _ rfl, (b0.below hG).cell 2 _ rfl, (b1.below hG).cell 0 _ rfl, (b1.below hG).cell 1 _ rfl, (b1.below hG).cell 2 _ rfl⟩ (fun hHeld => ?_)
        clear hK K
        (try simp only [List.getElem_toArray, List.getElem_cons_succ, List.getElem_cons_zero, Act.put, List.setIfInBounds_toArray, List.set_cons_zero, List.set_cons_succ])
        refine wpAnyH_ready (rs := [8]) (by kernel_rfl) (by simp) (AllReadyH.cons (o := _) rfl (fun K hK => ?_) AllReadyH.nil)
        go_simp
        go_at_call 123
        refine (nmul_v (h1.below hG) f5 (by omega) (by omega)).mono ?_
        rintro e y1_11 ⟨s6, A6, n6, c6, rfl, f6, hb9⟩
        have szy1_11 := hb9.size
        replace f5 := f5.below hb9
        replace b3 := b3.below hb9
        replace hG := hG.trans (hb9.mono sG)
        replace sG := hG.size
        clear hb9
        clear f5
        go_wp2_with fail
        refine hK.out _ _ ⟨(b0.below hG).cell 0 _ rfl, (b0.below hG).cell 1 _ rfl, (b0.below hG).cell 2 _ rfl, (b1.below hG).cell 0 _ rfl, (b1.below hG).cell 1 _ rfl, (b1.below hG).cell 2 _ rfl⟩ (fun hHeld => ?_)
        clear hK K
        (try simp only [List.getElem_toArray, List.getElem_cons_succ, List.getElem_cons_zero, Act.put, List.setIfInBounds_toArray, List.set_cons_zero, List.set_cons_succ])
        have rb30 := b3.cell 0 _ rfl
        have qb30 := b3.frozen 0
        have rb31 := b3.cell 1 _ rfl
        have qb31 := b3.frozen 1
        refine wpAnyH_ready (rs := [10]) (by kernel_rfl) (by simp) (AllReadyH.cons (o := _) rfl (fun K hK => ?_) AllReadyH.nil)
        go_simp
        clear rb30 qb30
        clear rb31 qb31
        have hg := only_store y1_11 (y1_1.heap.size) (.bool s6) (.slice A6 n6 c6)
        have hB := b3.stored (.bool s6) (.slice A6 n6 c6)
        generalize hX : ((y1_11.setCell ⟨y1_1.heap.size, 0, none⟩ (.bool s6)).setCell ⟨y1_1.heap.size, 1, none⟩ (.slice A6 n6 c6)) = Y1_12 at hg hB ⊢
        clear hX
        replace f6 := f6.kept b3 (by simp [notInt]) hg
        replace b3 := hB
        replace hG := below_only hG hg (by omega) sG
        replace sG := hG.size
        clear hg hB
        refine hK.out _ _ ⟨(b0.below hG).cell 0 _ rfl, (b0.below hG).cell 1 _ rfl, (b0.below hG).cell 2 _ rfl, (b1.below hG).cell 0 _ rfl, (b1.below hG).cell 1 _ rfl, (b1.below hG).cell 2 _ rfl⟩ (fun hHeld => ?_)
        clear hK K
        (try simp only [List.getElem_toArray, List.getElem_cons_succ, List.getElem_cons_zero, Act.put, List.setIfInBounds_toArray, List.set_cons_zero, List.set_cons_succ])
        refine wpAnyH_done (by kernel_rfl) ?_ _
        refine NoPanic.normal ?_
        go_wp2_with fail
        go_meet
        exact ⟨y1_1.heap.size, s6, A6, n6, c6, rfl, f6.more (by omega), b3, (by omega), hG⟩
    · go_simp
      obtain ⟨y1_13, hV, b3, hb9, szy1_13⟩ := boxes1 v1 #[.bool false, .slice none 0 0] 35
      rw [hV]
      clear hV
      have gly1_13 : W0.heap.size ≤ v1.heap.size := sG
      replace hG := hG.trans (hb9.mono sG)
      replace sG := hG.size
      clear hb9
      refine hK.out _ _ ⟨(b0.below hG).cell 0 _ rfl, (b0.below hG).cell 1 _ rfl, (b0.below hG).cell 2 _ rfl, (b1.below hG).cell 0 _ rfl, (b1.below hG).cell 1 _ rfl, (b1.below hG).cell 2 _ rfl⟩ (fun hHeld => ?_)
      clear hK K
      (try simp only [List.getElem_toArray, List.getElem_cons_succ, List.getElem_cons_zero, Act.put, List.setIfInBounds_toArray, List.set_cons_zero, List.set_cons_succ])
      refine wpAnyH_ready (rs := [6]) (by kernel_rfl) (by simp) (AllReadyH.cons (o := _) rfl (fun K hK => ?_) AllReadyH.nil)
      go_simp
      go_at_call 72
      refine (nden_v (h'.below hG)).mono ?_
      rintro e y1_14 ⟨A4, n4, c4, rfl, f4, hb9⟩
      have szy1_14 := hb9.size
      replace b3 := b3.below hb9
      replace hG := hG.trans (hb9.mono sG)
      replace sG := hG.size
      clear hb9
      go_wp2_with fail
      refine hK.out _ _ ⟨(b0.below hG).cell 0 _ rfl, (b0.below hG).cell 1 _ rfl, (b0.below hG).cell 2 _ rfl, (b1.below hG).cell 0 _ rfl, (b1.below hG).cell 1 _ rfl, (b1.below hG).cell 2 _ rfl⟩ (fun hHeld => ?_)
      clear hK K
      (try simp only [List.getElem_toArray, List.getElem_cons_succ, List.getElem_cons_zero, Act.put, List.setIfInBounds_toArray, List.set_cons_zero, List.set_cons_succ])
      refine wpAnyH_ready (rs := [7]) (by kernel_rfl) (by simp) (AllReadyH.cons (o := _) rfl (fun K hK => ?_) AllReadyH.nil)
      go_simp
      go_at_call 63
      refine (nmake_v s1 f4 rfl).mono ?_
      rintro e y1_15 ⟨s5, rfl, f5, hb9⟩
      have szy1_15 := hb9.size
      replace f4 := f4.below hb9
      replace b3 := b3.below hb9
      replace hG := hG.trans (hb9.mono sG)
      replace sG := hG.size
      clear hb9
      clear f4
      go_wp2_with fail
      refine hK.out _ _ ⟨(b0.below hG).cell 0 _ rfl, (b0.below hG).cell 1 _ rfl, (b0.below hG).cell 2 _ rfl, (b1.below hG).cell 0 _ rfl, (b1.below hG).cell 1 _ rfl, (b1.below hG).cell 2 _ rfl⟩ (fun hHeld => ?_)
      clear hK K
      (try simp only [List.getElem_toArray, List.getElem_cons_succ, List.getElem_cons_zero, Act.put, List.setIfInBounds_toArray, List.set_cons_zero, List.set_cons_succ])
      refine wpAnyH_ready (rs := [8]) (by kernel_rfl) (by simp) (AllReadyH.cons (o := _) rfl (fun K hK => ?_) AllReadyH.nil)
      go_simp
      go_at_call 123
      refine (nmul_v (h1.below hG) f5 (by omega) (by omega)).mono ?_
      rintro e y1_16 ⟨s6, A6, n6, c6, rfl, f6, hb9⟩
      have szy1_16 := hb9.size
      replace f5 := f5.below hb9
      replace b3 := b3.below hb9
      replace hG := hG.trans (hb9.mono sG)
      replace sG := hG.size
      clear hb9
      clear f5
      go_wp2_with fail
      refine hK.out _ _ ⟨(b0.below hG).cell 0 _ rfl, (b0.below hG).cell 1 _ rfl, (b0.below hG).cell 2 _ rfl, (b1.below hG).cell 0 _ rfl, (b1.below hG).cell 1 _ rfl, (b1.below hG).cell 2 _ rfl⟩ (fun hHeld => ?_)
      clear hK K
      (try simp only [List.getElem_toArray, List.getElem_cons_succ, List.getElem_cons_zero, Act.put, List.setIfInBounds_toArray, List.set_cons_zero, List.set_cons_succ])
      have rb30 := b3.cell 0 _ rfl
      have qb30 := b3.frozen 0
      have rb31 := b3.cell 1 _ rfl
      have qb31 := b3.frozen 1
      refine wpAnyH_ready (rs := [10]) (by kernel_rfl) (by simp) (AllReadyH.cons (o := _) rfl (fun K hK => ?_) AllReadyH.nil)
      go_simp
      clear rb30 qb30
      clear rb31 qb31
      have hg := only_store y1_16 (v1.heap.size) (.bool s6) (.slice A6 n6 c6)
      have hB := b3.stored (.bool s6) (.slice A6 n6 c6)
      generalize hX : ((y1_16.setCell ⟨v1.heap.size, 0, none⟩ (.bool s6)).setCell ⟨v1.heap.size, 1, none⟩ (.slice A6 n6 c6)) = Y1_17 at hg hB ⊢
      clear hX
      replace f6 := f6.kept b3 (by simp [notInt]) hg
      replace b3 := hB
      replace hG := below_only hG hg (by omega) sG
      replace sG := hG.size
      clear hg hB
      refine hK.out _ _ ⟨(b0.below hG).cell 0 _ rfl, (b0.below hG).cell 1 _ rfl, (b0.below hG).cell 2 _ rfl, (b1.below hG).cell 0 _ rfl, (b1.below hG).cell 1 _ rfl, (b1.below hG).cell 2 _ rfl⟩ (fun hHeld => ?_)
      clear hK K
      (try simp only [List.getElem_toArray, List.getElem_cons_succ, List.getElem_cons_zero, Act.put, List.setIfInBounds_toArray, List.set_cons_zero, List.set_cons_succ])
      refine wpAnyH_done (by kernel_rfl) ?_ _
      refine NoPanic.normal ?_
      go_wp2_with fail
      go_meet
      exact ⟨v1.heap.size, s6, A6, n6, c6, rfl, f6.more (by omega), b3, (by omega), hG⟩
  obtain ⟨g1_0, s6, A6, n6, c6, rfl, f6, b3, glg1_0, hG⟩ := hcut
  replace h := h.below hG
  replace h' := h'.below hG
  replace h1 := h1.below hG
  replace h1' := h1'.below hG
  replace b0 := b0.below hG
  replace b1 := b1.below hG
  replace b2 := b2.below hG
  replace H0 := H0.trans (hG.mono H0.size)
  clear hG
  clear h'
  clear h1
  have cb00 := b0.cell 0 _ rfl
  have cb01 := b0.cell 1 _ rfl
  have cb02 := b0.cell 2 _ rfl
  have cb10 := b1.cell 0 _ rfl
  have cb11 := b1.cell 1 _ rfl
  have cb12 := b1.cell 2 _ rfl
  have cb30 := b3.cell 0 _ rfl
  have cb31 := b3.cell 1 _ rfl
  go_wp2_with fail
  clear cb00 cb01 cb02 cb10 cb11 cb12 cb30 cb31
  have hD := drawn_below wc
  replace h := h.below hD
  replace h1' := h1'.below hD
  replace f6 := f6.below hD
  replace b0 := b0.below hD
  replace b1 := b1.below hD
  replace b2 := b2.below hD
  replace b3 := b3.below hD
  replace H0 := H0.trans (hD.mono H0.size)
  clear hD
  have K0 := (And.intro (b0.cell 0 _ rfl) (And.intro (b0.cell 1 _ rfl) (And.intro (b0.cell 2 _ rfl) (And.intro (b1.cell 0 _ rfl) (And.intro (b1.cell 1 _ rfl) (And.intro (b1.cell 2 _ rfl) (And.intro (b3.cell 0 _ rfl) (b3.cell 1 _ rfl))))))))
  go_region_held3 (fun V => V.cell? ⟨w.heap.size, 0, none⟩ = some (.bool s0) ∧ V.cell? ⟨w.heap.size, 1, none⟩ = some (.slice A0 n0 c0) ∧ V.cell? ⟨w.heap.size, 2, none⟩ = some (.slice D0 m0 e0) ∧ V.cell? ⟨w.heap.size + 1, 0, none⟩ = some (.bool s1) ∧ V.cell? ⟨w.heap.size + 1, 1, none⟩ = some (.slice A1 n1 c1) ∧ V.cell? ⟨w.heap.size + 1, 2, none⟩ = some (.slice D1 m1 e1) ∧ V.cell? ⟨g1_0, 0, none⟩ = some (.bool s6) ∧ V.cell? ⟨g1_0, 1, none⟩ = some (.slice A6 n6 c6)) (first | exact KS | exact K3 | exact K2 | exact K1 | exact K0 | go_keep)
    (first
      | (go_at_call 106; have hK9 := K2; clear hK9; with_reducible refine (nfrac_v (L := max L 1 + max L0 1) (f6.more (by omega)) (NV.more f8 (by omega)) HN.out (by omega)).mono ?_; rintro e v5 ⟨s9, A9, n9, c9, D9, m9, e9, rfl, fq, hb⟩; have f6 := f6.below hb; have f8 := f8.below hb; have b0 := b0.below hb; have b1 := b1.below hb; have b2 := b2.below hb; have b3 := b3.below hb; have H0 := H0.trans (hb.mono H0.size); clear f6; clear f8; have K3 := (And.intro (b0.cell 0 _ rfl) (And.intro (b0.cell 1 _ rfl) (And.intro (b0.cell 2 _ rfl) (And.intro (b1.cell 0 _ rfl) (And.intro (b1.cell 1 _ rfl) (And.intro (b1.cell 2 _ rfl) (And.intro (b3.cell 0 _ rfl) (b3.cell 1 _ rfl)))))))); have r0 := b2.cell 0 _ rfl; have f_0 := b2.frozen 0; have r1 := b2.cell 1 _ rfl; have f_1 := b2.frozen 1; have r2 := b2.cell 2 _ rfl; have f_2 := b2.frozen 2; have hg := only_store3 v5 (w.heap.size + 1 + 1) (.bool s9) (.slice A9 n9 c9) (.slice D9 m9 e9); have KS := (And.intro ((b0.other hg (by omega)).cell 0 _ rfl) (And.intro ((b0.other hg (by omega)).cell 1 _ rfl) (And.intro ((b0.other hg (by omega)).cell 2 _ rfl) (And.intro ((b1.other hg (by omega)).cell 0 _ rfl) (And.intro ((b1.other hg (by omega)).cell 1 _ rfl) (And.intro ((b1.other hg (by omega)).cell 2 _ rfl) (And.intro ((b3.other hg (by omega)).cell 0 _ rfl) ((b3.other hg (by omega)).cell 1 _ rfl)))))))); clear hb)
      | (go_at_call 71; have hK9 := K1; clear hK9; with_reducible refine (nprod_v f7 h1' (by omega) (by omega)).mono ?_; rintro e v4 ⟨A8, n8, c8, rfl, f8, hb⟩; have h1' := h1'.below hb; have f6 := f6.below hb; have f7 := f7.below hb; have b0 := b0.below hb; have b1 := b1.below hb; have b2 := b2.below hb; have b3 := b3.below hb; have H0 := H0.trans (hb.mono H0.size); clear f7; clear h1'; have K2 := (And.intro (b0.cell 0 _ rfl) (And.intro (b0.cell 1 _ rfl) (And.intro (b0.cell 2 _ rfl) (And.intro (b1.cell 0 _ rfl) (And.intro (b1.cell 1 _ rfl) (And.intro (b1.cell 2 _ rfl) (And.intro (b3.cell 0 _ rfl) (b3.cell 1 _ rfl)))))))); clear hb)
      | (go_at_call 72; have hK9 := K0; clear hK9; with_reducible refine (nden_v h).mono ?_; rintro e v3 ⟨A7, n7, c7, rfl, f7, hb⟩; have h := h.below hb; have h1' := h1'.below hb; have f6 := f6.below hb; have b0 := b0.below hb; have b1 := b1.below hb; have b2 := b2.below hb; have b3 := b3.below hb; have H0 := H0.trans (hb.mono H0.size); clear h; have K1 := (And.intro (b0.cell 0 _ rfl) (And.intro (b0.cell 1 _ rfl) (And.intro (b0.cell 2 _ rfl) (And.intro (b1.cell 0 _ rfl) (And.intro (b1.cell 1 _ rfl) (And.intro (b1.cell 2 _ rfl) (And.intro (b3.cell 0 _ rfl) (b3.cell 1 _ rfl)))))))); clear hb)
    )
  have hB := b2.stored3 (.bool s9) (.slice A9 n9 c9) (.slice D9 m9 e9)
  go_wp2_with fail
  generalize hX : (((v5.setCell ⟨w.heap.size + 1 + 1, 0, none⟩ (.bool s9)).setCell ⟨w.heap.size + 1 + 1, 1, none⟩ (.slice A9 n9 c9)).setCell ⟨w.heap.size + 1 + 1, 2, none⟩ (.slice D9 m9 e9)) = X6 at hg hB ⊢
  clear hX r0 f_0 r1 f_1 r2 f_2
  replace fq := fq.kept b2 (by simp [notInt]) hg
  replace b0 := b0.other hg (by omega)
  replace b1 := b1.other hg (by omega)
  replace b3 := b3.other hg (by omega)
  replace b2 := hB
  replace H0 := below_only H0 hg (by omega) H0.size
  clear hg hB
  refine bodyPost_ret (ret_numq rfl rfl b2) rfl ?_
  exact ⟨s9, A9, n9, c9, D9, m9, e9, rfl, by rw [HE.out]; exact fq, H0⟩
end
end Go.Proofs.YtancgkmkbgkncaaGreat
namespace Go.Proofs.YtancgkmkbgkncaaGreat
open Go.RowKit

section
variable {A0 A1 A2 A3 A4 A5 A6 A7 A8 A9 A10 A11 A12 A13 A14 A15 A16 A17 A18 A19 A20 A21 A22 A23 D0 D1 D2 D3 D4 D5 D6 D7 D8 D9 D10 D11 D12 D13 D14 D15 D16 D17 D18 D19 D20 D21 D22 D23 : Option Addr} {n0 n1 n2 n3 n4 n5 n6 n7 n8 n9 n10 n11 n12 n13 n14 n15 n16 n17 n18 n19 n20 n21 n22 n23 c0 c1 c2 c3 c4 c5 c6 c7 c8 c9 c10 c11 c12 c13 c14 c15 c16 c17 c18 c19 c20 c21 c22 c23 m0 m1 m2 m3 m4 m5 m6 m7 m8 m9 m10 m11 m12 m13 m14 m15 m16 m17 m18 m19 m20 m21 m22 m23 e0 e1 e2 e3 e4 e5 e6 e7 e8 e9 e10 e11 e12 e13 e14 e15 e16 e17 e18 e19 e20 e21 e22 e23 : Nat} {s0 s1 s2 s3 s4 s5 s6 s7 s8 s9 s10 s11 s12 s13 s14 s15 s16 s17 s18 s19 s20 s21 s22 s23 : Bool} {q0 q1 q2 q3 q4 q5 q6 q7 : Rat} {z0 z1 z2 z3 z4 z5 z6 z7 z8 z9 z10 z11 : Int} {L L0 L1 x y : Nat} {k : Int} {b : Bool} {w : World}
set_option maxRecDepth 100000 in
set_option maxHeartbeats 4000000 in
theorem gq_v (h0 : NI w s0 (.slice A0 n0 c0) z0 L) :
    Calls Tryz.prog 84 #[.agg #[.bool s0, .slice A0 n0 c0]] w fun e w' => ∃ s1 A1 n1 c1 D1 m1 e1, e = .returned (.agg #[.bool s1, .slice A1 n1 c1, .slice D1 m1 e1]) ∧ PQ w' s1 (.slice A1 n1 c1) (.slice D1 m1 e1) ((z0 : Rat)) (L) ∧ Below w.heap.size w w' := by
  obtain ⟨W0, hW, b0, hbW, hszW0⟩ := boxes1 w #[.bool s0, .slice A0 n0 c0] 35
  skip
  skip
  replace h0 := h0.below hbW
  have H0 := hbW
  clear hbW
  have hWa := hW
  clear hW
  have lb0_1 := b0.lt
  obtain ⟨W1, hW, b9, hbW, hszW1⟩ := boxes1 W0 #[.bool false, .slice none 0 0, .slice none 0 0] 46
  skip
  skip
  replace h0 := h0.below hbW
  replace b0 := b0.below hbW
  replace H0 := H0.trans (hbW.mono H0.size)
  clear hbW
  rw [hszW0] at b9
  have cb00 := b0.cell 0 _ rfl
  have cb01 := b0.cell 1 _ rfl
  have cb90 := b9.cell 0 _ rfl
  have yb90 := b9.frozen 0
  have cb91 := b9.cell 1 _ rfl
  have yb91 := b9.frozen 1
  have cb92 := b9.cell 2 _ rfl
  have yb92 := b9.frozen 2
  go_enter Tryz.func84, Tryz.ntmps84
  go_wp2_with fail
  clear cb00 cb01 cb90 yb90 cb91 yb91 cb92 yb92
  clear hW hWa
  have cb90 := b9.cell 0 _ rfl
  have yb90 := b9.frozen 0
  have cb91 := b9.cell 1 _ rfl
  have yb91 := b9.frozen 1
  have cb92 := b9.cell 2 _ rfl
  have yb92 := b9.frozen 2
  clear cb90 yb90 cb91 yb91 cb92 yb92
  have hg := only_store3 W1 (w.heap.size + 1) (.bool s0) (.slice A0 n0 c0) (.slice none 0 0)
  have hB := b9.stored3 (.bool s0) (.slice A0 n0 c0) (.slice none 0 0)
  generalize hX : (((W1.setCell ⟨w.heap.size + 1, 0, none⟩ (.bool s0)).setCell ⟨w.heap.size + 1, 1, none⟩ (.slice A0 n0 c0)).setCell ⟨w.heap.size + 1, 2, none⟩ (.slice none 0 0)) = X2 at hg hB ⊢
  clear hX
  replace h0 := h0.kept b9 (by simp [notInt]) hg
  replace b0 := b0.other hg (by omega)
  replace b9 := hB
  replace H0 := below_only H0 hg (by omega) H0.size
  clear hg hB
  refine bodyPost_ret (ret_numq rfl rfl b9) rfl ?_
  exact ⟨_, _, _, _, _, _, _, rfl, PQ.int h0, H0⟩
set_option maxRecDepth 100000 in
set_option maxHeartbeats 4000000 in
theorem lsamep_t (h : NQ w s0 (.slice A0 n0 c0) (.slice D0 m0 e0) q0 L) (h' : NQ w s1 (.slice A1 n1 c1) (.slice D1 m1 e1) q1 L) (k1 : PQ w s2 (.slice A2 n2 c2) (.slice D2 m2 e2) q2 L0) (k1' : PQ w s3 (.slice A3 n3 c3) (.slice D3 m3 e3) q3 L0) (hL0 : L0 ≤ 100000) (he : q0 = q2) (he' : q1 = q3) :
    Calls Tryz.prog 30 #[.agg #[.bool s0, .slice A0 n0 c0, .slice D0 m0 e0, .bool s1, .slice A1 n1 c1, .slice D1 m1 e1], .agg #[.bool s2, .slice A2 n2 c2, .slice D2 m2 e2, .bool s3, .slice A3 n3 c3, .slice D3 m3 e3]] w fun e w' => e = .returned (.bool true) ∧ Below w.heap.size w w' := by
  have HE := Lib.hid he
  have HF := Lib.hid he'
  clear he he'
  go_enter Tryz.func30, Tryz.ntmps30
  go_wp2_with fail
  obtain ⟨W0, hW, b0, b1, hbW, hszW0⟩ := boxes2 w #[.bool s0, .slice A0 n0 c0, .slice D0 m0 e0, .bool s1, .slice A1 n1 c1, .slice D1 m1 e1] #[.bool s2, .slice A2 n2 c2, .slice D2 m2 e2, .bool s3, .slice A3 n3 c3, .slice D3 m3 e3] 54 48
  rw [hW]
  clear hW
  replace h := h.below hbW
  replace h' := h'.below hbW
  replace k1 := k1.below hbW
  replace k1' := k1'.below hbW
  have H0 := hbW
  clear hbW
  have hD := drawn_below W0
  replace h := h.below hD
  replace h' := h'.below hD
  replace k1 := k1.below hD
  replace k1' := k1'.below hD
  replace b0 := b0.below hD
  replace b1 := b1.below hD
  replace H0 := H0.trans (hD.mono H0.size)
  clear hD
  refine wp_region_noPanic ?_
  refine wp_region_held_drew (S := (fun V => V.cell? ⟨w.heap.size, 0, none⟩ = some (.bool s0) ∧ V.cell? ⟨w.heap.size, 1, none⟩ = some (.slice A0 n0 c0) ∧ V.cell? ⟨w.heap.size, 2, none⟩ = some (.slice D0 m0 e0) ∧ V.cell? ⟨w.heap.size, 3, none⟩ = some (.bool s1) ∧ V.cell? ⟨w.heap.size, 4, none⟩ = some (.slice A1 n1 c1) ∧ V.cell? ⟨w.heap.size, 5, none⟩ = some (.slice D1 m1 e1) ∧ V.cell? ⟨w.heap.size + 1, 0, none⟩ = some (.bool s2) ∧ V.cell? ⟨w.heap.size + 1, 1, none⟩ = some (.slice A2 n2 c2) ∧ V.cell? ⟨w.heap.size + 1, 2, none⟩ = some (.slice D2 m2 e2) ∧ V.cell? ⟨w.heap.size + 1, 3, none⟩ = some (.bool s3) ∧ V.cell? ⟨w.heap.size + 1, 4, none⟩ = some (.slice A3 n3 c3) ∧ V.cell? ⟨w.heap.size + 1, 5, none⟩ = some (.slice D3 m3 e3))) (by kernel_rfl) ⟨b0.cell 0 _ rfl, b0.cell 1 _ rfl, b0.cell 2 _ rfl, b0.cell 3 _ rfl, b0.cell 4 _ rfl, b0.cell 5 _ rfl, b1.cell 0 _ rfl, b1.cell 1 _ rfl, b1.cell 2 _ rfl, b1.cell 3 _ rfl, b1.cell 4 _ rfl, b1.cell 5 _ rfl⟩ (fun hHeld => ?_)
  generalize W0.drew = v1 at H0 hHeld h h' k1 k1' b0 b1 ⊢
  refine wpAnyH_take (i := 0) (v := ?_) rfl (by kernel_rfl) (by kernel_rfl) (by kernel_rfl) (fun _ _ _ h => h) (Or.inl ⟨by rfl, ?_⟩) (by assumption) ?_
  rotate_left
  · (intro w hSw; (try dsimp only at hSw); go_simp; (try with_reducible rfl))
  (try simp only [List.getElem_toArray, List.getElem_cons_zero, Act.put, List.setIfInBounds_toArray, List.set_cons_zero, List.set_cons_succ])
  refine wpAnyH_take (i := 1) (v := ?_) rfl (by kernel_rfl) (by kernel_rfl) (by kernel_rfl) (fun _ _ _ h => h) (Or.inl ⟨by rfl, ?_⟩) (by assumption) ?_
  rotate_left
  · (intro w hSw; (try dsimp only at hSw); go_simp; (try with_reducible rfl))
  (try simp only [List.getElem_toArray, List.getElem_cons_succ, List.getElem_cons_zero, Act.put, List.setIfInBounds_toArray, List.set_cons_zero, List.set_cons_succ])
  refine wpAnyH_ready (rs := [2]) (by kernel_rfl) (by simp) (AllReadyH.cons (o := _) rfl (fun K hK => ?_) AllReadyH.nil)
  go_simp
  go_at_call 19
  refine (gtop_v k1 k1' hL0).mono ?_
  rintro e w2 ⟨s4, A4, n4, c4, D4, m4, e4, s5, A5, n5, c5, D5, m5, e5, rfl, g4, g5, hb⟩
  replace h := h.below hb
  replace h' := h'.below hb
  replace k1 := k1.below hb
  replace k1' := k1'.below hb
  replace b0 := b0.below hb
  replace b1 := b1.below hb
  replace H0 := H0.trans (hb.mono H0.size)
  clear hb
  clear k1
  clear k1'
  go_wp2_with fail
  refine hK.out _ _ ⟨b0.cell 0 _ rfl, b0.cell 1 _ rfl, b0.cell 2 _ rfl, b0.cell 3 _ rfl, b0.cell 4 _ rfl, b0.cell 5 _ rfl, b1.cell 0 _ rfl, b1.cell 1 _ rfl, b1.cell 2 _ rfl, b1.cell 3 _ rfl, b1.cell 4 _ rfl, b1.cell 5 _ rfl⟩ (fun hHeld => ?_)
  clear hK K
  (try simp only [List.getElem_toArray, List.getElem_cons_succ, List.getElem_cons_zero, Act.put, List.setIfInBounds_toArray, List.set_cons_zero, List.set_cons_succ])
  refine wpAnyH_ready (rs := [3]) (by kernel_rfl) (by simp) (AllReadyH.cons (o := _) rfl (fun K hK => ?_) AllReadyH.nil)
  go_simp
  go_at_call 43
  refine (samep_t h h' g4 g5 HE.out HF.out).mono ?_
  rintro e w3 ⟨rfl, hb⟩
  replace h := h.below hb
  replace h' := h'.below hb
  replace g4 := g4.below hb
  replace g5 := g5.below hb
  replace b0 := b0.below hb
  replace b1 := b1.below hb
  replace H0 := H0.trans (hb.mono H0.size)
  clear hb
  go_wp2_with fail
  refine hK.out _ _ ⟨b0.cell 0 _ rfl, b0.cell 1 _ rfl, b0.cell 2 _ rfl, b0.cell 3 _ rfl, b0.cell 4 _ rfl, b0.cell 5 _ rfl, b1.cell 0 _ rfl, b1.cell 1 _ rfl, b1.cell 2 _ rfl, b1.cell 3 _ rfl, b1.cell 4 _ rfl, b1.cell 5 _ rfl⟩ (fun hHeld => ?_)
  clear hK K
  (try simp only [List.getElem_toArray, List.getElem_cons_succ, List.getElem_cons_zero, Act.put, List.setIfInBounds_toArray, List.set_cons_zero, List.set_cons_succ])
  refine wpAnyH_take (i := 4) (v := ?_) rfl (by kernel_rfl) (by kernel_rfl) (by kernel_rfl) (fun _ _ _ h => h) (Or.inl ⟨by rfl, ?_⟩) (by assumption) ?_
  rotate_left
  · (intro w hSw; (try dsimp only at hSw); go_simp; (try with_reducible rfl))
  (try simp only [List.getElem_toArray, List.getElem_cons_succ, List.getElem_cons_zero, Act.put, List.setIfInBounds_toArray, List.set_cons_zero, List.set_cons_succ])
  refine wpAnyH_done (by kernel_rfl) ?_ _
  refine NoPanic.normal ?_
  go_wp2_with fail
  go_returns
  exact ⟨rfl, H0⟩
set_option maxRecDepth 100000 in
set_option maxHeartbeats 4000000 in
theorem gvalue_v (h0 : NI w s0 (.slice A0 n0 c0) z0 4) (h1 : NI w s1 (.slice A1 n1 c1) z1 4) (h2 : NI w s2 (.slice A2 n2 c2) z2 4) (h : PQ w s20 (.slice A20 n20 c20) (.slice D20 m20 e20) q0 4) (h' : PQ w s21 (.slice A21 n21 c21) (.slice D21 m21 e21) q1 4) :
    Calls Tryz.prog 27 #[.agg #[.bool s0, .slice A0 n0 c0, .bool s1, .slice A1 n1 c1, .bool s2, .slice A2 n2 c2], .agg #[.bool s20, .slice A20 n20 c20, .slice D20 m20 e20, .bool s21, .slice A21 n21 c21, .slice D21 m21 e21]] w fun e w' => ∃ s9 A9 n9 c9 D9 m9 e9, e = .returned (.agg #[.bool s9, .slice A9 n9 c9, .slice D9 m9 e9]) ∧ PQ w' s9 (.slice A9 n9 c9) (.slice D9 m9 e9) ((z0 : Rat) * q0 + (z1 : Rat) * q1 + (z2 : Rat)) (40) ∧ Below w.heap.size w w' := by
  go_enter Tryz.func27, Tryz.ntmps27
  go_wp2_with fail
  obtain ⟨W0, hW, b0, b1, b9, hbW, hszW0⟩ := boxes3 w #[.bool s0, .slice A0 n0 c0, .bool s1, .slice A1 n1 c1, .bool s2, .slice A2 n2 c2] #[.bool s20, .slice A20 n20 c20, .slice D20 m20 e20, .bool s21, .slice A21 n21 c21, .slice D21 m21 e21] #[.bool false, .slice none 0 0, .slice none 0 0] 37 48 46
  rw [hW]
  clear hW
  replace h0 := h0.below hbW
  replace h1 := h1.below hbW
  replace h2 := h2.below hbW
  replace h := h.below hbW
  replace h' := h'.below hbW
  have H0 := hbW
  clear hbW
  have hD := drawn_below W0
  replace h0 := h0.below hD
  replace h1 := h1.below hD
  replace h2 := h2.below hD
  replace h := h.below hD
  replace h' := h'.below hD
  replace b0 := b0.below hD
  replace b1 := b1.below hD
  replace b9 := b9.below hD
  replace H0 := H0.trans (hD.mono H0.size)
  clear hD
  refine wp_region_noPanic ?_
  refine wp_region_held_drew (S := (fun V => V.cell? ⟨w.heap.size, 0, none⟩ = some (.bool s0) ∧ V.cell? ⟨w.heap.size, 1, none⟩ = some (.slice A0 n0 c0) ∧ V.cell? ⟨w.heap.size, 2, none⟩ = some (.bool s1) ∧ V.cell? ⟨w.heap.size, 3, none⟩ = some (.slice A1 n1 c1) ∧ V.cell? ⟨w.heap.size, 4, none⟩ = some (.bool s2) ∧ V.cell? ⟨w.heap.size, 5, none⟩ = some (.slice A2 n2 c2) ∧ V.cell? ⟨w.heap.size + 1, 0, none⟩ = some (.bool s20) ∧ V.cell? ⟨w.heap.size + 1, 1, none⟩ = some (.slice A20 n20 c20) ∧ V.cell? ⟨w.heap.size + 1, 2, none⟩ = some (.slice D20 m20 e20) ∧ V.cell? ⟨w.heap.size + 1, 3, none⟩ = some (.bool s21) ∧ V.cell? ⟨w.heap.size + 1, 4, none⟩ = some (.slice A21 n21 c21) ∧ V.cell? ⟨w.heap.size + 1, 5, none⟩ = some (.slice D21 m21 e21))) (by kernel_rfl) ⟨b0.cell 0 _ rfl, b0.cell 1 _ rfl, b0.cell 2 _ rfl, b0.cell 3 _ rfl, b0.cell 4 _ rfl, b0.cell 5 _ rfl, b1.cell 0 _ rfl, b1.cell 1 _ rfl, b1.cell 2 _ rfl, b1.cell 3 _ rfl, b1.cell 4 _ rfl, b1.cell 5 _ rfl⟩ (fun hHeld => ?_)
  generalize W0.drew = v1 at H0 hHeld h0 h1 h2 h h' b0 b1 b9 ⊢
  refine wpAnyH_take (i := 0) (v := ?_) rfl (by kernel_rfl) (by kernel_rfl) (by kernel_rfl) (fun _ _ _ h => h) (Or.inl ⟨by rfl, ?_⟩) (by assumption) ?_
  rotate_left
  · (intro w hSw; (try dsimp only at hSw); go_simp; (try with_reducible rfl))
  (try simp only [List.getElem_toArray, List.getElem_cons_zero, Act.put, List.setIfInBounds_toArray, List.set_cons_zero, List.set_cons_succ])
  refine wpAnyH_take (i := 3) (v := ?_) rfl (by kernel_rfl) (by kernel_rfl) (by kernel_rfl) (fun _ _ _ h => h) (Or.inl ⟨by rfl, ?_⟩) (by assumption) ?_
  rotate_left
  · (intro w hSw; (try dsimp only at hSw); go_simp; (try with_reducible rfl))
  (try simp only [List.getElem_toArray, List.getElem_cons_succ, List.getElem_cons_zero, Act.put, List.setIfInBounds_toArray, List.set_cons_zero, List.set_cons_succ])
  refine wpAnyH_take (i := 6) (v := ?_) rfl (by kernel_rfl) (by kernel_rfl) (by kernel_rfl) (fun _ _ _ h => h) (Or.inl ⟨by rfl, ?_⟩) (by assumption) ?_
  rotate_left
  · (intro w hSw; (try dsimp only at hSw); go_simp; (try with_reducible rfl))
  (try simp only [List.getElem_toArray, List.getElem_cons_succ, List.getElem_cons_zero, Act.put, List.setIfInBounds_toArray, List.set_cons_zero, List.set_cons_succ])
  refine wpAnyH_take (i := 9) (v := ?_) rfl (by kernel_rfl) (by kernel_rfl) (by kernel_rfl) (fun _ _ _ h => h) (Or.inl ⟨by rfl, ?_⟩) (by assumption) ?_
  rotate_left
  · (intro w hSw; (try dsimp only at hSw); go_simp; (try with_reducible rfl))
  (try simp only [List.getElem_toArray, List.getElem_cons_succ, List.getElem_cons_zero, Act.put, List.setIfInBounds_toArray, List.set_cons_zero, List.set_cons_succ])
  refine wpAnyH_take (i := 13) (v := ?_) rfl (by kernel_rfl) (by kernel_rfl) (by kernel_rfl) (fun _ _ _ h => h) (Or.inl ⟨by rfl, ?_⟩) (by assumption) ?_
  rotate_left
  · (intro w hSw; (try dsimp only at hSw); go_simp; (try with_reducible rfl))
  (try simp only [List.getElem_toArray, List.getElem_cons_succ, List.getElem_cons_zero, Act.put, List.setIfInBounds_toArray, List.set_cons_zero, List.set_cons_succ])
  refine wpAnyH_take (i := 1) (v := ?_) rfl (by kernel_rfl) (by kernel_rfl) (by kernel_rfl) (fun _ _ _ h => h) (Or.inl ⟨by rfl, ?_⟩) (by assumption) ?_
  rotate_left
  · (intro w hSw; (try dsimp only at hSw); go_simp; (try with_reducible rfl))
  (try simp only [List.getElem_toArray, List.getElem_cons_succ, List.getElem_cons_zero, Act.put, List.setIfInBounds_toArray, List.set_cons_zero, List.set_cons_succ])
  refine wpAnyH_take (i := 4) (v := ?_) rfl (by kernel_rfl) (by kernel_rfl) (by kernel_rfl) (fun _ _ _ h => h) (Or.inl ⟨by rfl, ?_⟩) (by assumption) ?_
  rotate_left
  · (intro w hSw; (try dsimp only at hSw); go_simp; (try with_reducible rfl))
  (try simp only [List.getElem_toArray, List.getElem_cons_succ, List.getElem_cons_zero, Act.put, List.setIfInBounds_toArray, List.set_cons_zero, List.set_cons_succ])
  refine wpAnyH_take (i := 7) (v := ?_) rfl (by kernel_rfl) (by kernel_rfl) (by kernel_rfl) (fun _ _ _ h => h) (Or.inl ⟨by rfl, ?_⟩) (by assumption) ?_
  rotate_left
  · (intro w hSw; (try dsimp only at hSw); go_simp; (try with_reducible rfl))
  (try simp only [List.getElem_toArray, List.getElem_cons_succ, List.getElem_cons_zero, Act.put, List.setIfInBounds_toArray, List.set_cons_zero, List.set_cons_succ])
  refine wpAnyH_take (i := 10) (v := ?_) rfl (by kernel_rfl) (by kernel_rfl) (by kernel_rfl) (fun _ _ _ h => h) (Or.inl ⟨by rfl, ?_⟩) (by assumption) ?_
  rotate_left
  · (intro w hSw; (try dsimp only at hSw); go_simp; (try with_reducible rfl))
  (try simp only [List.getElem_toArray, List.getElem_cons_succ, List.getElem_cons_zero, Act.put, List.setIfInBounds_toArray, List.set_cons_zero, List.set_cons_succ])
  refine wpAnyH_take (i := 14) (v := ?_) rfl (by kernel_rfl) (by kernel_rfl) (by kernel_rfl) (fun _ _ _ h => h) (Or.inl ⟨by rfl, ?_⟩) (by assumption) ?_
  rotate_left
  · (intro w hSw; (try dsimp only at hSw); go_simp; (try with_reducible rfl))
  (try simp only [List.getElem_toArray, List.getElem_cons_succ, List.getElem_cons_zero, Act.put, List.setIfInBounds_toArray, List.set_cons_zero, List.set_cons_succ])
  refine wpAnyH_ready (rs := [2]) (by kernel_rfl) (by simp) (AllReadyH.cons (o := _) rfl (fun K hK => ?_) AllReadyH.nil)
  go_simp
  go_at_call 84
  refine (gq_v h0).mono ?_
  rintro e w2 ⟨s3, A3, n3, c3, D3, m3, e3, rfl, g3, hb⟩
  replace h0 := h0.below hb
  replace h1 := h1.below hb
  replace h2 := h2.below hb
  replace h := h.below hb
  replace h' := h'.below hb
  replace b0 := b0.below hb
  replace b1 := b1.below hb
  replace b9 := b9.below hb
  replace H0 := H0.trans (hb.mono H0.size)
  clear hb
  go_wp2_with fail
  refine hK.out _ _ ⟨b0.cell 0 _ rfl, b0.cell 1 _ rfl, b0.cell 2 _ rfl, b0.cell 3 _ rfl, b0.cell 4 _ rfl, b0.cell 5 _ rfl, b1.cell 0 _ rfl, b1.cell 1 _ rfl, b1.cell 2 _ rfl, b1.cell 3 _ rfl, b1.cell 4 _ rfl, b1.cell 5 _ rfl⟩ (fun hHeld => ?_)
  clear hK K
  (try simp only [List.getElem_toArray, List.getElem_cons_succ, List.getElem_cons_zero, Act.put, List.setIfInBounds_toArray, List.set_cons_zero, List.set_cons_succ])
  refine wpAnyH_ready (rs := [5]) (by kernel_rfl) (by simp) (AllReadyH.cons (o := _) rfl (fun K hK => ?_) AllReadyH.nil)
  go_simp
  go_at_call 70
  refine (ntimes_v g3 h (by omega) (by omega)).mono ?_
  rintro e w3 ⟨s4, A4, n4, c4, D4, m4, e4, rfl, g4, hb⟩
  replace h0 := h0.below hb
  replace h1 := h1.below hb
  replace h2 := h2.below hb
  replace h := h.below hb
  replace h' := h'.below hb
  replace g3 := g3.below hb
  replace b0 := b0.below hb
  replace b1 := b1.below hb
  replace b9 := b9.below hb
  replace H0 := H0.trans (hb.mono H0.size)
  clear hb
  clear g3
  go_wp2_with fail
  refine hK.out _ _ ⟨b0.cell 0 _ rfl, b0.cell 1 _ rfl, b0.cell 2 _ rfl, b0.cell 3 _ rfl, b0.cell 4 _ rfl, b0.cell 5 _ rfl, b1.cell 0 _ rfl, b1.cell 1 _ rfl, b1.cell 2 _ rfl, b1.cell 3 _ rfl, b1.cell 4 _ rfl, b1.cell 5 _ rfl⟩ (fun hHeld => ?_)
  clear hK K
  (try simp only [List.getElem_toArray, List.getElem_cons_succ, List.getElem_cons_zero, Act.put, List.setIfInBounds_toArray, List.set_cons_zero, List.set_cons_succ])
  refine wpAnyH_ready (rs := [8]) (by kernel_rfl) (by simp) (AllReadyH.cons (o := _) rfl (fun K hK => ?_) AllReadyH.nil)
  go_simp
  go_at_call 84
  refine (gq_v h1).mono ?_
  rintro e w4 ⟨s5, A5, n5, c5, D5, m5, e5, rfl, g5, hb⟩
  replace h0 := h0.below hb
  replace h1 := h1.below hb
  replace h2 := h2.below hb
  replace h := h.below hb
  replace h' := h'.below hb
  replace g4 := g4.below hb
  replace b0 := b0.below hb
  replace b1 := b1.below hb
  replace b9 := b9.below hb
  replace H0 := H0.trans (hb.mono H0.size)
  clear hb
  go_wp2_with fail
  refine hK.out _ _ ⟨b0.cell 0 _ rfl, b0.cell 1 _ rfl, b0.cell 2 _ rfl, b0.cell 3 _ rfl, b0.cell 4 _ rfl, b0.cell 5 _ rfl, b1.cell 0 _ rfl, b1.cell 1 _ rfl, b1.cell 2 _ rfl, b1.cell 3 _ rfl, b1.cell 4 _ rfl, b1.cell 5 _ rfl⟩ (fun hHeld => ?_)
  clear hK K
  (try simp only [List.getElem_toArray, List.getElem_cons_succ, List.getElem_cons_zero, Act.put, List.setIfInBounds_toArray, List.set_cons_zero, List.set_cons_succ])
  refine wpAnyH_ready (rs := [11]) (by kernel_rfl) (by simp) (AllReadyH.cons (o := _) rfl (fun K hK => ?_) AllReadyH.nil)
  go_simp
  go_at_call 70
  refine (ntimes_v g5 h' (by omega) (by omega)).mono ?_
  rintro e w5 ⟨s6, A6, n6, c6, D6, m6, e6, rfl, g6, hb⟩
  replace h0 := h0.below hb
  replace h1 := h1.below hb
  replace h2 := h2.below hb
  replace h := h.below hb
  replace h' := h'.below hb
  replace g4 := g4.below hb
  replace g5 := g5.below hb
  replace b0 := b0.below hb
  replace b1 := b1.below hb
  replace b9 := b9.below hb
  replace H0 := H0.trans (hb.mono H0.size)
  clear hb
  clear g5
  go_wp2_with fail
  refine hK.out _ _ ⟨b0.cell 0 _ rfl, b0.cell 1 _ rfl, b0.cell 2 _ rfl, b0.cell 3 _ rfl, b0.cell 4 _ rfl, b0.cell 5 _ rfl, b1.cell 0 _ rfl, b1.cell 1 _ rfl, b1.cell 2 _ rfl, b1.cell 3 _ rfl, b1.cell 4 _ rfl, b1.cell 5 _ rfl⟩ (fun hHeld => ?_)
  clear hK K
  (try simp only [List.getElem_toArray, List.getElem_cons_succ, List.getElem_cons_zero, Act.put, List.setIfInBounds_toArray, List.set_cons_zero, List.set_cons_succ])
  refine wpAnyH_ready (rs := [12]) (by kernel_rfl) (by simp) (AllReadyH.cons (o := _) rfl (fun K hK => ?_) AllReadyH.nil)
  go_simp
  go_at_call 69
  refine (nplus_v g4 g6 (by omega) (by omega)).mono ?_
  rintro e w6 ⟨s7, A7, n7, c7, D7, m7, e7, rfl, g7, hb⟩
  replace h0 := h0.below hb
  replace h1 := h1.below hb
  replace h2 := h2.below hb
  replace h := h.below hb
  replace h' := h'.below hb
  replace g4 := g4.below hb
  replace g6 := g6.below hb
  replace b0 := b0.below hb
  replace b1 := b1.below hb
  replace b9 := b9.below hb
  replace H0 := H0.trans (hb.mono H0.size)
  clear hb
  clear g4
  clear g6
  go_wp2_with fail
  refine hK.out _ _ ⟨b0.cell 0 _ rfl, b0.cell 1 _ rfl, b0.cell 2 _ rfl, b0.cell 3 _ rfl, b0.cell 4 _ rfl, b0.cell 5 _ rfl, b1.cell 0 _ rfl, b1.cell 1 _ rfl, b1.cell 2 _ rfl, b1.cell 3 _ rfl, b1.cell 4 _ rfl, b1.cell 5 _ rfl⟩ (fun hHeld => ?_)
  clear hK K
  (try simp only [List.getElem_toArray, List.getElem_cons_succ, List.getElem_cons_zero, Act.put, List.setIfInBounds_toArray, List.set_cons_zero, List.set_cons_succ])
  refine wpAnyH_ready (rs := [15]) (by kernel_rfl) (by simp) (AllReadyH.cons (o := _) rfl (fun K hK => ?_) AllReadyH.nil)
  go_simp
  go_at_call 84
  refine (gq_v h2).mono ?_
  rintro e w7 ⟨s8, A8, n8, c8, D8, m8, e8, rfl, g8, hb⟩
  replace h0 := h0.below hb
  replace h1 := h1.below hb
  replace h2 := h2.below hb
  replace h := h.below hb
  replace h' := h'.below hb
  replace g7 := g7.below hb
  replace b0 := b0.below hb
  replace b1 := b1.below hb
  replace b9 := b9.below hb
  replace H0 := H0.trans (hb.mono H0.size)
  clear hb
  go_wp2_with fail
  refine hK.out _ _ ⟨b0.cell 0 _ rfl, b0.cell 1 _ rfl, b0.cell 2 _ rfl, b0.cell 3 _ rfl, b0.cell 4 _ rfl, b0.cell 5 _ rfl, b1.cell 0 _ rfl, b1.cell 1 _ rfl, b1.cell 2 _ rfl, b1.cell 3 _ rfl, b1.cell 4 _ rfl, b1.cell 5 _ rfl⟩ (fun hHeld => ?_)
  clear hK K
  (try simp only [List.getElem_toArray, List.getElem_cons_succ, List.getElem_cons_zero, Act.put, List.setIfInBounds_toArray, List.set_cons_zero, List.set_cons_succ])
  refine wpAnyH_ready (rs := [16]) (by kernel_rfl) (by simp) (AllReadyH.cons (o := _) rfl (fun K hK => ?_) AllReadyH.nil)
  go_simp
  go_at_call 69
  refine (nplus_v g7 g8 (by omega) (by omega)).mono ?_
  rintro e w8 ⟨s9, A9, n9, c9, D9, m9, e9, rfl, g9, hb⟩
  replace h0 := h0.below hb
  replace h1 := h1.below hb
  replace h2 := h2.below hb
  replace h := h.below hb
  replace h' := h'.below hb
  replace g7 := g7.below hb
  replace g8 := g8.below hb
  replace b0 := b0.below hb
  replace b1 := b1.below hb
  replace b9 := b9.below hb
  replace H0 := H0.trans (hb.mono H0.size)
  clear hb
  clear g7
  clear g8
  go_wp2_with fail
  refine hK.out _ _ ⟨b0.cell 0 _ rfl, b0.cell 1 _ rfl, b0.cell 2 _ rfl, b0.cell 3 _ rfl, b0.cell 4 _ rfl, b0.cell 5 _ rfl, b1.cell 0 _ rfl, b1.cell 1 _ rfl, b1.cell 2 _ rfl, b1.cell 3 _ rfl, b1.cell 4 _ rfl, b1.cell 5 _ rfl⟩ (fun hHeld => ?_)
  clear hK K
  (try simp only [List.getElem_toArray, List.getElem_cons_succ, List.getElem_cons_zero, Act.put, List.setIfInBounds_toArray, List.set_cons_zero, List.set_cons_succ])
  have cb90 := b9.cell 0 _ rfl
  have yb90 := b9.frozen 0
  have cb91 := b9.cell 1 _ rfl
  have yb91 := b9.frozen 1
  have cb92 := b9.cell 2 _ rfl
  have yb92 := b9.frozen 2
  refine wpAnyH_ready (rs := [17]) (by kernel_rfl) (by simp) (AllReadyH.cons (o := _) rfl (fun K hK => ?_) AllReadyH.nil)
  go_simp
  clear cb90 yb90 cb91 yb91 cb92 yb92
  have hg := only_store3 w8 (w.heap.size + 1 + 1) (.bool s9) (.slice A9 n9 c9) (.slice D9 m9 e9)
  have hB := b9.stored3 (.bool s9) (.slice A9 n9 c9) (.slice D9 m9 e9)
  generalize hX : (((w8.setCell ⟨w.heap.size + 1 + 1, 0, none⟩ (.bool s9)).setCell ⟨w.heap.size + 1 + 1, 1, none⟩ (.slice A9 n9 c9)).setCell ⟨w.heap.size + 1 + 1, 2, none⟩ (.slice D9 m9 e9)) = X9 at hg hB ⊢
  clear hX
  replace h0 := h0.kept b9 (by simp [notInt]) hg
  replace h1 := h1.kept b9 (by simp [notInt]) hg
  replace h2 := h2.kept b9 (by simp [notInt]) hg
  replace h := h.kept b9 (by simp [notInt]) hg
  replace h' := h'.kept b9 (by simp [notInt]) hg
  replace g9 := g9.kept b9 (by simp [notInt]) hg
  replace b0 := b0.other hg (by omega)
  replace b1 := b1.other hg (by omega)
  replace b9 := hB
  replace H0 := below_only H0 hg (by omega) H0.size
  clear hg hB
  refine hK.out _ _ ⟨b0.cell 0 _ rfl, b0.cell 1 _ rfl, b0.cell 2 _ rfl, b0.cell 3 _ rfl, b0.cell 4 _ rfl, b0.cell 5 _ rfl, b1.cell 0 _ rfl, b1.cell 1 _ rfl, b1.cell 2 _ rfl, b1.cell 3 _ rfl, b1.cell 4 _ rfl, b1.cell 5 _ rfl⟩ (fun hHeld => ?_)
  clear hK K
  (try simp only [List.getElem_toArray, List.getElem_cons_succ, List.getElem_cons_zero, Act.put, List.setIfInBounds_toArray, List.set_cons_zero, List.set_cons_succ])
  refine wpAnyH_done (by kernel_rfl) ?_ _
  refine NoPanic.normal ?_
  go_wp2_with fail
  refine bodyPost_ret (ret_numq rfl rfl b9) rfl ?_
  exact ⟨_, _, _, _, _, _, _, rfl, g9.more (by omega), H0⟩
set_option maxRecDepth 100000 in
set_option maxHeartbeats 4000000 in
theorem gside_v (h0 : NI w s0 (.slice A0 n0 c0) z0 4) (h1 : NI w s1 (.slice A1 n1 c1) z1 4) (h2 : NI w s2 (.slice A2 n2 c2) z2 4) (h : PQ w s20 (.slice A20 n20 c20) (.slice D20 m20 e20) q0 4) (h' : PQ w s21 (.slice A21 n21 c21) (.slice D21 m21 e21) q1 4) (hk : rsg ((z0 : Rat) * q0 + (z1 : Rat) * q1 + (z2 : Rat)) = k) :
    Calls Tryz.prog 29 #[.agg #[.bool s0, .slice A0 n0 c0, .bool s1, .slice A1 n1 c1, .bool s2, .slice A2 n2 c2], .agg #[.bool s20, .slice A20 n20 c20, .slice D20 m20 e20, .bool s21, .slice A21 n21 c21, .slice D21 m21 e21]] w fun e w' => e = .returned (.int .i64 k) ∧ Below w.heap.size w w' := by
  have HK := Lib.hid hk
  clear hk
  go_enter Tryz.func29, Tryz.ntmps29
  go_wp2_with fail
  obtain ⟨W0, hW, b0, b1, hbW, hszW0⟩ := boxes2 w #[.bool s0, .slice A0 n0 c0, .bool s1, .slice A1 n1 c1, .bool s2, .slice A2 n2 c2] #[.bool s20, .slice A20 n20 c20, .slice D20 m20 e20, .bool s21, .slice A21 n21 c21, .slice D21 m21 e21] 37 48
  rw [hW]
  clear hW
  replace h0 := h0.below hbW
  replace h1 := h1.below hbW
  replace h2 := h2.below hbW
  replace h := h.below hbW
  replace h' := h'.below hbW
  have H0 := hbW
  clear hbW
  have cb00 := b0.cell 0 _ rfl
  have cb01 := b0.cell 1 _ rfl
  have cb02 := b0.cell 2 _ rfl
  have cb03 := b0.cell 3 _ rfl
  have cb04 := b0.cell 4 _ rfl
  have cb05 := b0.cell 5 _ rfl
  have cb10 := b1.cell 0 _ rfl
  have cb11 := b1.cell 1 _ rfl
  have cb12 := b1.cell 2 _ rfl
  have cb13 := b1.cell 3 _ rfl
  have cb14 := b1.cell 4 _ rfl
  have cb15 := b1.cell 5 _ rfl
  go_wp2_with fail
  clear cb00 cb01 cb02 cb03 cb04 cb05 cb10 cb11 cb12 cb13 cb14 cb15
  refine (gvalue_v h0 h1 h2 h h').mono ?_
  rintro e w1 ⟨s3, A3, n3, c3, D3, m3, e3, rfl, g3, hb⟩
  replace h0 := h0.below hb
  replace h1 := h1.below hb
  replace h2 := h2.below hb
  replace h := h.below hb
  replace h' := h'.below hb
  replace b0 := b0.below hb
  replace b1 := b1.below hb
  replace H0 := H0.trans (hb.mono H0.size)
  clear hb
  go_wp2_with fail
  refine (nqs_v g3 HK.out).mono ?_
  rintro e w2 ⟨rfl, hb⟩
  replace h0 := h0.below hb
  replace h1 := h1.below hb
  replace h2 := h2.below hb
  replace h := h.below hb
  replace h' := h'.below hb
  replace g3 := g3.below hb
  replace b0 := b0.below hb
  replace b1 := b1.below hb
  replace H0 := H0.trans (hb.mono H0.size)
  clear hb
  go_wp2_with fail
  go_returns
  exact ⟨rfl, H0⟩
set_option maxRecDepth 100000 in
set_option maxHeartbeats 4000000 in
theorem gdir_v (h0 : NI w s0 (.slice A0 n0 c0) z0 L) (h1 : NI w s1 (.slice A1 n1 c1) z1 L) :
    Calls Tryz.prog 32 #[.agg #[.bool s0, .slice A0 n0 c0, .bool s1, .slice A1 n1 c1, .bool s2, .slice A2 n2 c2]] w fun e w' => ∃ s12 A12 n12 c12 D12 m12 e12 s13 A13 n13 c13 D13 m13 e13, e = .returned (.agg #[.bool s12, .slice A12 n12 c12, .slice D12 m12 e12, .bool s13, .slice A13 n13 c13, .slice D13 m13 e13]) ∧ PQ w' s12 (.slice A12 n12 c12) (.slice D12 m12 e12) ((z1 : Rat)) (L) ∧ PQ w' s13 (.slice A13 n13 c13) (.slice D13 m13 e13) (-(z0 : Rat)) (L) ∧ Below w.heap.size w w' := by
  go_enter Tryz.func32, Tryz.ntmps32
  go_wp2_with fail
  obtain ⟨W0, hW, b0, b9, hbW, hszW0⟩ := boxes2 w #[.bool s0, .slice A0 n0 c0, .bool s1, .slice A1 n1 c1, .bool s2, .slice A2 n2 c2] #[.bool false, .slice none 0 0, .slice none 0 0, .bool false, .slice none 0 0, .slice none 0 0] 37 48
  rw [hW]
  clear hW
  replace h0 := h0.below hbW
  replace h1 := h1.below hbW
  have H0 := hbW
  clear hbW
  have hD := drawn_below W0
  replace h0 := h0.below hD
  replace h1 := h1.below hD
  replace b0 := b0.below hD
  replace b9 := b9.below hD
  replace H0 := H0.trans (hD.mono H0.size)
  clear hD
  refine wp_region_noPanic ?_
  refine wp_region_held_drew (S := (fun V => V.cell? ⟨w.heap.size, 0, none⟩ = some (.bool s0) ∧ V.cell? ⟨w.heap.size, 1, none⟩ = some (.slice A0 n0 c0) ∧ V.cell? ⟨w.heap.size, 2, none⟩ = some (.bool s1) ∧ V.cell? ⟨w.heap.size, 3, none⟩ = some (.slice A1 n1 c1) ∧ V.cell? ⟨w.heap.size, 4, none⟩ = some (.bool s2) ∧ V.cell? ⟨w.heap.size, 5, none⟩ = some (.slice A2 n2 c2))) (by kernel_rfl) ⟨b0.cell 0 _ rfl, b0.cell 1 _ rfl, b0.cell 2 _ rfl, b0.cell 3 _ rfl, b0.cell 4 _ rfl, b0.cell 5 _ rfl⟩ (fun hHeld => ?_)
  generalize W0.drew = v1 at H0 hHeld h0 h1 b0 b9 ⊢
  refine wpAnyH_take (i := 0) (v := ?_) rfl (by kernel_rfl) (by kernel_rfl) (by kernel_rfl) (fun _ _ _ h => h) (Or.inl ⟨by rfl, ?_⟩) (by assumption) ?_
  rotate_left
  · (intro w hSw; (try dsimp only at hSw); go_simp; (try with_reducible rfl))
  (try simp only [List.getElem_toArray, List.getElem_cons_zero, Act.put, List.setIfInBounds_toArray, List.set_cons_zero, List.set_cons_succ])
  refine wpAnyH_take (i := 3) (v := ?_) rfl (by kernel_rfl) (by kernel_rfl) (by kernel_rfl) (fun _ _ _ h => h) (Or.inl ⟨by rfl, ?_⟩) (by assumption) ?_
  rotate_left
  · (intro w hSw; (try dsimp only at hSw); go_simp; (try with_reducible rfl))
  (try simp only [List.getElem_toArray, List.getElem_cons_succ, List.getElem_cons_zero, Act.put, List.setIfInBounds_toArray, List.set_cons_zero, List.set_cons_succ])
  refine wpAnyH_take (i := 1) (v := ?_) rfl (by kernel_rfl) (by kernel_rfl) (by kernel_rfl) (fun _ _ _ h => h) (Or.inl ⟨by rfl, ?_⟩) (by assumption) ?_
  rotate_left
  · (intro w hSw; (try dsimp only at hSw); go_simp; (try with_reducible rfl))
  (try simp only [List.getElem_toArray, List.getElem_cons_succ, List.getElem_cons_zero, Act.put, List.setIfInBounds_toArray, List.set_cons_zero, List.set_cons_succ])
  refine wpAnyH_take (i := 4) (v := ?_) rfl (by kernel_rfl) (by kernel_rfl) (by kernel_rfl) (fun _ _ _ h => h) (Or.inl ⟨by rfl, ?_⟩) (by assumption) ?_
  rotate_left
  · (intro w hSw; (try dsimp only at hSw); go_simp; (try with_reducible rfl))
  (try simp only [List.getElem_toArray, List.getElem_cons_succ, List.getElem_cons_zero, Act.put, List.setIfInBounds_toArray, List.set_cons_zero, List.set_cons_succ])
  refine wpAnyH_ready (rs := [2]) (by kernel_rfl) (by simp) (AllReadyH.cons (o := _) rfl (fun K hK => ?_) AllReadyH.nil)
  go_simp
  go_at_call 84
  refine (gq_v h1).mono ?_
  rintro e w2 ⟨s3, A3, n3, c3, D3, m3, e3, rfl, g3, hb⟩
  replace h0 := h0.below hb
  replace h1 := h1.below hb
  replace b0 := b0.below hb
  replace b9 := b9.below hb
  replace H0 := H0.trans (hb.mono H0.size)
  clear hb
  go_wp2_with fail
  refine hK.out _ _ ⟨b0.cell 0 _ rfl, b0.cell 1 _ rfl, b0.cell 2 _ rfl, b0.cell 3 _ rfl, b0.cell 4 _ rfl, b0.cell 5 _ rfl⟩ (fun hHeld => ?_)
  clear hK K
  (try simp only [List.getElem_toArray, List.getElem_cons_succ, List.getElem_cons_zero, Act.put, List.setIfInBounds_toArray, List.set_cons_zero, List.set_cons_succ])
  refine wpAnyH_ready (rs := [5]) (by kernel_rfl) (by simp) (AllReadyH.cons (o := _) rfl (fun K hK => ?_) AllReadyH.nil)
  go_simp
  go_at_call 84
  refine (gq_v h0).mono ?_
  rintro e w3 ⟨s4, A4, n4, c4, D4, m4, e4, rfl, g4, hb⟩
  replace h0 := h0.below hb
  replace h1 := h1.below hb
  replace g3 := g3.below hb
  replace b0 := b0.below hb
  replace b9 := b9.below hb
  replace H0 := H0.trans (hb.mono H0.size)
  clear hb
  go_wp2_with fail
  refine hK.out _ _ ⟨b0.cell 0 _ rfl, b0.cell 1 _ rfl, b0.cell 2 _ rfl, b0.cell 3 _ rfl, b0.cell 4 _ rfl, b0.cell 5 _ rfl⟩ (fun hHeld => ?_)
  clear hK K
  (try simp only [List.getElem_toArray, List.getElem_cons_succ, List.getElem_cons_zero, Act.put, List.setIfInBounds_toArray, List.set_cons_zero, List.set_cons_succ])
  refine wpAnyH_ready (rs := [6]) (by kernel_rfl) (by simp) (AllReadyH.cons (o := _) rfl (fun K hK => ?_) AllReadyH.nil)
  go_simp
  go_at_call 52
  refine (nopp_v g4).mono ?_
  rintro e w4 ⟨s5, rfl, g5, hb⟩
  replace h0 := h0.below hb
  replace h1 := h1.below hb
  replace g3 := g3.below hb
  replace g4 := g4.below hb
  replace b0 := b0.below hb
  replace b9 := b9.below hb
  replace H0 := H0.trans (hb.mono H0.size)
  clear hb
  clear g4
  go_wp2_with fail
  refine hK.out _ _ ⟨b0.cell 0 _ rfl, b0.cell 1 _ rfl, b0.cell 2 _ rfl, b0.cell 3 _ rfl, b0.cell 4 _ rfl, b0.cell 5 _ rfl⟩ (fun hHeld => ?_)
  clear hK K
  (try simp only [List.getElem_toArray, List.getElem_cons_succ, List.getElem_cons_zero, Act.put, List.setIfInBounds_toArray, List.set_cons_zero, List.set_cons_succ])
  refine wpAnyH_take (i := 7) (v := ?_) rfl (by kernel_rfl) (by kernel_rfl) (by kernel_rfl) (fun _ _ _ h => h) (Or.inl ⟨by rfl, ?_⟩) (by assumption) ?_
  rotate_left
  · (intro w hSw; (try dsimp only at hSw); go_simp; (try with_reducible rfl))
  (try simp only [List.getElem_toArray, List.getElem_cons_succ, List.getElem_cons_zero, Act.put, List.setIfInBounds_toArray, List.set_cons_zero, List.set_cons_succ])
  have cb90 := b9.cell 0 _ rfl
  have yb90 := b9.frozen 0
  have cb91 := b9.cell 1 _ rfl
  have yb91 := b9.frozen 1
  have cb92 := b9.cell 2 _ rfl
  have yb92 := b9.frozen 2
  have cb93 := b9.cell 3 _ rfl
  have yb93 := b9.frozen 3
  have cb94 := b9.cell 4 _ rfl
  have yb94 := b9.frozen 4
  have cb95 := b9.cell 5 _ rfl
  have yb95 := b9.frozen 5
  refine wpAnyH_ready (rs := [8]) (by kernel_rfl) (by simp) (AllReadyH.cons (o := _) rfl (fun K hK => ?_) AllReadyH.nil)
  go_simp
  clear cb90 yb90 cb91 yb91 cb92 yb92 cb93 yb93 cb94 yb94 cb95 yb95
  have hg := only_store6 w4 (w.heap.size + 1) (.bool s3) (.slice A3 n3 c3) (.slice D3 m3 e3) (.bool s5) (.slice A4 n4 c4) (.slice D4 m4 e4)
  have hB := b9.stored6 (.bool s3) (.slice A3 n3 c3) (.slice D3 m3 e3) (.bool s5) (.slice A4 n4 c4) (.slice D4 m4 e4)
  generalize hX : ((((((w4.setCell ⟨w.heap.size + 1, 0, none⟩ (.bool s3)).setCell ⟨w.heap.size + 1, 1, none⟩ (.slice A3 n3 c3)).setCell ⟨w.heap.size + 1, 2, none⟩ (.slice D3 m3 e3)).setCell ⟨w.heap.size + 1, 3, none⟩ (.bool s5)).setCell ⟨w.heap.size + 1, 4, none⟩ (.slice A4 n4 c4)).setCell ⟨w.heap.size + 1, 5, none⟩ (.slice D4 m4 e4)) = X5 at hg hB ⊢
  clear hX
  replace h0 := h0.kept b9 (by simp [notInt]) hg
  replace h1 := h1.kept b9 (by simp [notInt]) hg
  replace g3 := g3.kept b9 (by simp [notInt]) hg
  replace g5 := g5.kept b9 (by simp [notInt]) hg
  replace b0 := b0.other hg (by omega)
  replace b9 := hB
  replace H0 := below_only H0 hg (by omega) H0.size
  clear hg hB
  refine hK.out _ _ ⟨b0.cell 0 _ rfl, b0.cell 1 _ rfl, b0.cell 2 _ rfl, b0.cell 3 _ rfl, b0.cell 4 _ rfl, b0.cell 5 _ rfl⟩ (fun hHeld => ?_)
  clear hK K
  (try simp only [List.getElem_toArray, List.getElem_cons_succ, List.getElem_cons_zero, Act.put, List.setIfInBounds_toArray, List.set_cons_zero, List.set_cons_succ])
  refine wpAnyH_done (by kernel_rfl) ?_ _
  refine NoPanic.normal ?_
  go_wp2_with fail
  refine bodyPost_ret (ret_geop rfl rfl b9) rfl ?_
  exact ⟨_, _, _, _, _, _, _, _, _, _, _, _, _, _, rfl, g3, g5, H0⟩
set_option maxRecDepth 100000 in
set_option maxHeartbeats 4000000 in
theorem gbase_v (h0 : NI w s0 (.slice A0 n0 c0) z0 4) (h1 : NI w s1 (.slice A1 n1 c1) z1 4) (h2 : NI w s2 (.slice A2 n2 c2) z2 4) (v0 : VL z0 z1 z2) :
    Calls Tryz.prog 34 #[.agg #[.bool s0, .slice A0 n0 c0, .bool s1, .slice A1 n1 c1, .bool s2, .slice A2 n2 c2]] w fun e w' => ∃ s12 A12 n12 c12 D12 m12 e12 s13 A13 n13 c13 D13 m13 e13, e = .returned (.agg #[.bool s12, .slice A12 n12 c12, .slice D12 m12 e12, .bool s13, .slice A13 n13 c13, .slice D13 m13 e13]) ∧ PQ w' s12 (.slice A12 n12 c12) (.slice D12 m12 e12) (-((z2 : Rat) / ((z1 : Rat) * (z1 : Rat) + -(z0 : Rat) * -(z0 : Rat))) * (z0 : Rat)) (40) ∧ PQ w' s13 (.slice A13 n13 c13) (.slice D13 m13 e13) (-((z2 : Rat) / ((z1 : Rat) * (z1 : Rat) + -(z0 : Rat) * -(z0 : Rat))) * (z1 : Rat)) (40) ∧ Below w.heap.size w w' := by
  have HSQ := Lib.hid (sqd_ne v0.1)
  clear v0
  go_enter Tryz.func34, Tryz.ntmps34
  go_wp2_with fail
  obtain ⟨W0, hW, b0, b9, hbW, hszW0⟩ := boxes2 w #[.bool s0, .slice A0 n0 c0, .bool s1, .slice A1 n1 c1, .bool s2, .slice A2 n2 c2] #[.bool false, .slice none 0 0, .slice none 0 0, .bool false, .slice none 0 0, .slice none 0 0] 37 48
  rw [hW]
  clear hW
  replace h0 := h0.below hbW
  replace h1 := h1.below hbW
  replace h2 := h2.below hbW
  have H0 := hbW
  clear hbW
  have cb00 := b0.cell 0 _ rfl
  have cb01 := b0.cell 1 _ rfl
  have cb02 := b0.cell 2 _ rfl
  have cb03 := b0.cell 3 _ rfl
  have cb04 := b0.cell 4 _ rfl
  have cb05 := b0.cell 5 _ rfl
  go_wp2_with fail
  clear cb00 cb01 cb02 cb03 cb04 cb05
  refine (gdir_v h0 h1).mono ?_
  rintro e w1 ⟨s10, A10, n10, c10, D10, m10, e10, s11, A11, n11, c11, D11, m11, e11, rfl, g10, g11, hb⟩
  replace h0 := h0.below hb
  replace h1 := h1.below hb
  replace h2 := h2.below hb
  replace b0 := b0.below hb
  replace b9 := b9.below hb
  replace H0 := H0.trans (hb.mono H0.size)
  clear hb
  have lb0_2 := b0.lt
  have lb9_2 := b9.lt
  obtain ⟨W2, hW, b3, hbW, hszW2⟩ := boxes1 w1 #[.bool s10, .slice A10 n10 c10, .slice D10 m10 e10, .bool s11, .slice A11 n11 c11, .slice D11 m11 e11] 48
  skip
  skip
  replace h0 := h0.below hbW
  replace h1 := h1.below hbW
  replace h2 := h2.below hbW
  replace g10 := g10.below hbW
  replace g11 := g11.below hbW
  replace b0 := b0.below hbW
  replace b9 := b9.below hbW
  replace H0 := H0.trans (hbW.mono H0.size)
  clear hbW
  have cb00 := b0.cell 0 _ rfl
  have cb01 := b0.cell 1 _ rfl
  have cb02 := b0.cell 2 _ rfl
  have cb03 := b0.cell 3 _ rfl
  have cb04 := b0.cell 4 _ rfl
  have cb05 := b0.cell 5 _ rfl
  have cb30 := b3.cell 0 _ rfl
  have cb31 := b3.cell 1 _ rfl
  have cb32 := b3.cell 2 _ rfl
  have cb33 := b3.cell 3 _ rfl
  have cb34 := b3.cell 4 _ rfl
  have cb35 := b3.cell 5 _ rfl
  go_wp2_with fail
  clear hW
  clear cb00 cb01 cb02 cb03 cb04 cb05 cb30 cb31 cb32 cb33 cb34 cb35
  have lkb0 := b0.lt
  have lkb9 := b9.lt
  have lkb3 := b3.lt
  go_cut [4] from 5 (fun s_4 wx => ∃ g70 s15 A14 n14 c14 D14 m14 e14, s_4 = .pointer (some ⟨g70, 0, none⟩) ∧ PQ wx s15 (.slice A14 n14 c14) (.slice D14 m14 e14) (-((z2 : Rat) / ((z1 : Rat) * (z1 : Rat) + -(z0 : Rat) * -(z0 : Rat)))) (max 4 1 + max (2 * (max 4 1 + max 4 1) + 3) 1) ∧ Box wx g70 #[.bool s15, .slice A14 n14 c14, .slice D14 m14 e14] 46 ∧ W2.heap.size ≤ g70 ∧ Below W2.heap.size W2 wx)
  case first =>
    have lcb0_3 := b0.lt
    have lcb9_3 := b9.lt
    have lcb3_3 := b3.lt
    have hG := drawn_below W2
    refine wp_region_noPanic ?_
    refine wp_region_anyd (by kernel_rfl) ?_
    generalize W2.drew = v3 at hG ⊢
    refine wpAny_take (i := 0) (v := ?_) rfl (by kernel_rfl) (by kernel_rfl) (by kernel_rfl) (fun _ _ _ h => h) (Or.inl ⟨by rfl, ?_⟩) ?_
    rotate_left
    · (intro w; go_simp; (try with_reducible rfl))
    (try simp only [List.getElem_toArray, List.getElem_cons_zero, Act.put, List.setIfInBounds_toArray, List.set_cons_zero, List.set_cons_succ])
    refine wpAny_of_F (S := (fun V => V.cell? ⟨w.heap.size, 0, none⟩ = some (.bool s0) ∧ V.cell? ⟨w.heap.size, 1, none⟩ = some (.slice A0 n0 c0) ∧ V.cell? ⟨w.heap.size, 2, none⟩ = some (.bool s1) ∧ V.cell? ⟨w.heap.size, 3, none⟩ = some (.slice A1 n1 c1) ∧ V.cell? ⟨w.heap.size, 4, none⟩ = some (.bool s2) ∧ V.cell? ⟨w.heap.size, 5, none⟩ = some (.slice A2 n2 c2) ∧ V.cell? ⟨w1.heap.size, 0, none⟩ = some (.bool s10) ∧ V.cell? ⟨w1.heap.size, 1, none⟩ = some (.slice A10 n10 c10) ∧ V.cell? ⟨w1.heap.size, 2, none⟩ = some (.slice D10 m10 e10) ∧ V.cell? ⟨w1.heap.size, 3, none⟩ = some (.bool s11) ∧ V.cell? ⟨w1.heap.size, 4, none⟩ = some (.slice A11 n11 c11) ∧ V.cell? ⟨w1.heap.size, 5, none⟩ = some (.slice D11 m11 e11))) (F := (fun j => j == 9)) _ _ _ _ ?_
    refine wpAnyF_take (i := 1) (v := ?_) (fun j => j == 2 || j == 5 || j == 6 || j == 7 || j == 9) rfl (by kernel_rfl) (by kernel_rfl) (by kernel_rfl) (by kernel_rfl) (fun j hj => by have h6 : 10 ≤ j := hj; simp; omega) (fun _ _ _ h => h) (Or.inl ⟨by rfl, ?_⟩) ⟨(b0.below hG).cell 0 _ rfl, (b0.below hG).cell 1 _ rfl, (b0.below hG).cell 2 _ rfl, (b0.below hG).cell 3 _ rfl, (b0.below hG).cell 4 _ rfl, (b0.below hG).cell 5 _ rfl, (b3.below hG).cell 0 _ rfl, (b3.below hG).cell 1 _ rfl, (b3.below hG).cell 2 _ rfl, (b3.below hG).cell 3 _ rfl, (b3.below hG).cell 4 _ rfl, (b3.below hG).cell 5 _ rfl⟩ ?_
    rotate_left
    · (intro w hSw; (try dsimp only at hSw); go_simp; (try with_reducible rfl))
    (try simp only [List.getElem_toArray, List.getElem_cons_succ, List.getElem_cons_zero, Act.put, List.setIfInBounds_toArray, List.set_cons_zero, List.set_cons_succ])
    refine wpAnyF_take (i := 3) (v := ?_) (fun j => j == 5 || j == 6 || j == 7 || j == 9) rfl (by kernel_rfl) (by kernel_rfl) (by kernel_rfl) (by kernel_rfl) (fun j hj => by have h6 : 10 ≤ j := hj; simp; omega) (fun _ _ _ h => h) (Or.inl ⟨by rfl, ?_⟩) ⟨(b0.below hG).cell 0 _ rfl, (b0.below hG).cell 1 _ rfl, (b0.below hG).cell 2 _ rfl, (b0.below hG).cell 3 _ rfl, (b0.below hG).cell 4 _ rfl, (b0.below hG).cell 5 _ rfl, (b3.below hG).cell 0 _ rfl, (b3.below hG).cell 1 _ rfl, (b3.below hG).cell 2 _ rfl, (b3.below hG).cell 3 _ rfl, (b3.below hG).cell 4 _ rfl, (b3.below hG).cell 5 _ rfl⟩ ?_
    rotate_left
    · (intro w hSw; (try dsimp only at hSw); go_simp; (try with_reducible rfl))
    (try simp only [List.getElem_toArray, List.getElem_cons_succ, List.getElem_cons_zero, Act.put, List.setIfInBounds_toArray, List.set_cons_zero, List.set_cons_succ])
    refine wpAnyF_take (i := 4) (v := ?_) (fun j => j == 5 || j == 6 || j == 7 || j == 9) rfl (by kernel_rfl) (by kernel_rfl) (by kernel_rfl) (by kernel_rfl) (fun j hj => by have h6 : 10 ≤ j := hj; simp; omega) (fun _ _ _ h => h) (Or.inl ⟨by rfl, ?_⟩) ⟨(b0.below hG).cell 0 _ rfl, (b0.below hG).cell 1 _ rfl, (b0.below hG).cell 2 _ rfl, (b0.below hG).cell 3 _ rfl, (b0.below hG).cell 4 _ rfl, (b0.below hG).cell 5 _ rfl, (b3.below hG).cell 0 _ rfl, (b3.below hG).cell 1 _ rfl, (b3.below hG).cell 2 _ rfl, (b3.below hG).cell 3 _ rfl, (b3.below hG).cell 4 _ rfl, (b3.below hG).cell 5 _ rfl⟩ ?_
    rotate_left
    · (intro w hSw; (try dsimp only at hSw); go_simp; (try with_reducible rfl))
    (try simp only [List.getElem_toArray, List.getElem_cons_succ, List.getElem_cons_zero, Act.put, List.setIfInBounds_toArray, List.set_cons_zero, List.set_cons_succ])
    refine wpAnyF_name (n' := 6) (l' := #[true, true, false, true, true, false, false, false, false, false]) (by kernel_rfl) (by kernel_rfl) (fun Ac_ hA => ?_)
    refine wpAnyF_phase (rs := [2, 5, 6, 7, 8]) (full := #[true, true, true, true, true, true, true, true, true, false]) (states := [#[true, true, false, true, true, false, false, false, false, false], #[true, true, true, true, true, false, false, false, false, false], #[true, true, false, true, true, false, false, false, true, false], #[true, true, true, true, true, false, false, false, true, false], #[true, true, true, true, true, true, false, false, true, false], #[true, true, true, true, true, true, true, false, true, false], #[true, true, true, true, true, true, true, true, true, false], #[true, true, true, true, true, true, false, false, false, false], #[true, true, true, true, true, true, true, false, false, false], #[true, true, true, true, true, true, true, true, false, false]]) (k := 1) (I := fun listed a w => ∃ (y2_ y5_ y6_ y7_ y8_ : Value), a = (((((Ac_.put (some 9) y2_).put (some 12) y5_).put (some 13) y6_).put (some 14) y7_).put (some 4) y8_) ∧ Below W2.heap.size W2 w ∧ (listed.getD 2 false = true → ∃ s12 A12 n12 c12 D12 m12 e12, y2_ = .agg #[.bool s12, .slice A12 n12 c12, .slice D12 m12 e12] ∧ PQ w s12 (.slice A12 n12 c12) (.slice D12 m12 e12) ((z2 : Rat)) (4)) ∧ (listed.getD 5 false = true → ∃ s13 A13 n13 c13 D13 m13 e13, y5_ = .agg #[.bool s13, .slice A13 n13 c13, .slice D13 m13 e13] ∧ PQ w s13 (.slice A13 n13 c13) (.slice D13 m13 e13) ((z1 : Rat) * (z1 : Rat) + -(z0 : Rat) * -(z0 : Rat)) (2 * (max 4 1 + max 4 1) + 3)) ∧ (listed.getD 6 false = true → ∃ s14 A14 n14 c14 D14 m14 e14, y6_ = .agg #[.bool s14, .slice A14 n14 c14, .slice D14 m14 e14] ∧ PQ w s14 (.slice A14 n14 c14) (.slice D14 m14 e14) ((z2 : Rat) / ((z1 : Rat) * (z1 : Rat) + -(z0 : Rat) * -(z0 : Rat))) (max 4 1 + max (2 * (max 4 1 + max 4 1) + 3) 1)) ∧ (listed.getD 7 false = true → ∃ s15 A14 n14 c14 D14 m14 e14, y7_ = .agg #[.bool s15, .slice A14 n14 c14, .slice D14 m14 e14] ∧ PQ w s15 (.slice A14 n14 c14) (.slice D14 m14 e14) (-((z2 : Rat) / ((z1 : Rat) * (z1 : Rat) + -(z0 : Rat) * -(z0 : Rat)))) (max 4 1 + max (2 * (max 4 1 + max 4 1) + 3) 1)) ∧ (listed.getD 8 false = true → ∃ g0_, y8_ = .pointer (some ⟨g0_, 0, none⟩) ∧ Box w g0_ #[.bool false, .slice none 0 0, .slice none 0 0] 46 ∧ W2.heap.size ≤ g0_)) (by kernel_rfl) (by kernel_rfl) ?_ ?_ _ _ _ _ (by kernel_rfl) (by kernel_rfl) ⟨Ac_.tmps.getD 9 undef, Ac_.tmps.getD 12 undef, Ac_.tmps.getD 13 undef, Ac_.tmps.getD 14 undef, Ac_.tmps.getD 4 undef, by subst hA; kernel_rfl, hG, fun h => (by cases h), fun h => (by cases h), fun h => (by cases h), fun h => (by cases h), fun h => (by cases h)⟩
    · refine (AllStepsF.cons (i := 2) (o := _) rfl rfl ?_ (AllStepsF.cons (i := 5) (o := _) rfl rfl ?_ (AllStepsF.cons (i := 6) (o := _) rfl rfl ?_ (AllStepsF.cons (i := 7) (o := _) rfl rfl ?_ (AllStepsF.cons (i := 8) (o := _) rfl rfl ?_ AllStepsF.nil)))))
      · rintro listed a wx ⟨y2_, y5_, y6_, y7_, y8_, rfl, hG, H2_, H5_, H6_, H7_, H8_⟩ hi K hK
        subst hA
        (try simp only [Act.put, List.setIfInBounds_toArray, List.set_cons_zero, List.set_cons_succ])
        go_simp
        go_at_call 84
        refine (gq_v (h2.below hG)).mono ?_
        rintro e X ⟨s12, A12, n12, c12, D12, m12, e12, rfl, g12, hb9⟩
        go_wp2_with fail
        have hG9 := hG.trans (hb9.mono hG.size)
        refine hK.out _ _ ⟨(b0.below hG9).cell 0 _ rfl, (b0.below hG9).cell 1 _ rfl, (b0.below hG9).cell 2 _ rfl, (b0.below hG9).cell 3 _ rfl, (b0.below hG9).cell 4 _ rfl, (b0.below hG9).cell 5 _ rfl, (b3.below hG9).cell 0 _ rfl, (b3.below hG9).cell 1 _ rfl, (b3.below hG9).cell 2 _ rfl, (b3.below hG9).cell 3 _ rfl, (b3.below hG9).cell 4 _ rfl, (b3.below hG9).cell 5 _ rfl⟩ ?_
        clear hK K
        exact ⟨_, y5_, y6_, y7_, y8_, by kernel_rfl, hG9, fun _ => ⟨s12, A12, n12, c12, D12, m12, e12, rfl, g12⟩, fun h => by obtain ⟨s13, A13, n13, c13, D13, m13, e13, e_, g13'⟩ := H5_ (set_dep (by decide) h); exact ⟨s13, A13, n13, c13, D13, m13, e13, e_, g13'.below hb9⟩, fun h => by obtain ⟨s14, A14, n14, c14, D14, m14, e14, e_, g14'⟩ := H6_ (set_dep (by decide) h); exact ⟨s14, A14, n14, c14, D14, m14, e14, e_, g14'.below hb9⟩, fun h => by obtain ⟨s15, A14, n14, c14, D14, m14, e14, e_, g15'⟩ := H7_ (set_dep (by decide) h); exact ⟨s15, A14, n14, c14, D14, m14, e14, e_, g15'.below hb9⟩, fun h => by obtain ⟨g0_, e_, bx0', hl0'⟩ := H8_ (set_dep (by decide) h); exact ⟨g0_, e_, bx0'.below hb9, hl0'⟩⟩
      · rintro listed a wx ⟨y2_, y5_, y6_, y7_, y8_, rfl, hG, H2_, H5_, H6_, H7_, H8_⟩ hi K hK
        subst hA
        (try simp only [Act.put, List.setIfInBounds_toArray, List.set_cons_zero, List.set_cons_succ])
        go_simp
        go_at_call 90
        refine (gdot_v (g10.below hG) (g11.below hG) (g10.below hG) (g11.below hG) (by omega) (by omega)).mono ?_
        rintro e X ⟨s13, A13, n13, c13, D13, m13, e13, rfl, g13, hb9⟩
        go_wp2_with fail
        have hG9 := hG.trans (hb9.mono hG.size)
        refine hK.out _ _ ⟨(b0.below hG9).cell 0 _ rfl, (b0.below hG9).cell 1 _ rfl, (b0.below hG9).cell 2 _ rfl, (b0.below hG9).cell 3 _ rfl, (b0.below hG9).cell 4 _ rfl, (b0.below hG9).cell 5 _ rfl, (b3.below hG9).cell 0 _ rfl, (b3.below hG9).cell 1 _ rfl, (b3.below hG9).cell 2 _ rfl, (b3.below hG9).cell 3 _ rfl, (b3.below hG9).cell 4 _ rfl, (b3.below hG9).cell 5 _ rfl⟩ ?_
        clear hK K
        exact ⟨y2_, _, y6_, y7_, y8_, by kernel_rfl, hG9, fun h => by obtain ⟨s12, A12, n12, c12, D12, m12, e12, e_, g12'⟩ := H2_ (set_dep (by decide) h); exact ⟨s12, A12, n12, c12, D12, m12, e12, e_, g12'.below hb9⟩, fun _ => ⟨s13, A13, n13, c13, D13, m13, e13, rfl, g13⟩, fun h => by obtain ⟨s14, A14, n14, c14, D14, m14, e14, e_, g14'⟩ := H6_ (set_dep (by decide) h); exact ⟨s14, A14, n14, c14, D14, m14, e14, e_, g14'.below hb9⟩, fun h => by obtain ⟨s15, A14, n14, c14, D14, m14, e14, e_, g15'⟩ := H7_ (set_dep (by decide) h); exact ⟨s15, A14, n14, c14, D14, m14, e14, e_, g15'.below hb9⟩, fun h => by obtain ⟨g0_, e_, bx0', hl0'⟩ := H8_ (set_dep (by decide) h); exact ⟨g0_, e_, bx0'.below hb9, hl0'⟩⟩
      · rintro listed a wx ⟨y2_, y5_, y6_, y7_, y8_, rfl, hG, H2_, H5_, H6_, H7_, H8_⟩ hi K hK
        have e2_ : listed.getD 2 false = true := ready_dep hi rfl 2 (by kernel_rfl)
        obtain ⟨s12, A12, n12, c12, D12, m12, e12, rfl, g12⟩ := H2_ e2_
        have e5_ : listed.getD 5 false = true := ready_dep hi rfl 5 (by kernel_rfl)
        obtain ⟨s13, A13, n13, c13, D13, m13, e13, rfl, g13⟩ := H5_ e5_
        subst hA
        (try simp only [Act.put, List.setIfInBounds_toArray, List.set_cons_zero, List.set_cons_succ])
        go_simp
        go_at_call 89
        refine (nover_v g12 g13 (by omega) (by omega) HSQ.out).mono ?_
        rintro e X ⟨s14, A14, n14, c14, D14, m14, e14, rfl, g14, hb9⟩
        go_wp2_with fail
        have hG9 := hG.trans (hb9.mono hG.size)
        refine hK.out _ _ ⟨(b0.below hG9).cell 0 _ rfl, (b0.below hG9).cell 1 _ rfl, (b0.below hG9).cell 2 _ rfl, (b0.below hG9).cell 3 _ rfl, (b0.below hG9).cell 4 _ rfl, (b0.below hG9).cell 5 _ rfl, (b3.below hG9).cell 0 _ rfl, (b3.below hG9).cell 1 _ rfl, (b3.below hG9).cell 2 _ rfl, (b3.below hG9).cell 3 _ rfl, (b3.below hG9).cell 4 _ rfl, (b3.below hG9).cell 5 _ rfl⟩ ?_
        clear hK K
        exact ⟨_, _, _, y7_, y8_, by kernel_rfl, hG9, fun _ => ⟨s12, A12, n12, c12, D12, m12, e12, rfl, g12.below hb9⟩, fun _ => ⟨s13, A13, n13, c13, D13, m13, e13, rfl, g13.below hb9⟩, fun _ => ⟨s14, A14, n14, c14, D14, m14, e14, rfl, g14⟩, fun h => by obtain ⟨s15, A14, n14, c14, D14, m14, e14, e_, g15'⟩ := H7_ (set_dep (by decide) h); exact ⟨s15, A14, n14, c14, D14, m14, e14, e_, g15'.below hb9⟩, fun h => by obtain ⟨g0_, e_, bx0', hl0'⟩ := H8_ (set_dep (by decide) h); exact ⟨g0_, e_, bx0'.below hb9, hl0'⟩⟩
      · rintro listed a wx ⟨y2_, y5_, y6_, y7_, y8_, rfl, hG, H2_, H5_, H6_, H7_, H8_⟩ hi K hK
        have e6_ : listed.getD 6 false = true := ready_dep hi rfl 6 (by kernel_rfl)
        obtain ⟨s14, A14, n14, c14, D14, m14, e14, rfl, g14⟩ := H6_ e6_
        subst hA
        (try simp only [Act.put, List.setIfInBounds_toArray, List.set_cons_zero, List.set_cons_succ])
        go_simp
        go_at_call 52
        refine (nopp_v g14).mono ?_
        rintro e X ⟨s15, rfl, g15, hb9⟩
        go_wp2_with fail
        have hG9 := hG.trans (hb9.mono hG.size)
        refine hK.out _ _ ⟨(b0.below hG9).cell 0 _ rfl, (b0.below hG9).cell 1 _ rfl, (b0.below hG9).cell 2 _ rfl, (b0.below hG9).cell 3 _ rfl, (b0.below hG9).cell 4 _ rfl, (b0.below hG9).cell 5 _ rfl, (b3.below hG9).cell 0 _ rfl, (b3.below hG9).cell 1 _ rfl, (b3.below hG9).cell 2 _ rfl, (b3.below hG9).cell 3 _ rfl, (b3.below hG9).cell 4 _ rfl, (b3.below hG9).cell 5 _ rfl⟩ ?_
        clear hK K
        exact ⟨y2_, y5_, _, _, y8_, by kernel_rfl, hG9, fun h => by obtain ⟨s12, A12, n12, c12, D12, m12, e12, e_, g12'⟩ := H2_ (set_dep (by decide) h); exact ⟨s12, A12, n12, c12, D12, m12, e12, e_, g12'.below hb9⟩, fun h => by obtain ⟨s13, A13, n13, c13, D13, m13, e13, e_, g13'⟩ := H5_ (set_dep (by decide) h); exact ⟨s13, A13, n13, c13, D13, m13, e13, e_, g13'.below hb9⟩, fun _ => ⟨s14, A14, n14, c14, D14, m14, e14, rfl, g14.below hb9⟩, fun _ => ⟨s15, A14, n14, c14, D14, m14, e14, rfl, g15⟩, fun h => by obtain ⟨g0_, e_, bx0', hl0'⟩ := H8_ (set_dep (by decide) h); exact ⟨g0_, e_, bx0'.below hb9, hl0'⟩⟩
      · rintro listed a wx ⟨y2_, y5_, y6_, y7_, y8_, rfl, hG, H2_, H5_, H6_, H7_, H8_⟩ hi K hK
        subst hA
        (try simp only [Act.put, List.setIfInBounds_toArray, List.set_cons_zero, List.set_cons_succ])
        go_simp
        obtain ⟨X, hV, bx0, hb9, sz9⟩ := boxes1 wx #[.bool false, .slice none 0 0, .slice none 0 0] 46
        rw [hV]
        clear hV
        have hl0 : W2.heap.size ≤ wx.heap.size := hG.size
        have hG9 := hG.trans (hb9.mono hG.size)
        refine hK.out _ _ ⟨(b0.below hG9).cell 0 _ rfl, (b0.below hG9).cell 1 _ rfl, (b0.below hG9).cell 2 _ rfl, (b0.below hG9).cell 3 _ rfl, (b0.below hG9).cell 4 _ rfl, (b0.below hG9).cell 5 _ rfl, (b3.below hG9).cell 0 _ rfl, (b3.below hG9).cell 1 _ rfl, (b3.below hG9).cell 2 _ rfl, (b3.below hG9).cell 3 _ rfl, (b3.below hG9).cell 4 _ rfl, (b3.below hG9).cell 5 _ rfl⟩ ?_
        clear hK K
        exact ⟨y2_, y5_, y6_, y7_, _, by kernel_rfl, hG9, fun h => by obtain ⟨s12, A12, n12, c12, D12, m12, e12, e_, g12'⟩ := H2_ (set_dep (by decide) h); exact ⟨s12, A12, n12, c12, D12, m12, e12, e_, g12'.below hb9⟩, fun h => by obtain ⟨s13, A13, n13, c13, D13, m13, e13, e_, g13'⟩ := H5_ (set_dep (by decide) h); exact ⟨s13, A13, n13, c13, D13, m13, e13, e_, g13'.below hb9⟩, fun h => by obtain ⟨s14, A14, n14, c14, D14, m14, e14, e_, g14'⟩ := H6_ (set_dep (by decide) h); exact ⟨s14, A14, n14, c14, D14, m14, e14, e_, g14'.below hb9⟩, fun h => by obtain ⟨s15, A14, n14, c14, D14, m14, e14, e_, g15'⟩ := H7_ (set_dep (by decide) h); exact ⟨s15, A14, n14, c14, D14, m14, e14, e_, g15'.below hb9⟩, fun _ => ⟨_, rfl, bx0, hl0⟩⟩
    · rintro a wf ⟨y2_, y5_, y6_, y7_, y8_, rfl, hG, H2_, H5_, H6_, H7_, H8_⟩
      obtain ⟨s12, A12, n12, c12, D12, m12, e12, rfl, g12⟩ := H2_ rfl
      obtain ⟨s13, A13, n13, c13, D13, m13, e13, rfl, g13⟩ := H5_ rfl
      obtain ⟨s14, A14, n14, c14, D14, m14, e14, rfl, g14⟩ := H6_ rfl
      obtain ⟨s15, A14, n14, c14, D14, m14, e14, rfl, g15⟩ := H7_ rfl
      obtain ⟨g0_, rfl, bx0, hl0⟩ := H8_ rfl
      subst hA
      (try simp only [Act.put, List.setIfInBounds_toArray, List.set_cons_zero, List.set_cons_succ])
      have H0 := hG
      have cbx00 := bx0.cell 0 _ rfl
      have ybx00 := bx0.frozen 0
      have cbx01 := bx0.cell 1 _ rfl
      have ybx01 := bx0.frozen 1
      have cbx02 := bx0.cell 2 _ rfl
      have ybx02 := bx0.frozen 2
      refine wpAnyF_last (i := 9) (by kernel_rfl) rfl rfl (fun K hK => ?_)
      go_simp
      refine hK.out _ _ ?_
      clear hK K
      (try simp only [List.setIfInBounds_toArray, List.set_cons_zero, List.set_cons_succ])
      clear cbx00 ybx00 cbx01 ybx01 cbx02 ybx02
      have hg := only_store3 wf (g0_) (.bool s15) (.slice A14 n14 c14) (.slice D14 m14 e14)
      have hB := bx0.stored3 (.bool s15) (.slice A14 n14 c14) (.slice D14 m14 e14)
      generalize hX : (((wf.setCell ⟨g0_, 0, none⟩ (.bool s15)).setCell ⟨g0_, 1, none⟩ (.slice A14 n14 c14)).setCell ⟨g0_, 2, none⟩ (.slice D14 m14 e14)) = X54 at hg hB ⊢
      clear hX
      replace g15 := g15.kept bx0 (by simp [notInt]) hg
      replace bx0 := hB
      replace H0 := below_only H0 hg (by omega) H0.size
      clear hg hB
      refine wpAny_done (by kernel_rfl) ?_ _
      refine NoPanic.normal ?_
      go_wp2_with fail
      go_meet
      exact ⟨g0_, s15, A14, n14, c14, D14, m14, e14, rfl, g15, bx0, hl0, H0⟩
  case rest =>
    obtain ⟨g70, s15, A14, n14, c14, D14, m14, e14, rfl, g15, b4, ml0, hG⟩ := hcut
    replace h0 := h0.below hG
    replace h1 := h1.below hG
    replace h2 := h2.below hG
    replace g10 := g10.below hG
    replace g11 := g11.below hG
    replace b0 := b0.below hG
    replace b9 := b9.below hG
    replace b3 := b3.below hG
    replace H0 := H0.trans (hG.mono H0.size)
    clear hG
    go_wp2_with fail
    have hD := drawn_below wc
    replace h0 := h0.below hD
    replace h1 := h1.below hD
    replace h2 := h2.below hD
    replace g10 := g10.below hD
    replace g11 := g11.below hD
    replace g15 := g15.below hD
    replace b0 := b0.below hD
    replace b9 := b9.below hD
    replace b3 := b3.below hD
    replace b4 := b4.below hD
    replace H0 := H0.trans (hD.mono H0.size)
    clear hD
    refine wp_region_noPanic ?_
    refine wp_region_held_drew (S := (fun V => V.cell? ⟨w.heap.size, 0, none⟩ = some (.bool s0) ∧ V.cell? ⟨w.heap.size, 1, none⟩ = some (.slice A0 n0 c0) ∧ V.cell? ⟨w.heap.size, 2, none⟩ = some (.bool s1) ∧ V.cell? ⟨w.heap.size, 3, none⟩ = some (.slice A1 n1 c1) ∧ V.cell? ⟨w.heap.size, 4, none⟩ = some (.bool s2) ∧ V.cell? ⟨w.heap.size, 5, none⟩ = some (.slice A2 n2 c2) ∧ V.cell? ⟨g70, 0, none⟩ = some (.bool s15) ∧ V.cell? ⟨g70, 1, none⟩ = some (.slice A14 n14 c14) ∧ V.cell? ⟨g70, 2, none⟩ = some (.slice D14 m14 e14))) (by kernel_rfl) ⟨b0.cell 0 _ rfl, b0.cell 1 _ rfl, b0.cell 2 _ rfl, b0.cell 3 _ rfl, b0.cell 4 _ rfl, b0.cell 5 _ rfl, b4.cell 0 _ rfl, b4.cell 1 _ rfl, b4.cell 2 _ rfl⟩ (fun hHeld => ?_)
    generalize wc.drew = v503 at H0 hHeld h0 h1 h2 g10 g11 g15 b0 b9 b3 b4 ⊢
    refine wpAnyH_take (i := 0) (v := ?_) rfl (by kernel_rfl) (by kernel_rfl) (by kernel_rfl) (fun _ _ _ h => h) (Or.inl ⟨by rfl, ?_⟩) (by assumption) ?_
    rotate_left
    · (intro w hSw; (try dsimp only at hSw); go_simp; (try with_reducible rfl))
    (try simp only [List.getElem_toArray, List.getElem_cons_zero, Act.put, List.setIfInBounds_toArray, List.set_cons_zero, List.set_cons_succ])
    refine wpAnyH_take (i := 1) (v := ?_) rfl (by kernel_rfl) (by kernel_rfl) (by kernel_rfl) (fun _ _ _ h => h) (Or.inl ⟨by rfl, ?_⟩) (by assumption) ?_
    rotate_left
    · (intro w hSw; (try dsimp only at hSw); go_simp; (try with_reducible rfl))
    (try simp only [List.getElem_toArray, List.getElem_cons_succ, List.getElem_cons_zero, Act.put, List.setIfInBounds_toArray, List.set_cons_zero, List.set_cons_succ])
    refine wpAnyH_take (i := 5) (v := ?_) rfl (by kernel_rfl) (by kernel_rfl) (by kernel_rfl) (fun _ _ _ h => h) (Or.inl ⟨by rfl, ?_⟩) (by assumption) ?_
    rotate_left
    · (intro w hSw; (try dsimp only at hSw); go_simp; (try with_reducible rfl))
    (try simp only [List.getElem_toArray, List.getElem_cons_succ, List.getElem_cons_zero, Act.put, List.setIfInBounds_toArray, List.set_cons_zero, List.set_cons_succ])
    refine wpAnyH_take (i := 6) (v := ?_) rfl (by kernel_rfl) (by kernel_rfl) (by kernel_rfl) (fun _ _ _ h => h) (Or.inl ⟨by rfl, ?_⟩) (by assumption) ?_
    rotate_left
    · (intro w hSw; (try dsimp only at hSw); go_simp; (try with_reducible rfl))
    (try simp only [List.getElem_toArray, List.getElem_cons_succ, List.getElem_cons_zero, Act.put, List.setIfInBounds_toArray, List.set_cons_zero, List.set_cons_succ])
    refine wpAnyH_take (i := 2) (v := ?_) rfl (by kernel_rfl) (by kernel_rfl) (by kernel_rfl) (fun _ _ _ h => h) (Or.inl ⟨by rfl, ?_⟩) (by assumption) ?_
    rotate_left
    · (intro w hSw; (try dsimp only at hSw); go_simp; (try with_reducible rfl))
    (try simp only [List.getElem_toArray, List.getElem_cons_succ, List.getElem_cons_zero, Act.put, List.setIfInBounds_toArray, List.set_cons_zero, List.set_cons_succ])
    refine wpAnyH_take (i := 7) (v := ?_) rfl (by kernel_rfl) (by kernel_rfl) (by kernel_rfl) (fun _ _ _ h => h) (Or.inl ⟨by rfl, ?_⟩) (by assumption) ?_
    rotate_left
    · (intro w hSw; (try dsimp only at hSw); go_simp; (try with_reducible rfl))
    (try simp only [List.getElem_toArray, List.getElem_cons_succ, List.getElem_cons_zero, Act.put, List.setIfInBounds_toArray, List.set_cons_zero, List.set_cons_succ])
    refine wpAnyH_ready (rs := [3]) (by kernel_rfl) (by simp) (AllReadyH.cons (o := _) rfl (fun K hK => ?_) AllReadyH.nil)
    go_simp
    go_at_call 84
    refine (gq_v h0).mono ?_
    rintro e w504 ⟨s16, A16, n16, c16, D16, m16, e16, rfl, g16, hb⟩
    replace h0 := h0.below hb
    replace h1 := h1.below hb
    replace h2 := h2.below hb
    replace g10 := g10.below hb
    replace g11 := g11.below hb
    replace g15 := g15.below hb
    replace b0 := b0.below hb
    replace b9 := b9.below hb
    replace b3 := b3.below hb
    replace b4 := b4.below hb
    replace H0 := H0.trans (hb.mono H0.size)
    clear hb
    go_wp2_with fail
    refine hK.out _ _ ⟨b0.cell 0 _ rfl, b0.cell 1 _ rfl, b0.cell 2 _ rfl, b0.cell 3 _ rfl, b0.cell 4 _ rfl, b0.cell 5 _ rfl, b4.cell 0 _ rfl, b4.cell 1 _ rfl, b4.cell 2 _ rfl⟩ (fun hHeld => ?_)
    clear hK K
    (try simp only [List.getElem_toArray, List.getElem_cons_succ, List.getElem_cons_zero, Act.put, List.setIfInBounds_toArray, List.set_cons_zero, List.set_cons_succ])
    refine wpAnyH_ready (rs := [4]) (by kernel_rfl) (by simp) (AllReadyH.cons (o := _) rfl (fun K hK => ?_) AllReadyH.nil)
    go_simp
    go_at_call 70
    refine (ntimes_v g15 g16 (by omega) (by omega)).mono ?_
    rintro e w505 ⟨s17, A17, n17, c17, D17, m17, e17, rfl, g17, hb⟩
    replace h0 := h0.below hb
    replace h1 := h1.below hb
    replace h2 := h2.below hb
    replace g10 := g10.below hb
    replace g11 := g11.below hb
    replace g15 := g15.below hb
    replace g16 := g16.below hb
    replace b0 := b0.below hb
    replace b9 := b9.below hb
    replace b3 := b3.below hb
    replace b4 := b4.below hb
    replace H0 := H0.trans (hb.mono H0.size)
    clear hb
    clear g16
    go_wp2_with fail
    refine hK.out _ _ ⟨b0.cell 0 _ rfl, b0.cell 1 _ rfl, b0.cell 2 _ rfl, b0.cell 3 _ rfl, b0.cell 4 _ rfl, b0.cell 5 _ rfl, b4.cell 0 _ rfl, b4.cell 1 _ rfl, b4.cell 2 _ rfl⟩ (fun hHeld => ?_)
    clear hK K
    (try simp only [List.getElem_toArray, List.getElem_cons_succ, List.getElem_cons_zero, Act.put, List.setIfInBounds_toArray, List.set_cons_zero, List.set_cons_succ])
    refine wpAnyH_ready (rs := [8]) (by kernel_rfl) (by simp) (AllReadyH.cons (o := _) rfl (fun K hK => ?_) AllReadyH.nil)
    go_simp
    go_at_call 84
    refine (gq_v h1).mono ?_
    rintro e w506 ⟨s18, A18, n18, c18, D18, m18, e18, rfl, g18, hb⟩
    replace h0 := h0.below hb
    replace h1 := h1.below hb
    replace h2 := h2.below hb
    replace g10 := g10.below hb
    replace g11 := g11.below hb
    replace g15 := g15.below hb
    replace g17 := g17.below hb
    replace b0 := b0.below hb
    replace b9 := b9.below hb
    replace b3 := b3.below hb
    replace b4 := b4.below hb
    replace H0 := H0.trans (hb.mono H0.size)
    clear hb
    go_wp2_with fail
    refine hK.out _ _ ⟨b0.cell 0 _ rfl, b0.cell 1 _ rfl, b0.cell 2 _ rfl, b0.cell 3 _ rfl, b0.cell 4 _ rfl, b0.cell 5 _ rfl, b4.cell 0 _ rfl, b4.cell 1 _ rfl, b4.cell 2 _ rfl⟩ (fun hHeld => ?_)
    clear hK K
    (try simp only [List.getElem_toArray, List.getElem_cons_succ, List.getElem_cons_zero, Act.put, List.setIfInBounds_toArray, List.set_cons_zero, List.set_cons_succ])
    refine wpAnyH_ready (rs := [9]) (by kernel_rfl) (by simp) (AllReadyH.cons (o := _) rfl (fun K hK => ?_) AllReadyH.nil)
    go_simp
    go_at_call 70
    refine (ntimes_v g15 g18 (by omega) (by omega)).mono ?_
    rintro e w507 ⟨s19, A19, n19, c19, D19, m19, e19, rfl, g19, hb⟩
    replace h0 := h0.below hb
    replace h1 := h1.below hb
    replace h2 := h2.below hb
    replace g10 := g10.below hb
    replace g11 := g11.below hb
    replace g15 := g15.below hb
    replace g17 := g17.below hb
    replace g18 := g18.below hb
    replace b0 := b0.below hb
    replace b9 := b9.below hb
    replace b3 := b3.below hb
    replace b4 := b4.below hb
    replace H0 := H0.trans (hb.mono H0.size)
    clear hb
    clear g18
    go_wp2_with fail
    refine hK.out _ _ ⟨b0.cell 0 _ rfl, b0.cell 1 _ rfl, b0.cell 2 _ rfl, b0.cell 3 _ rfl, b0.cell 4 _ rfl, b0.cell 5 _ rfl, b4.cell 0 _ rfl, b4.cell 1 _ rfl, b4.cell 2 _ rfl⟩ (fun hHeld => ?_)
    clear hK K
    (try simp only [List.getElem_toArray, List.getElem_cons_succ, List.getElem_cons_zero, Act.put, List.setIfInBounds_toArray, List.set_cons_zero, List.set_cons_succ])
    refine wpAnyH_take (i := 10) (v := ?_) rfl (by kernel_rfl) (by kernel_rfl) (by kernel_rfl) (fun _ _ _ h => h) (Or.inl ⟨by rfl, ?_⟩) (by assumption) ?_
    rotate_left
    · (intro w hSw; (try dsimp only at hSw); go_simp; (try with_reducible rfl))
    (try simp only [List.getElem_toArray, List.getElem_cons_succ, List.getElem_cons_zero, Act.put, List.setIfInBounds_toArray, List.set_cons_zero, List.set_cons_succ])
    have cb90 := b9.cell 0 _ rfl
    have yb90 := b9.frozen 0
    have cb91 := b9.cell 1 _ rfl
    have yb91 := b9.frozen 1
    have cb92 := b9.cell 2 _ rfl
    have yb92 := b9.frozen 2
    have cb93 := b9.cell 3 _ rfl
    have yb93 := b9.frozen 3
    have cb94 := b9.cell 4 _ rfl
    have yb94 := b9.frozen 4
    have cb95 := b9.cell 5 _ rfl
    have yb95 := b9.frozen 5
    refine wpAnyH_ready (rs := [11]) (by kernel_rfl) (by simp) (AllReadyH.cons (o := _) rfl (fun K hK => ?_) AllReadyH.nil)
    go_simp
    clear cb90 yb90 cb91 yb91 cb92 yb92 cb93 yb93 cb94 yb94 cb95 yb95
    have hg := only_store6 w507 (w.heap.size + 1) (.bool s17) (.slice A17 n17 c17) (.slice D17 m17 e17) (.bool s19) (.slice A19 n19 c19) (.slice D19 m19 e19)
    have hB := b9.stored6 (.bool s17) (.slice A17 n17 c17) (.slice D17 m17 e17) (.bool s19) (.slice A19 n19 c19) (.slice D19 m19 e19)
    generalize hX : ((((((w507.setCell ⟨w.heap.size + 1, 0, none⟩ (.bool s17)).setCell ⟨w.heap.size + 1, 1, none⟩ (.slice A17 n17 c17)).setCell ⟨w.heap.size + 1, 2, none⟩ (.slice D17 m17 e17)).setCell ⟨w.heap.size + 1, 3, none⟩ (.bool s19)).setCell ⟨w.heap.size + 1, 4, none⟩ (.slice A19 n19 c19)).setCell ⟨w.heap.size + 1, 5, none⟩ (.slice D19 m19 e19)) = X508 at hg hB ⊢
    clear hX
    replace h0 := h0.kept b9 (by simp [notInt]) hg
    replace h1 := h1.kept b9 (by simp [notInt]) hg
    replace h2 := h2.kept b9 (by simp [notInt]) hg
    replace g10 := g10.kept b9 (by simp [notInt]) hg
    replace g11 := g11.kept b9 (by simp [notInt]) hg
    replace g15 := g15.kept b9 (by simp [notInt]) hg
    replace g17 := g17.kept b9 (by simp [notInt]) hg
    replace g19 := g19.kept b9 (by simp [notInt]) hg
    replace b0 := b0.other hg (by omega)
    replace b3 := b3.other hg (by omega)
    replace b4 := b4.other hg (by omega)
    replace b9 := hB
    replace H0 := below_only H0 hg (by omega) H0.size
    clear hg hB
    refine hK.out _ _ ⟨b0.cell 0 _ rfl, b0.cell 1 _ rfl, b0.cell 2 _ rfl, b0.cell 3 _ rfl, b0.cell 4 _ rfl, b0.cell 5 _ rfl, b4.cell 0 _ rfl, b4.cell 1 _ rfl, b4.cell 2 _ rfl⟩ (fun hHeld => ?_)
    clear hK K
    (try simp only [List.getElem_toArray, List.getElem_cons_succ, List.getElem_cons_zero, Act.put, List.setIfInBounds_toArray, List.set_cons_zero, List.set_cons_succ])
    refine wpAnyH_done (by kernel_rfl) ?_ _
    refine NoPanic.normal ?_
    go_wp2_with fail
    refine bodyPost_ret (ret_geop rfl rfl b9) rfl ?_
    exact ⟨_, _, _, _, _, _, _, _, _, _, _, _, _, _, rfl, g17.more (by omega), g19.more (by omega), H0⟩
set_option maxRecDepth 100000 in
set_option maxHeartbeats 4000000 in
theorem gat_v (h0 : NI w s0 (.slice A0 n0 c0) z0 4) (h1 : NI w s1 (.slice A1 n1 c1) z1 4) (h2 : NI w s2 (.slice A2 n2 c2) z2 4) (v0 : VL z0 z1 z2) (h : PQ w s20 (.slice A20 n20 c20) (.slice D20 m20 e20) q0 4) :
    Calls Tryz.prog 36 #[.agg #[.bool s0, .slice A0 n0 c0, .bool s1, .slice A1 n1 c1, .bool s2, .slice A2 n2 c2], .agg #[.bool s20, .slice A20 n20 c20, .slice D20 m20 e20]] w fun e w' => ∃ s10 A10 n10 c10 D10 m10 e10 s11 A11 n11 c11 D11 m11 e11, e = .returned (.agg #[.bool s10, .slice A10 n10 c10, .slice D10 m10 e10, .bool s11, .slice A11 n11 c11, .slice D11 m11 e11]) ∧ PQ w' s10 (.slice A10 n10 c10) (.slice D10 m10 e10) (atX z0 z1 z2 q0) (60) ∧ PQ w' s11 (.slice A11 n11 c11) (.slice D11 m11 e11) (atY z0 z1 z2 q0) (60) ∧ Below w.heap.size w w' := by
  have V0 := Lib.hid v0
  clear v0
  go_enter Tryz.func36, Tryz.ntmps36
  go_wp2_with fail
  obtain ⟨W0, hW, b0, b1, b9, hbW, hszW0⟩ := boxes3 w #[.bool s0, .slice A0 n0 c0, .bool s1, .slice A1 n1 c1, .bool s2, .slice A2 n2 c2] #[.bool s20, .slice A20 n20 c20, .slice D20 m20 e20] #[.bool false, .slice none 0 0, .slice none 0 0, .bool false, .slice none 0 0, .slice none 0 0] 37 46 48
  rw [hW]
  clear hW
  replace h0 := h0.below hbW
  replace h1 := h1.below hbW
  replace h2 := h2.below hbW
  replace h := h.below hbW
  have H0 := hbW
  clear hbW
  have hD := drawn_below W0
  replace h0 := h0.below hD
  replace h1 := h1.below hD
  replace h2 := h2.below hD
  replace h := h.below hD
  replace b0 := b0.below hD
  replace b1 := b1.below hD
  replace b9 := b9.below hD
  replace H0 := H0.trans (hD.mono H0.size)
  clear hD
  refine wp_region_noPanic ?_
  refine wp_region_held_drew (S := (fun V => V.cell? ⟨w.heap.size, 0, none⟩ = some (.bool s0) ∧ V.cell? ⟨w.heap.size, 1, none⟩ = some (.slice A0 n0 c0) ∧ V.cell? ⟨w.heap.size, 2, none⟩ = some (.bool s1) ∧ V.cell? ⟨w.heap.size, 3, none⟩ = some (.slice A1 n1 c1) ∧ V.cell? ⟨w.heap.size, 4, none⟩ = some (.bool s2) ∧ V.cell? ⟨w.heap.size, 5, none⟩ = some (.slice A2 n2 c2) ∧ V.cell? ⟨w.heap.size + 1, 0, none⟩ = some (.bool s20) ∧ V.cell? ⟨w.heap.size + 1, 1, none⟩ = some (.slice A20 n20 c20) ∧ V.cell? ⟨w.heap.size + 1, 2, none⟩ = some (.slice D20 m20 e20))) (by kernel_rfl) ⟨b0.cell 0 _ rfl, b0.cell 1 _ rfl, b0.cell 2 _ rfl, b0.cell 3 _ rfl, b0.cell 4 _ rfl, b0.cell 5 _ rfl, b1.cell 0 _ rfl, b1.cell 1 _ rfl, b1.cell 2 _ rfl⟩ (fun hHeld => ?_)
  generalize W0.drew = v1 at H0 hHeld h0 h1 h2 h b0 b1 b9 ⊢
  refine wpAnyH_take (i := 0) (v := ?_) rfl (by kernel_rfl) (by kernel_rfl) (by kernel_rfl) (fun _ _ _ h => h) (Or.inl ⟨by rfl, ?_⟩) (by assumption) ?_
  rotate_left
  · (intro w hSw; (try dsimp only at hSw); go_simp; (try with_reducible rfl))
  (try simp only [List.getElem_toArray, List.getElem_cons_zero, Act.put, List.setIfInBounds_toArray, List.set_cons_zero, List.set_cons_succ])
  refine wpAnyH_take (i := 2) (v := ?_) rfl (by kernel_rfl) (by kernel_rfl) (by kernel_rfl) (fun _ _ _ h => h) (Or.inl ⟨by rfl, ?_⟩) (by assumption) ?_
  rotate_left
  · (intro w hSw; (try dsimp only at hSw); go_simp; (try with_reducible rfl))
  (try simp only [List.getElem_toArray, List.getElem_cons_succ, List.getElem_cons_zero, Act.put, List.setIfInBounds_toArray, List.set_cons_zero, List.set_cons_succ])
  refine wpAnyH_take (i := 3) (v := ?_) rfl (by kernel_rfl) (by kernel_rfl) (by kernel_rfl) (fun _ _ _ h => h) (Or.inl ⟨by rfl, ?_⟩) (by assumption) ?_
  rotate_left
  · (intro w hSw; (try dsimp only at hSw); go_simp; (try with_reducible rfl))
  (try simp only [List.getElem_toArray, List.getElem_cons_succ, List.getElem_cons_zero, Act.put, List.setIfInBounds_toArray, List.set_cons_zero, List.set_cons_succ])
  refine wpAnyH_ready (rs := [1]) (by kernel_rfl) (by simp) (AllReadyH.cons (o := _) rfl (fun K hK => ?_) AllReadyH.nil)
  go_simp
  go_at_call 34
  refine (gbase_v h0 h1 h2 V0.out).mono ?_
  rintro e w2 ⟨s6, A6, n6, c6, D6, m6, e6, s7, A7, n7, c7, D7, m7, e7, rfl, g6, g7, hb⟩
  replace h0 := h0.below hb
  replace h1 := h1.below hb
  replace h2 := h2.below hb
  replace h := h.below hb
  replace b0 := b0.below hb
  replace b1 := b1.below hb
  replace b9 := b9.below hb
  replace H0 := H0.trans (hb.mono H0.size)
  clear hb
  go_wp2_with fail
  refine hK.out _ _ ⟨b0.cell 0 _ rfl, b0.cell 1 _ rfl, b0.cell 2 _ rfl, b0.cell 3 _ rfl, b0.cell 4 _ rfl, b0.cell 5 _ rfl, b1.cell 0 _ rfl, b1.cell 1 _ rfl, b1.cell 2 _ rfl⟩ (fun hHeld => ?_)
  clear hK K
  (try simp only [List.getElem_toArray, List.getElem_cons_succ, List.getElem_cons_zero, Act.put, List.setIfInBounds_toArray, List.set_cons_zero, List.set_cons_succ])
  refine wpAnyH_ready (rs := [4]) (by kernel_rfl) (by simp) (AllReadyH.cons (o := _) rfl (fun K hK => ?_) AllReadyH.nil)
  go_simp
  go_at_call 32
  refine (gdir_v h0 h1).mono ?_
  rintro e w3 ⟨s8, A8, n8, c8, D8, m8, e8, s9, A9, n9, c9, D9, m9, e9, rfl, g8, g9, hb⟩
  replace h0 := h0.below hb
  replace h1 := h1.below hb
  replace h2 := h2.below hb
  replace h := h.below hb
  replace g6 := g6.below hb
  replace g7 := g7.below hb
  replace b0 := b0.below hb
  replace b1 := b1.below hb
  replace b9 := b9.below hb
  replace H0 := H0.trans (hb.mono H0.size)
  clear hb
  go_wp2_with fail
  refine hK.out _ _ ⟨b0.cell 0 _ rfl, b0.cell 1 _ rfl, b0.cell 2 _ rfl, b0.cell 3 _ rfl, b0.cell 4 _ rfl, b0.cell 5 _ rfl, b1.cell 0 _ rfl, b1.cell 1 _ rfl, b1.cell 2 _ rfl⟩ (fun hHeld => ?_)
  clear hK K
  (try simp only [List.getElem_toArray, List.getElem_cons_succ, List.getElem_cons_zero, Act.put, List.setIfInBounds_toArray, List.set_cons_zero, List.set_cons_succ])
  refine wpAnyH_ready (rs := [5]) (by kernel_rfl) (by simp) (AllReadyH.cons (o := _) rfl (fun K hK => ?_) AllReadyH.nil)
  go_simp
  go_at_call 74
  refine (gadd_v g6 g7 h g8 g9 (by omega) (by omega) (by omega)).mono ?_
  rintro e w4 ⟨s10, A10, n10, c10, D10, m10, e10, s11, A11, n11, c11, D11, m11, e11, rfl, g10, g11, hb⟩
  replace h0 := h0.below hb
  replace h1 := h1.below hb
  replace h2 := h2.below hb
  replace h := h.below hb
  replace g6 := g6.below hb
  replace g7 := g7.below hb
  replace g8 := g8.below hb
  replace g9 := g9.below hb
  replace b0 := b0.below hb
  replace b1 := b1.below hb
  replace b9 := b9.below hb
  replace H0 := H0.trans (hb.mono H0.size)
  clear hb
  clear g6
  clear g7
  clear g8
  clear g9
  go_wp2_with fail
  refine hK.out _ _ ⟨b0.cell 0 _ rfl, b0.cell 1 _ rfl, b0.cell 2 _ rfl, b0.cell 3 _ rfl, b0.cell 4 _ rfl, b0.cell 5 _ rfl, b1.cell 0 _ rfl, b1.cell 1 _ rfl, b1.cell 2 _ rfl⟩ (fun hHeld => ?_)
  clear hK K
  (try simp only [List.getElem_toArray, List.getElem_cons_succ, List.getElem_cons_zero, Act.put, List.setIfInBounds_toArray, List.set_cons_zero, List.set_cons_succ])
  have cb90 := b9.cell 0 _ rfl
  have yb90 := b9.frozen 0
  have cb91 := b9.cell 1 _ rfl
  have yb91 := b9.frozen 1
  have cb92 := b9.cell 2 _ rfl
  have yb92 := b9.frozen 2
  have cb93 := b9.cell 3 _ rfl
  have yb93 := b9.frozen 3
  have cb94 := b9.cell 4 _ rfl
  have yb94 := b9.frozen 4
  have cb95 := b9.cell 5 _ rfl
  have yb95 := b9.frozen 5
  refine wpAnyH_ready (rs := [6]) (by kernel_rfl) (by simp) (AllReadyH.cons (o := _) rfl (fun K hK => ?_) AllReadyH.nil)
  go_simp
  clear cb90 yb90 cb91 yb91 cb92 yb92 cb93 yb93 cb94 yb94 cb95 yb95
  have hg := only_store6 w4 (w.heap.size + 1 + 1) (.bool s10) (.slice A10 n10 c10) (.slice D10 m10 e10) (.bool s11) (.slice A11 n11 c11) (.slice D11 m11 e11)
  have hB := b9.stored6 (.bool s10) (.slice A10 n10 c10) (.slice D10 m10 e10) (.bool s11) (.slice A11 n11 c11) (.slice D11 m11 e11)
  generalize hX : ((((((w4.setCell ⟨w.heap.size + 1 + 1, 0, none⟩ (.bool s10)).setCell ⟨w.heap.size + 1 + 1, 1, none⟩ (.slice A10 n10 c10)).setCell ⟨w.heap.size + 1 + 1, 2, none⟩ (.slice D10 m10 e10)).setCell ⟨w.heap.size + 1 + 1, 3, none⟩ (.bool s11)).setCell ⟨w.heap.size + 1 + 1, 4, none⟩ (.slice A11 n11 c11)).setCell ⟨w.heap.size + 1 + 1, 5, none⟩ (.slice D11 m11 e11)) = X5 at hg hB ⊢
  clear hX
  replace h0 := h0.kept b9 (by simp [notInt]) hg
  replace h1 := h1.kept b9 (by simp [notInt]) hg
  replace h2 := h2.kept b9 (by simp [notInt]) hg
  replace h := h.kept b9 (by simp [notInt]) hg
  replace g10 := g10.kept b9 (by simp [notInt]) hg
  replace g11 := g11.kept b9 (by simp [notInt]) hg
  replace b0 := b0.other hg (by omega)
  replace b1 := b1.other hg (by omega)
  replace b9 := hB
  replace H0 := below_only H0 hg (by omega) H0.size
  clear hg hB
  refine hK.out _ _ ⟨b0.cell 0 _ rfl, b0.cell 1 _ rfl, b0.cell 2 _ rfl, b0.cell 3 _ rfl, b0.cell 4 _ rfl, b0.cell 5 _ rfl, b1.cell 0 _ rfl, b1.cell 1 _ rfl, b1.cell 2 _ rfl⟩ (fun hHeld => ?_)
  clear hK K
  (try simp only [List.getElem_toArray, List.getElem_cons_succ, List.getElem_cons_zero, Act.put, List.setIfInBounds_toArray, List.set_cons_zero, List.set_cons_succ])
  refine wpAnyH_done (by kernel_rfl) ?_ _
  refine NoPanic.normal ?_
  go_wp2_with fail
  refine bodyPost_ret (ret_geop rfl rfl b9) rfl ?_
  exact ⟨_, _, _, _, _, _, _, _, _, _, _, _, _, _, rfl, g10.more (by omega), g11.more (by omega), H0⟩
set_option maxRecDepth 100000 in
set_option maxHeartbeats 4000000 in
theorem gparam_v (h0 : NI w s0 (.slice A0 n0 c0) z0 4) (h1 : NI w s1 (.slice A1 n1 c1) z1 4) (v0 : VL z0 z1 z2) (h : PQ w s20 (.slice A20 n20 c20) (.slice D20 m20 e20) q0 4) (h' : PQ w s21 (.slice A21 n21 c21) (.slice D21 m21 e21) q1 4) :
    Calls Tryz.prog 38 #[.agg #[.bool s0, .slice A0 n0 c0, .bool s1, .slice A1 n1 c1, .bool s2, .slice A2 n2 c2], .agg #[.bool s20, .slice A20 n20 c20, .slice D20 m20 e20, .bool s21, .slice A21 n21 c21, .slice D21 m21 e21]] w fun e w' => ∃ s10 A10 n10 c10 D10 m10 e10, e = .returned (.agg #[.bool s10, .slice A10 n10 c10, .slice D10 m10 e10]) ∧ PQ w' s10 (.slice A10 n10 c10) (.slice D10 m10 e10) (parQ z0 z1 q0 q1) (60) ∧ Below w.heap.size w w' := by
  have HSQ := Lib.hid (sqd_ne v0.1)
  clear v0
  go_enter Tryz.func38, Tryz.ntmps38
  go_wp2_with fail
  obtain ⟨W0, hW, b0, b1, b9, hbW, hszW0⟩ := boxes3 w #[.bool s0, .slice A0 n0 c0, .bool s1, .slice A1 n1 c1, .bool s2, .slice A2 n2 c2] #[.bool s20, .slice A20 n20 c20, .slice D20 m20 e20, .bool s21, .slice A21 n21 c21, .slice D21 m21 e21] #[.bool false, .slice none 0 0, .slice none 0 0] 37 48 46
  rw [hW]
  clear hW
  replace h0 := h0.below hbW
  replace h1 := h1.below hbW
  replace h := h.below hbW
  replace h' := h'.below hbW
  have H0 := hbW
  clear hbW
  have cb00 := b0.cell 0 _ rfl
  have cb01 := b0.cell 1 _ rfl
  have cb02 := b0.cell 2 _ rfl
  have cb03 := b0.cell 3 _ rfl
  have cb04 := b0.cell 4 _ rfl
  have cb05 := b0.cell 5 _ rfl
  go_wp2_with fail
  clear cb00 cb01 cb02 cb03 cb04 cb05
  refine (gdir_v h0 h1).mono ?_
  rintro e w1 ⟨s6, A6, n6, c6, D6, m6, e6, s7, A7, n7, c7, D7, m7, e7, rfl, g6, g7, hb⟩
  replace h0 := h0.below hb
  replace h1 := h1.below hb
  replace h := h.below hb
  replace h' := h'.below hb
  replace b0 := b0.below hb
  replace b1 := b1.below hb
  replace b9 := b9.below hb
  replace H0 := H0.trans (hb.mono H0.size)
  clear hb
  have lb0_2 := b0.lt
  have lb1_2 := b1.lt
  have lb9_2 := b9.lt
  obtain ⟨W2, hW, b5, hbW, hszW2⟩ := boxes1 w1 #[.bool s6, .slice A6 n6 c6, .slice D6 m6 e6, .bool s7, .slice A7 n7 c7, .slice D7 m7 e7] 48
  skip
  skip
  replace h0 := h0.below hbW
  replace h1 := h1.below hbW
  replace h := h.below hbW
  replace h' := h'.below hbW
  replace g6 := g6.below hbW
  replace g7 := g7.below hbW
  replace b0 := b0.below hbW
  replace b1 := b1.below hbW
  replace b9 := b9.below hbW
  replace H0 := H0.trans (hbW.mono H0.size)
  clear hbW
  have cb10 := b1.cell 0 _ rfl
  have cb11 := b1.cell 1 _ rfl
  have cb12 := b1.cell 2 _ rfl
  have cb13 := b1.cell 3 _ rfl
  have cb14 := b1.cell 4 _ rfl
  have cb15 := b1.cell 5 _ rfl
  have cb50 := b5.cell 0 _ rfl
  have cb51 := b5.cell 1 _ rfl
  have cb52 := b5.cell 2 _ rfl
  have cb53 := b5.cell 3 _ rfl
  have cb54 := b5.cell 4 _ rfl
  have cb55 := b5.cell 5 _ rfl
  go_wp2_with fail
  clear hW
  clear cb10 cb11 cb12 cb13 cb14 cb15 cb50 cb51 cb52 cb53 cb54 cb55
  have hD := drawn_below W2
  replace h0 := h0.below hD
  replace h1 := h1.below hD
  replace h := h.below hD
  replace h' := h'.below hD
  replace g6 := g6.below hD
  replace g7 := g7.below hD
  replace b0 := b0.below hD
  replace b1 := b1.below hD
  replace b9 := b9.below hD
  replace b5 := b5.below hD
  replace H0 := H0.trans (hD.mono H0.size)
  clear hD
  refine wp_region_noPanic ?_
  refine wp_region_held_drew (S := (fun V => V.cell? ⟨w.heap.size + 1, 0, none⟩ = some (.bool s20) ∧ V.cell? ⟨w.heap.size + 1, 1, none⟩ = some (.slice A20 n20 c20) ∧ V.cell? ⟨w.heap.size + 1, 2, none⟩ = some (.slice D20 m20 e20) ∧ V.cell? ⟨w.heap.size + 1, 3, none⟩ = some (.bool s21) ∧ V.cell? ⟨w.heap.size + 1, 4, none⟩ = some (.slice A21 n21 c21) ∧ V.cell? ⟨w.heap.size + 1, 5, none⟩ = some (.slice D21 m21 e21) ∧ V.cell? ⟨w1.heap.size, 0, none⟩ = some (.bool s6) ∧ V.cell? ⟨w1.heap.size, 1, none⟩ = some (.slice A6 n6 c6) ∧ V.cell? ⟨w1.heap.size, 2, none⟩ = some (.slice D6 m6 e6) ∧ V.cell? ⟨w1.heap.size, 3, none⟩ = some (.bool s7) ∧ V.cell? ⟨w1.heap.size, 4, none⟩ = some (.slice A7 n7 c7) ∧ V.cell? ⟨w1.heap.size, 5, none⟩ = some (.slice D7 m7 e7))) (by kernel_rfl) ⟨b1.cell 0 _ rfl, b1.cell 1 _ rfl, b1.cell 2 _ rfl, b1.cell 3 _ rfl, b1.cell 4 _ rfl, b1.cell 5 _ rfl, b5.cell 0 _ rfl, b5.cell 1 _ rfl, b5.cell 2 _ rfl, b5.cell 3 _ rfl, b5.cell 4 _ rfl, b5.cell 5 _ rfl⟩ (fun hHeld => ?_)
  generalize W2.drew = v3 at H0 hHeld h0 h1 h h' g6 g7 b0 b1 b9 b5 ⊢
  refine wpAnyH_take (i := 0) (v := ?_) rfl (by kernel_rfl) (by kernel_rfl) (by kernel_rfl) (fun _ _ _ h => h) (Or.inl ⟨by rfl, ?_⟩) (by assumption) ?_
  rotate_left
  · (intro w hSw; (try dsimp only at hSw); go_simp; (try with_reducible rfl))
  (try simp only [List.getElem_toArray, List.getElem_cons_zero, Act.put, List.setIfInBounds_toArray, List.set_cons_zero, List.set_cons_succ])
  refine wpAnyH_take (i := 1) (v := ?_) rfl (by kernel_rfl) (by kernel_rfl) (by kernel_rfl) (fun _ _ _ h => h) (Or.inl ⟨by rfl, ?_⟩) (by assumption) ?_
  rotate_left
  · (intro w hSw; (try dsimp only at hSw); go_simp; (try with_reducible rfl))
  (try simp only [List.getElem_toArray, List.getElem_cons_succ, List.getElem_cons_zero, Act.put, List.setIfInBounds_toArray, List.set_cons_zero, List.set_cons_succ])
  refine wpAnyH_take (i := 3) (v := ?_) rfl (by kernel_rfl) (by kernel_rfl) (by kernel_rfl) (fun _ _ _ h => h) (Or.inl ⟨by rfl, ?_⟩) (by assumption) ?_
  rotate_left
  · (intro w hSw; (try dsimp only at hSw); go_simp; (try with_reducible rfl))
  (try simp only [List.getElem_toArray, List.getElem_cons_succ, List.getElem_cons_zero, Act.put, List.setIfInBounds_toArray, List.set_cons_zero, List.set_cons_succ])
  refine wpAnyH_take (i := 4) (v := ?_) rfl (by kernel_rfl) (by kernel_rfl) (by kernel_rfl) (fun _ _ _ h => h) (Or.inl ⟨by rfl, ?_⟩) (by assumption) ?_
  rotate_left
  · (intro w hSw; (try dsimp only at hSw); go_simp; (try with_reducible rfl))
  (try simp only [List.getElem_toArray, List.getElem_cons_succ, List.getElem_cons_zero, Act.put, List.setIfInBounds_toArray, List.set_cons_zero, List.set_cons_succ])
  refine wpAnyH_ready (rs := [2]) (by kernel_rfl) (by simp) (AllReadyH.cons (o := _) rfl (fun K hK => ?_) AllReadyH.nil)
  go_simp
  go_at_call 90
  refine (gdot_v h h' g6 g7 (by omega) (by omega)).mono ?_
  rintro e w4 ⟨s8, A8, n8, c8, D8, m8, e8, rfl, g8, hb⟩
  replace h0 := h0.below hb
  replace h1 := h1.below hb
  replace h := h.below hb
  replace h' := h'.below hb
  replace g6 := g6.below hb
  replace g7 := g7.below hb
  replace b0 := b0.below hb
  replace b1 := b1.below hb
  replace b9 := b9.below hb
  replace b5 := b5.below hb
  replace H0 := H0.trans (hb.mono H0.size)
  clear hb
  go_wp2_with fail
  refine hK.out _ _ ⟨b1.cell 0 _ rfl, b1.cell 1 _ rfl, b1.cell 2 _ rfl, b1.cell 3 _ rfl, b1.cell 4 _ rfl, b1.cell 5 _ rfl, b5.cell 0 _ rfl, b5.cell 1 _ rfl, b5.cell 2 _ rfl, b5.cell 3 _ rfl, b5.cell 4 _ rfl, b5.cell 5 _ rfl⟩ (fun hHeld => ?_)
  clear hK K
  (try simp only [List.getElem_toArray, List.getElem_cons_succ, List.getElem_cons_zero, Act.put, List.setIfInBounds_toArray, List.set_cons_zero, List.set_cons_succ])
  refine wpAnyH_ready (rs := [5]) (by kernel_rfl) (by simp) (AllReadyH.cons (o := _) rfl (fun K hK => ?_) AllReadyH.nil)
  go_simp
  go_at_call 90
  refine (gdot_v g6 g7 g6 g7 (by omega) (by omega)).mono ?_
  rintro e w5 ⟨s9, A9, n9, c9, D9, m9, e9, rfl, g9, hb⟩
  replace h0 := h0.below hb
  replace h1 := h1.below hb
  replace h := h.below hb
  replace h' := h'.below hb
  replace g6 := g6.below hb
  replace g7 := g7.below hb
  replace g8 := g8.below hb
  replace b0 := b0.below hb
  replace b1 := b1.below hb
  replace b9 := b9.below hb
  replace b5 := b5.below hb
  replace H0 := H0.trans (hb.mono H0.size)
  clear hb
  go_wp2_with fail
  refine hK.out _ _ ⟨b1.cell 0 _ rfl, b1.cell 1 _ rfl, b1.cell 2 _ rfl, b1.cell 3 _ rfl, b1.cell 4 _ rfl, b1.cell 5 _ rfl, b5.cell 0 _ rfl, b5.cell 1 _ rfl, b5.cell 2 _ rfl, b5.cell 3 _ rfl, b5.cell 4 _ rfl, b5.cell 5 _ rfl⟩ (fun hHeld => ?_)
  clear hK K
  (try simp only [List.getElem_toArray, List.getElem_cons_succ, List.getElem_cons_zero, Act.put, List.setIfInBounds_toArray, List.set_cons_zero, List.set_cons_succ])
  refine wpAnyH_ready (rs := [6]) (by kernel_rfl) (by simp) (AllReadyH.cons (o := _) rfl (fun K hK => ?_) AllReadyH.nil)
  go_simp
  go_at_call 89
  refine (nover_v g8 g9 (by omega) (by omega) HSQ.out).mono ?_
  rintro e w6 ⟨s10, A10, n10, c10, D10, m10, e10, rfl, g10, hb⟩
  replace h0 := h0.below hb
  replace h1 := h1.below hb
  replace h := h.below hb
  replace h' := h'.below hb
  replace g6 := g6.below hb
  replace g7 := g7.below hb
  replace g8 := g8.below hb
  replace g9 := g9.below hb
  replace b0 := b0.below hb
  replace b1 := b1.below hb
  replace b9 := b9.below hb
  replace b5 := b5.below hb
  replace H0 := H0.trans (hb.mono H0.size)
  clear hb
  clear g8
  clear g9
  go_wp2_with fail
  refine hK.out _ _ ⟨b1.cell 0 _ rfl, b1.cell 1 _ rfl, b1.cell 2 _ rfl, b1.cell 3 _ rfl, b1.cell 4 _ rfl, b1.cell 5 _ rfl, b5.cell 0 _ rfl, b5.cell 1 _ rfl, b5.cell 2 _ rfl, b5.cell 3 _ rfl, b5.cell 4 _ rfl, b5.cell 5 _ rfl⟩ (fun hHeld => ?_)
  clear hK K
  (try simp only [List.getElem_toArray, List.getElem_cons_succ, List.getElem_cons_zero, Act.put, List.setIfInBounds_toArray, List.set_cons_zero, List.set_cons_succ])
  have cb90 := b9.cell 0 _ rfl
  have yb90 := b9.frozen 0
  have cb91 := b9.cell 1 _ rfl
  have yb91 := b9.frozen 1
  have cb92 := b9.cell 2 _ rfl
  have yb92 := b9.frozen 2
  refine wpAnyH_ready (rs := [7]) (by kernel_rfl) (by simp) (AllReadyH.cons (o := _) rfl (fun K hK => ?_) AllReadyH.nil)
  go_simp
  clear cb90 yb90 cb91 yb91 cb92 yb92
  have hg := only_store3 w6 (w.heap.size + 1 + 1) (.bool s10) (.slice A10 n10 c10) (.slice D10 m10 e10)
  have hB := b9.stored3 (.bool s10) (.slice A10 n10 c10) (.slice D10 m10 e10)
  generalize hX : (((w6.setCell ⟨w.heap.size + 1 + 1, 0, none⟩ (.bool s10)).setCell ⟨w.heap.size + 1 + 1, 1, none⟩ (.slice A10 n10 c10)).setCell ⟨w.heap.size + 1 + 1, 2, none⟩ (.slice D10 m10 e10)) = X7 at hg hB ⊢
  clear hX
  replace h0 := h0.kept b9 (by simp [notInt]) hg
  replace h1 := h1.kept b9 (by simp [notInt]) hg
  replace h := h.kept b9 (by simp [notInt]) hg
  replace h' := h'.kept b9 (by simp [notInt]) hg
  replace g6 := g6.kept b9 (by simp [notInt]) hg
  replace g7 := g7.kept b9 (by simp [notInt]) hg
  replace g10 := g10.kept b9 (by simp [notInt]) hg
  replace b0 := b0.other hg (by omega)
  replace b1 := b1.other hg (by omega)
  replace b5 := b5.other hg (by omega)
  replace b9 := hB
  replace H0 := below_only H0 hg (by omega) H0.size
  clear hg hB
  refine hK.out _ _ ⟨b1.cell 0 _ rfl, b1.cell 1 _ rfl, b1.cell 2 _ rfl, b1.cell 3 _ rfl, b1.cell 4 _ rfl, b1.cell 5 _ rfl, b5.cell 0 _ rfl, b5.cell 1 _ rfl, b5.cell 2 _ rfl, b5.cell 3 _ rfl, b5.cell 4 _ rfl, b5.cell 5 _ rfl⟩ (fun hHeld => ?_)
  clear hK K
  (try simp only [List.getElem_toArray, List.getElem_cons_succ, List.getElem_cons_zero, Act.put, List.setIfInBounds_toArray, List.set_cons_zero, List.set_cons_succ])
  refine wpAnyH_done (by kernel_rfl) ?_ _
  refine NoPanic.normal ?_
  go_wp2_with fail
  refine bodyPost_ret (ret_numq rfl rfl b9) rfl ?_
  exact ⟨_, _, _, _, _, _, _, rfl, g10.more (by omega), H0⟩
end
end Go.Proofs.YtancgkmkbgkncaaGreat
namespace Go.Proofs.YtancgkmkbgkncaaGreat
open Go.RowKit

section
variable {A0 A1 A2 A3 A4 A5 A6 A7 D0 D1 D2 D3 D4 D5 D6 D7 : Option Addr} {n0 n1 n2 n3 n4 n5 n6 n7 c0 c1 c2 c3 c4 c5 c6 c7 m0 m1 m2 m3 m4 m5 m6 m7 e0 e1 e2 e3 e4 e5 e6 e7 : Nat} {s0 s1 s2 s3 s4 s5 s6 s7 : Bool} {q0 q1 q2 q3 q4 q5 q6 q7 : Rat} {z z' z0 z1 : Int} {L L0 L1 x x0 x1 y : Nat} {k : Int} {b : Bool} {w : World}
set_option maxRecDepth 100000 in
set_option maxHeartbeats 4000000 in
theorem tpoint_v {b : Nat} (hT : Tape w b) (hb : b < w.heap.size) :
    Calls Tryz.prog 17 #[.pointer (some ⟨b, 0, none⟩)] w fun e w' => ∃ q q', ∃ s2 A2 n2 c2 D2 m2 e2 s3 A3 n3 c3 D3 m3 e3, e = .returned (.agg #[.bool s2, .slice A2 n2 c2, .slice D2 m2 e2, .bool s3, .slice A3 n3 c3, .slice D3 m3 e3]) ∧ PQ w' s2 (.slice A2 n2 c2) (.slice D2 m2 e2) q (2) ∧ PQ w' s3 (.slice A3 n3 c3) (.slice D3 m3 e3) q' (2) ∧ Tape w' b ∧ w.grownBy w' (some b) := by
  go_enter Tryz.func17, Tryz.ntmps17
  go_wp2_with fail
  have G0 : w.grownBy w (some b) := ⟨rfl, rfl, rfl, Nat.le_refl _, fun _ _ _ => rfl⟩
  have hlt := hb
  obtain ⟨W0, hW, b0, hbW, hszW0⟩ := boxes1 w #[.bool false, .slice none 0 0, .slice none 0 0, .bool false, .slice none 0 0, .slice none 0 0] 48
  rw [hW]
  clear hW
  replace hT := hT.keep hbW hlt
  replace hlt := Nat.lt_of_lt_of_le hlt hbW.size
  replace G0 := only_below G0 hbW G0.size
  clear hbW
  refine (tq_v hT hlt).mono ?_
  rintro e w1 ⟨q2, s2, A2, n2, c2, D2, m2, e2, rfl, g2, hT', hg⟩
  replace b0 := b0.other hg (by omega)
  replace hlt := Nat.lt_of_lt_of_le hlt hg.size
  replace G0 := only_trans G0 hg
  clear hT
  have hT := hT'
  clear hT' hg
  go_wp2_with fail
  refine (tq_v hT hlt).mono ?_
  rintro e w2 ⟨q3, s3, A3, n3, c3, D3, m3, e3, rfl, g3, hT', hg⟩
  replace g2 := g2.tape hT hg
  replace b0 := b0.other hg (by omega)
  replace hlt := Nat.lt_of_lt_of_le hlt hg.size
  replace G0 := only_trans G0 hg
  clear hT
  have hT := hT'
  clear hT' hg
  have cb00 := b0.cell 0 _ rfl
  have yb00 := b0.frozen 0
  have cb01 := b0.cell 1 _ rfl
  have yb01 := b0.frozen 1
  have cb02 := b0.cell 2 _ rfl
  have yb02 := b0.frozen 2
  have cb03 := b0.cell 3 _ rfl
  have yb03 := b0.frozen 3
  have cb04 := b0.cell 4 _ rfl
  have yb04 := b0.frozen 4
  have cb05 := b0.cell 5 _ rfl
  have yb05 := b0.frozen 5
  go_wp2_with fail
  clear cb00 yb00 cb01 yb01 cb02 yb02 cb03 yb03 cb04 yb04 cb05 yb05
  have hg := only_store6 w2 (w.heap.size) (.bool s2) (.slice A2 n2 c2) (.slice D2 m2 e2) (.bool s3) (.slice A3 n3 c3) (.slice D3 m3 e3)
  have hB := b0.stored6 (.bool s2) (.slice A2 n2 c2) (.slice D2 m2 e2) (.bool s3) (.slice A3 n3 c3) (.slice D3 m3 e3)
  generalize hX : ((((((w2.setCell ⟨w.heap.size, 0, none⟩ (.bool s2)).setCell ⟨w.heap.size, 1, none⟩ (.slice A2 n2 c2)).setCell ⟨w.heap.size, 2, none⟩ (.slice D2 m2 e2)).setCell ⟨w.heap.size, 3, none⟩ (.bool s3)).setCell ⟨w.heap.size, 4, none⟩ (.slice A3 n3 c3)).setCell ⟨w.heap.size, 5, none⟩ (.slice D3 m3 e3)) = X3 at hg hB ⊢
  clear hX
  replace g2 := g2.kept b0 (by simp [notInt]) hg
  replace g3 := g3.kept b0 (by simp [notInt]) hg
  replace b0 := hB
  have hBs := below_only (Below.refl w.heap.size w2) hg (by omega) G0.size
  replace hT := hT.keep hBs hb
  replace G0 := only_below G0 hBs (Nat.le_refl _)
  replace hlt := Nat.lt_of_lt_of_le hlt hg.size
  clear hg hB hBs
  refine bodyPost_ret (ret_geop rfl rfl b0) rfl ?_
  exact ⟨_, _, s2, A2, n2, c2, D2, m2, e2, s3, A3, n3, c3, D3, m3, e3, rfl, g2, g3, hT, G0⟩
end
end Go.Proofs.YtancgkmkbgkncaaGreat
namespace Go.Proofs.YtancgkmkbgkncaaGreat
open Go.RowKit

section
variable {A0 A1 A2 A3 A4 A5 A6 A7 A8 A9 A10 A11 A12 A13 A14 A15 A16 A17 A18 A19 A20 A21 A22 A23 D0 D1 D2 D3 D4 D5 D6 D7 D8 D9 D10 D11 D12 D13 D14 D15 D16 D17 D18 D19 D20 D21 D22 D23 : Option Addr} {n0 n1 n2 n3 n4 n5 n6 n7 n8 n9 n10 n11 n12 n13 n14 n15 n16 n17 n18 n19 n20 n21 n22 n23 c0 c1 c2 c3 c4 c5 c6 c7 c8 c9 c10 c11 c12 c13 c14 c15 c16 c17 c18 c19 c20 c21 c22 c23 m0 m1 m2 m3 m4 m5 m6 m7 m8 m9 m10 m11 m12 m13 m14 m15 m16 m17 m18 m19 m20 m21 m22 m23 e0 e1 e2 e3 e4 e5 e6 e7 e8 e9 e10 e11 e12 e13 e14 e15 e16 e17 e18 e19 e20 e21 e22 e23 : Nat} {s0 s1 s2 s3 s4 s5 s6 s7 s8 s9 s10 s11 s12 s13 s14 s15 s16 s17 s18 s19 s20 s21 s22 s23 : Bool} {q0 q1 q2 q3 q4 q5 q6 q7 : Rat} {z0 z1 z2 z3 z4 z5 z6 z7 z8 z9 z10 z11 : Int} {L L0 L1 x y : Nat} {k : Int} {b : Bool} {w : World}
set_option maxRecDepth 100000 in
set_option maxHeartbeats 4000000 in
theorem lbase_v (h0 : NI w s0 (.slice A0 n0 c0) z0 L) (h1 : NI w s1 (.slice A1 n1 c1) z1 L) (h2 : NI w s2 (.slice A2 n2 c2) z2 L) (v0 : VL z0 z1 z2) (hL : L ≤ 10000) :
    Calls Tryz.prog 33 #[.agg #[.bool s0, .slice A0 n0 c0, .bool s1, .slice A1 n1 c1, .bool s2, .slice A2 n2 c2]] w fun e w' => ∃ s8 A8 n8 c8 D8 m8 e8 s9 A9 n9 c9 D9 m9 e9, e = .returned (.agg #[.bool s8, .slice A8 n8 c8, .slice D8 m8 e8, .bool s9, .slice A9 n9 c9, .slice D9 m9 e9]) ∧ NQ w' s8 (.slice A8 n8 c8) (.slice D8 m8 e8) (atX z0 z1 z2 ((0 : Int) : Rat)) (2 * (3 * max L 2 + 2) + 1) ∧ NQ w' s9 (.slice A9 n9 c9) (.slice D9 m9 e9) (atY z0 z1 z2 ((0 : Int) : Rat)) (2 * (3 * max L 2 + 2) + 1) ∧ Below w.heap.size w w' := by
  have V0 := Lib.hid v0
  clear v0
  have hM : L ≤ max L 2 := by omega
  have hM' : 2 ≤ max L 2 := by omega
  go_enter Tryz.func33, Tryz.ntmps33
  go_wp2_with fail
  obtain ⟨W0, hW, b0, b9, hbW, hszW0⟩ := boxes2 w #[.bool s0, .slice A0 n0 c0, .bool s1, .slice A1 n1 c1, .bool s2, .slice A2 n2 c2] #[.bool false, .slice none 0 0, .slice none 0 0, .bool false, .slice none 0 0, .slice none 0 0] 30 54
  rw [hW]
  clear hW
  replace h0 := h0.below hbW
  replace h1 := h1.below hbW
  replace h2 := h2.below hbW
  have H0 := hbW
  clear hbW
  have hD := drawn_below W0
  replace h0 := h0.below hD
  replace h1 := h1.below hD
  replace h2 := h2.below hD
  replace b0 := b0.below hD
  replace b9 := b9.below hD
  replace H0 := H0.trans (hD.mono H0.size)
  clear hD
  refine wp_region_noPanic ?_
  refine wp_region_held_drew (S := (fun V => V.cell? ⟨w.heap.size, 0, none⟩ = some (.bool s0) ∧ V.cell? ⟨w.heap.size, 1, none⟩ = some (.slice A0 n0 c0) ∧ V.cell? ⟨w.heap.size, 2, none⟩ = some (.bool s1) ∧ V.cell? ⟨w.heap.size, 3, none⟩ = some (.slice A1 n1 c1) ∧ V.cell? ⟨w.heap.size, 4, none⟩ = some (.bool s2) ∧ V.cell? ⟨w.heap.size, 5, none⟩ = some (.slice A2 n2 c2))) (by kernel_rfl) ⟨b0.cell 0 _ rfl, b0.cell 1 _ rfl, b0.cell 2 _ rfl, b0.cell 3 _ rfl, b0.cell 4 _ rfl, b0.cell 5 _ rfl⟩ (fun hHeld => ?_)
  generalize W0.drew = v1 at H0 hHeld h0 h1 h2 b0 b9 ⊢
  refine wpAnyH_take (i := 0) (v := ?_) rfl (by kernel_rfl) (by kernel_rfl) (by kernel_rfl) (fun _ _ _ h => h) (Or.inl ⟨by rfl, ?_⟩) (by assumption) ?_
  rotate_left
  · (intro w hSw; (try dsimp only at hSw); go_simp; (try with_reducible rfl))
  (try simp only [List.getElem_toArray, List.getElem_cons_zero, Act.put, List.setIfInBounds_toArray, List.set_cons_zero, List.set_cons_succ])
  refine wpAnyH_ready (rs := [1]) (by kernel_rfl) (by simp) (AllReadyH.cons (o := _) rfl (fun K hK => ?_) AllReadyH.nil)
  go_simp
  go_at_call 88
  refine (rfromint_v 0 (by decide) (by decide) _).mono ?_
  rintro e w2 ⟨s6, A6, n6, c6, D6, m6, e6, rfl, g6, hb⟩
  replace h0 := h0.below hb
  replace h1 := h1.below hb
  replace h2 := h2.below hb
  replace b0 := b0.below hb
  replace b9 := b9.below hb
  replace H0 := H0.trans (hb.mono H0.size)
  clear hb
  go_wp2_with fail
  refine hK.out _ _ ⟨b0.cell 0 _ rfl, b0.cell 1 _ rfl, b0.cell 2 _ rfl, b0.cell 3 _ rfl, b0.cell 4 _ rfl, b0.cell 5 _ rfl⟩ (fun hHeld => ?_)
  clear hK K
  (try simp only [List.getElem_toArray, List.getElem_cons_succ, List.getElem_cons_zero, Act.put, List.setIfInBounds_toArray, List.set_cons_zero, List.set_cons_succ])
  refine wpAnyH_ready (rs := [2]) (by kernel_rfl) (by simp) (AllReadyH.cons (o := _) rfl (fun K hK => ?_) AllReadyH.nil)
  go_simp
  go_at_call 35
  refine (lat_v (h0.more hM) (h1.more hM) (h2.more hM) V0.out (g6.more hM') (by omega)).mono ?_
  rintro e w3 ⟨s8, A8, n8, c8, D8, m8, e8, s9, A9, n9, c9, D9, m9, e9, rfl, g3, g4, hb⟩
  replace h0 := h0.below hb
  replace h1 := h1.below hb
  replace h2 := h2.below hb
  replace g6 := g6.below hb
  replace b0 := b0.below hb
  replace b9 := b9.below hb
  replace H0 := H0.trans (hb.mono H0.size)
  clear hb
  clear g6
  go_wp2_with fail
  refine hK.out _ _ ⟨b0.cell 0 _ rfl, b0.cell 1 _ rfl, b0.cell 2 _ rfl, b0.cell 3 _ rfl, b0.cell 4 _ rfl, b0.cell 5 _ rfl⟩ (fun hHeld => ?_)
  clear hK K
  (try simp only [List.getElem_toArray, List.getElem_cons_succ, List.getElem_cons_zero, Act.put, List.setIfInBounds_toArray, List.set_cons_zero, List.set_cons_succ])
  have cb90 := b9.cell 0 _ rfl
  have yb90 := b9.frozen 0
  have cb91 := b9.cell 1 _ rfl
  have yb91 := b9.frozen 1
  have cb92 := b9.cell 2 _ rfl
  have yb92 := b9.frozen 2
  have cb93 := b9.cell 3 _ rfl
  have yb93 := b9.frozen 3
  have cb94 := b9.cell 4 _ rfl
  have yb94 := b9.frozen 4
  have cb95 := b9.cell 5 _ rfl
  have yb95 := b9.frozen 5
  refine wpAnyH_ready (rs := [3]) (by kernel_rfl) (by simp) (AllReadyH.cons (o := _) rfl (fun K hK => ?_) AllReadyH.nil)
  go_simp
  clear cb90 yb90 cb91 yb91 cb92 yb92 cb93 yb93 cb94 yb94 cb95 yb95
  have hg := only_store6 w3 (w.heap.size + 1) (.bool s8) (.slice A8 n8 c8) (.slice D8 m8 e8) (.bool s9) (.slice A9 n9 c9) (.slice D9 m9 e9)
  have hB := b9.stored6 (.bool s8) (.slice A8 n8 c8) (.slice D8 m8 e8) (.bool s9) (.slice A9 n9 c9) (.slice D9 m9 e9)
  generalize hX : ((((((w3.setCell ⟨w.heap.size + 1, 0, none⟩ (.bool s8)).setCell ⟨w.heap.size + 1, 1, none⟩ (.slice A8 n8 c8)).setCell ⟨w.heap.size + 1, 2, none⟩ (.slice D8 m8 e8)).setCell ⟨w.heap.size + 1, 3, none⟩ (.bool s9)).setCell ⟨w.heap.size + 1, 4, none⟩ (.slice A9 n9 c9)).setCell ⟨w.heap.size + 1, 5, none⟩ (.slice D9 m9 e9)) = X4 at hg hB ⊢
  clear hX
  replace h0 := h0.kept b9 (by simp [notInt]) hg
  replace h1 := h1.kept b9 (by simp [notInt]) hg
  replace h2 := h2.kept b9 (by simp [notInt]) hg
  replace g3 := g3.kept b9 (by simp [notInt]) hg
  replace g4 := g4.kept b9 (by simp [notInt]) hg
  replace b0 := b0.other hg (by omega)
  replace b9 := hB
  replace H0 := below_only H0 hg (by omega) H0.size
  clear hg hB
  refine hK.out _ _ ⟨b0.cell 0 _ rfl, b0.cell 1 _ rfl, b0.cell 2 _ rfl, b0.cell 3 _ rfl, b0.cell 4 _ rfl, b0.cell 5 _ rfl⟩ (fun hHeld => ?_)
  clear hK K
  (try simp only [List.getElem_toArray, List.getElem_cons_succ, List.getElem_cons_zero, Act.put, List.setIfInBounds_toArray, List.set_cons_zero, List.set_cons_succ])
  refine wpAnyH_done (by kernel_rfl) ?_ _
  refine NoPanic.normal ?_
  go_wp2_with fail
  refine bodyPost_ret (ret_point rfl rfl b9) rfl ?_
  exact ⟨_, _, _, _, _, _, _, _, _, _, _, _, _, _, rfl, g3.more (by omega), g4.more (by omega), H0⟩
end
end Go.Proofs.YtancgkmkbgkncaaGreat
